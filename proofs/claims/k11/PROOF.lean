import PyProof.Rows.All
import Wide.All
import OpenK.AllK
import Wide.FinOn
import Lean
import PyProof.EqAt
import PyProof.EqKinds
import PyProof.TupleCall
import PySem.Challenge.RW_linepress_k11_set_by_choices
set_option Elab.async false
set_option bootstrap.genMatcherCode false
set_option genSizeOfSpec false
set_option genInjectivity false
set_option linter.all false
set_option maxRecDepth 100000
set_option maxHeartbeats 1000000
namespace L2
open PySem PySem.Spec PyProof.Rows
noncomputable abbrev Key := Sum Int Str
noncomputable abbrev _root_.tz9 := Str -> Addr
noncomputable abbrev _root_.tz0 := PySem.W.Frag
noncomputable abbrev _root_.tzA := Str -> Option Value
noncomputable abbrev _root_.tzB := List (Addr × Obj)
noncomputable def yh8 : Key -> Value -> Bool
 | .inl k, v => Value.isInt k v
 | .inr x, v => Value.isStrOf x v
noncomputable def yw7 (w : World) : Key -> Int
 | .inl k => hashInt k
 | .inr x => hashStr w x
theorem gL : ∀ {k : Key} {v : Value}, yh8 k v = true -> (∃ i t, k = Sum.inl i /\ v = Value.int i t) \/ (∃ x t, k = Sum.inr x /\ v = Value.str x t)
 | .inl i, v, h => by
  obtain ⟨t, e⟩ := Value.isInt_shape (k := i) (v := v) h
  exact .inl ⟨i, t, rfl, e⟩
 | .inr x, v, h => by
  obtain ⟨t, e⟩ := Value.isStrOf_shape (x := x) (v := v) h
  exact .inr ⟨x, t, rfl, e⟩
theorem ym5 (a b : Int) : decide ((Sum.inl a : Key) = Sum.inl b) = (a == b) := by
 by_cases e : a = b
 ·subst e; simp
 ·have h : ¬ (Sum.inl a : Key) = Sum.inl b := fun q => e (Sum.inl.inj q)
  rw [decide_eq_false h]
  exact (beq_eq_false_iff_ne.mpr e).symm
theorem ym6 (a b : Str) : decide ((Sum.inr a : Key) = Sum.inr b) = decide (a = b) := by
 by_cases e : a = b
 ·subst e; simp
 ·have h : ¬ (Sum.inr a : Key) = Sum.inr b := fun q => e (Sum.inr.inj q)
  rw [decide_eq_false h, decide_eq_false e]
theorem ym7 (a : Int) (b : Str) : decide ((Sum.inl a : Key) = Sum.inr b) = false := decide_eq_false (fun q => nomatch q)
theorem ym8 (a : Str) (b : Int) : decide ((Sum.inr a : Key) = Sum.inl b) = false := decide_eq_false (fun q => nomatch q)
noncomputable def za1 (prog : Program) (w : World) : PySem.KeyKind prog w Key where
 is := yh8
 hash := yw7 w
 inj := fun v a b ha hb => by
  rcases gL ha with ⟨i, t, rfl, rfl⟩ | ⟨x, t, rfl, rfl⟩
  ·rcases gL hb with ⟨j, u, rfl, e⟩ | ⟨y, u, rfl, e⟩
   ·injection e with e1 _; rw [e1]
   ·exact nomatch e
  ·rcases gL hb with ⟨j, u, rfl, e⟩ | ⟨y, u, rfl, e⟩
   ·exact nomatch e
   ·injection e with e1 _; rw [e1]
 byValue := fun k v h => by
  rcases gL h with ⟨i, t, rfl, rfl⟩ | ⟨x, t, rfl, rfl⟩ <;> rfl
 pyHash := fun hv h => by
  rcases gL hv with ⟨i, t, rfl, rfl⟩ | ⟨x, t, rfl, rfl⟩
  ·exact wpAny_pyHash_int h
  ·exact wpAny_pyHash_str h
 eqBool := fun hu hv h => by
  rcases gL hu with ⟨i, t, rfl, rfl⟩ | ⟨x, t, rfl, rfl⟩
  ·rcases gL hv with ⟨j, u, rfl, rfl⟩ | ⟨y, u, rfl, rfl⟩
   ·rw [ym5] at h; exact wpAny_eqBool_int h
   ·rw [ym7] at h; exact SeqAt.EqAt.int_str i t y u _ _ _ _ h
  ·rcases gL hv with ⟨j, u, rfl, rfl⟩ | ⟨y, u, rfl, rfl⟩
   ·rw [ym8] at h; exact SeqAt.EqAt.str_int x t j u _ _ _ _ h
   ·rw [ym6] at h; exact wpAny_eqBool_str h
 «strs» := fun k x t v h => by
  rcases gL h with ⟨i, u, rfl, e⟩ | ⟨y, u, rfl, e⟩
  ·exact nomatch e
  ·injection e with e1 _
   subst e1
   cases v <;> rfl
set_option genInjectivity true in
inductive V where
 | non | bl (b : Bool) | int (i : Int) | str (x : Str) | byt (b : Array UInt8) | flt (b : UInt64) | ref (a : Addr) | ty (n : String)
 deriving DecidableEq
noncomputable def cW : V -> Value -> Prop
 | .non, u => u = Value.none
 | .bl b, u => u = Value.bool b
 | .int i, u => ∃ t, u = Value.int i t
 | .str x, u => ∃ t, u = Value.str x t
 | .byt b, u => ∃ t, u = Value.bytes b t
 | .flt b, u => ∃ t, u = Value.float b t
 | .ref a, u => u = Value.ref a
 | .ty n, u => u = Value.type n
noncomputable abbrev cG : List V -> List Value -> Prop := Paired cW
theorem cG.length {xs : List V} {us : List Value} (r : cG xs us) : xs.length = us.length := Paired.length r
theorem cG.get : ∀ {xs : List V} {us : List Value} {i : Nat} {x : V}, cG xs us -> xs[i]? = some x -> ∃ u, us[i]? = some u /\ cW x u
 | _, _, _, _, .nil, e => by simp at e
 | _, _, 0, _, .cons r _, e => by simp at e; subst e; exact ⟨_, rfl, r⟩
 | _, _, i + 1, x, .cons _ t, e => by
  obtain ⟨u, h1, h2⟩ := cG.get (i := i) (x := x) t (by simpa using e)
  exact ⟨u, by simpa using h1, h2⟩
theorem cG.set {x : V} {u : Value} (r : cW x u) : ∀ {xs : List V} {us : List Value} (i : Nat), cG xs us -> cG (xs.set i x) (us.set i u)
 | _, _, _, .nil => .nil
 | _, _, 0, .cons _ t => .cons r t
 | _, _, i + 1, .cons q t => .cons q (cG.set r i t)
theorem cG.append : ∀ {xs ys : List V} {us ws : List Value}, cG xs us -> cG ys ws -> cG (xs ++ ys) (us ++ ws)
 | _, _, _, _, .nil, s => s
 | _, _, _, _, .cons r t, s => .cons r (cG.append t s)
noncomputable def oY : Option V -> Option Value -> Prop
 | some v, some u => cW v u
 | none, none => True
 | _, _ => False
noncomputable def KV {U : Type} : List (U × V) -> List (U × Value) -> Prop := Paired fun (p : U × V) (q : U × Value) => p.1 = q.1 /\ cW p.2 q.2
noncomputable def kV : Key -> V
 | .inl i => .int i
 | .inr x => .str x
inductive HO where
 | lst (xs : List V)
 | tup (xs : List V)
 | dK (kvs : List (Key × V)) | dT (kvs : List (List Key × V))
 | set (S : Int -> Bool) (n : Nat)
 | ins (C dx : Addr) (fs : List (Str × V))
 | own (x : Addr)
 | xd (fs : List (Str × V))
 | met (f x : Addr)
 | rng (lo hi : Int)
 | frz (o : Obj) (u : HO)
 | tbl (ps : Array Value)
 | ext (φ : Heap -> Prop)
noncomputable abbrev Hp := Addr -> Option HO
noncomputable def upd (H : Hp) (a : Addr) (o : HO) : Hp := fun b => if b = a then some o else H b
theorem eE {H : Hp} {a : Addr} {o : HO} : upd H a o a = some o := by unfold upd; rw [if_pos rfl]
theorem cM {H : Hp} {a b : Addr} {o : HO} (h : b ≠ a) : upd H a o b = H b := by unfold upd; rw [if_neg h]
theorem lH {H : Hp} {a b : Addr} {o : HO} (h : H a = some o) (h' : H b = none) : a ≠ b := by
 intro e; subst e; rw [h] at h'; cases h'
section
variable (P : Program) (w : World)
noncomputable def fM (H : Hp) (h : Heap) (a : Addr) : HO -> Prop
 | .lst xs => xs.length <= sizeLine /\ ∃ (its : List Value) (n : Nat), cG xs its /\ h.get? a = some { cls := .type "list", data := .seq its.toArray n }
 | .tup xs => xs.length <= sizeLine /\ ∃ its : List Value, cG xs its /\ IsTup h a its.toArray
 | .dK kvs => kvs.length <= sizeLine /\ (a == sysModules) = false /\ ∃ vs, KV kvs vs /\ h.DictOf (za1 P w) a vs
 | .dT kvs => kvs.length <= sizeLine /\ (a == sysModules) = false /\ ∃ xs : List (List Key × Addr × Value),
   Paired (fun (p : List Key × V) (q : List Key × Addr × Value) => p.1 = q.1 /\ H q.2.1 = some (.tup (p.1.map kV)) /\ cW p.2 q.2.2) kvs xs /\
   ∃ o es ep, h.get? a = some o /\ o.ExactDict /\ o.data = .dict es ep /\ es.toList = xs.map (entryOfKey (tupleKind (za1 P w))) /\ (xs.map (·.1)).Nodup
 | .set S n => h.SetOf (intKind P w) a S n
 | .ins C dx fs => H dx = some (.own a) /\ fs.length <= 1000 /\ dx ≠ a /\ h.get? a = some (PySem.W.instObj C dx) /\
   ∃ mA, h.Ns1 dx mA /\ (∀ f, oY (fs.lookup f) (mA f)) /\ PySem.Within mA (fs.map (·.1))
 | .own _ => ∃ o, h.get? a = some o
 | .xd fs => ∃ mA, h.Ns1 a mA /\ ∀ f, oY (fs.lookup f) (mA f)
 | .rng lo hi => ∃ t u v, h.get? a = some { cls := .type "range", data := .fields #[.int lo t, .int hi u, .int 1 v] }
 | .frz o u => h.get? a = some o /\ fM H h a u
 | .tbl ps => h.get? a = some { cls := .none, data := .fields ps }
 | .met f x => h.get? a = some (PySem.W.methodObj (.ref f) (.ref x))
 | .ext φ => φ h /\ (∃ o, h.get? a = some o) /\ ∀ h1 h2 : Heap, φ h1 -> (∀ o, h1.get? a = some o -> h2.get? a = some o) -> φ h2
noncomputable def HOk (H : Hp) (h : Heap) : Prop := ∀ a o, H a = some o -> fM P w H h a o
end
section
variable {P : Program} {w : World} {H H' : Hp} {h h' : Heap} {a : Addr} {o : HO}
theorem fM.lt (x : fM P w H h a o) : a < h.objs.size := by
 cases o with
 | lst xs => obtain ⟨_, _, _, _, e⟩ := x; exact Heap.lt_size e
 | tup xs => obtain ⟨_, _, _, p⟩ := x; exact p.lt
 | dK kvs => obtain ⟨_, _, _, _, o, _, _, e, _⟩ := x; exact Heap.lt_size e
 | dT kvs => obtain ⟨_, _, _, _, o, _, _, e, _⟩ := x; exact Heap.lt_size e
 | set S n => obtain ⟨o, _, _, _, e, _⟩ := x; exact Heap.lt_size e
 | ins C dx fs => obtain ⟨_, _, _, e, _⟩ := x; exact Heap.lt_size e
 | own y => obtain ⟨_, e⟩ := x; exact Heap.lt_size e
 | xd fs => obtain ⟨_, ⟨_, _, _, e, _⟩, _⟩ := x; exact Heap.lt_size e
 | rng lo hi => obtain ⟨_, _, _, e⟩ := x; exact Heap.lt_size e
 | frz ob u => obtain ⟨e, _⟩ := x; exact Heap.lt_size e
 | tbl ps => exact Heap.lt_size (show h.get? a = some _ from x)
 | met f y => exact Heap.lt_size (show h.get? a = some _ from x)
 | ext φ => obtain ⟨_, ⟨_, e⟩, _⟩ := x; exact Heap.lt_size e
theorem Paired.mapP {α β : Type} {F G : α -> β -> Prop} : ∀ {l₁ : List α} {l₂ : List β}, Paired F l₁ l₂ -> (∀ a b, F a b -> G a b) -> Paired G l₁ l₂
 | _, _, .nil, _ => .nil
 | _, _, .cons r t, f => .cons (f _ _ r) (Paired.mapP t f)
theorem fM.stay (x : fM P w H h a o) (k : ∀ b u, (b = a \/ H b = some (.own a)) -> h.get? b = some u -> h'.get? b = some u)
  (ho : ∀ b, H b = some (.own a) -> H' b = some (.own a)) (ht : ∀ b xs, H b = some (.tup xs) -> H' b = some (.tup xs)) : fM P w H' h' a o := by
 induction o with
 | lst xs => obtain ⟨z, its, n, r, e⟩ := x; exact ⟨z, its, n, r, k _ _ (.inl rfl) e⟩
 | tup xs => obtain ⟨z, its, r, ob, e, c⟩ := x; exact ⟨z, its, r, ob, k _ _ (.inl rfl) e, c⟩
 | dK kvs => obtain ⟨z, y, vs, r, ob, es, ep, e, c⟩ := x; exact ⟨z, y, vs, r, ob, es, ep, k _ _ (.inl rfl) e, c⟩
 | dT kvs =>
  obtain ⟨z, y, xs, r, ob, es, ep, e, c⟩ := x
  exact ⟨z, y, xs, Paired.mapP r fun p q z => ⟨z.1, ht _ _ z.2.1, z.2.2⟩, ob, es, ep, k _ _ (.inl rfl) e, c⟩
 | set S n => obtain ⟨ob, es, ep, t, e, c⟩ := x; exact ⟨ob, es, ep, t, k _ _ (.inl rfl) e, c⟩
 | ins C dx fs =>
  obtain ⟨d, z, ne, e, mA, ⟨od, es, ep, e2, c⟩, r⟩ := x
  exact ⟨ho _ d, z, ne, k _ _ (.inl rfl) e, mA, ⟨od, es, ep, k _ _ (.inr d) e2, c⟩, r⟩
 | own y => obtain ⟨ob, e⟩ := x; exact ⟨ob, k _ _ (.inl rfl) e⟩
 | xd fs => obtain ⟨mA, ⟨od, es, ep, e, c⟩, r⟩ := x; exact ⟨mA, ⟨od, es, ep, k _ _ (.inl rfl) e, c⟩, r⟩
 | rng lo hi => obtain ⟨t, u, v, e⟩ := x; exact ⟨t, u, v, k _ _ (.inl rfl) e⟩
 | frz ob u ih => obtain ⟨e, q⟩ := x; exact ⟨k _ _ (.inl rfl) e, ih q⟩
 | tbl ps =>
  have e : h.get? a = some { cls := .none, data := .fields ps } := x
  show h'.get? a = some { cls := .none, data := .fields ps }
  exact k a _ (.inl rfl) e
 | met f y =>
  have e : h.get? a = some (PySem.W.methodObj (.ref f) (.ref y)) := x
  show h'.get? a = some (PySem.W.methodObj (.ref f) (.ref y))
  exact k a _ (.inl rfl) e
 | ext φ => obtain ⟨p, ⟨o, e⟩, st⟩ := x; exact ⟨st _ _ p fun o q => k _ _ (.inl rfl) q, ⟨o, k _ _ (.inl rfl) e⟩, st⟩
theorem HOk.lt (x : HOk P w H h) (e : H a = some o) : a < h.objs.size := (x a o e).lt
theorem HOk.fresh (x : HOk P w H h) (e : h.objs.size <= a) : H a = none := by
 cases q : H a with
 | none => rfl
 | some u => exact absurd (Nat.lt_of_lt_of_le (x.lt q) e) (Nat.lt_irrefl _)
theorem HOk.kept (x : HOk P w H h) (k : ∀ b u, h.get? b = some u -> h'.get? b = some u) : HOk P w H h' := fun a o e =>
 (x a o e).stay (fun b u _ q => k b u q) (fun _ q => q) fun _ _ q => q
theorem HOk.laid (x : HOk P w H h) (k : ∀ b u, h.get? b = some u -> h'.get? b = some u) (hp : h.objs.size <= a) (new : fM P w (upd H a o) h' a o) : HOk P w (upd H a o) h' := fun b u e => by
 have hn := x.fresh hp
 by_cases hb : b = a
 ·subst hb; rw [eE] at e; cases e; exact new
 ·rw [cM hb] at e
  exact (x b u e).stay (fun c v _ q => k c v q) (fun c q => by rw [cM (lH q hn)]; exact q) fun c xs q => by rw [cM (lH q hn)]; exact q
end
noncomputable def Rd (H : Hp) (a : Addr) (u : HO) : Prop := H a = some u \/ ∃ o, H a = some (.frz o u)
theorem Rd.ok {P : Program} {w : World} {H : Hp} {h : Heap} {a : Addr} {u : HO} (r : Rd H a u) (x : HOk P w H h) : fM P w H h a u := by
 rcases r with r | ⟨o, r⟩
 ·exact x a u r
 ·obtain ⟨_, q⟩ := x a _ r
  exact q
noncomputable def Mut : Option HO -> Prop
 | some (.lst _) => True
 | some (.dK _) => True
 | some (.dT _) => True
 | some (.set _ _) => True
 | some (.ins _ _ _) => True
 | some (.ext _) => True
 | _ => False
section
variable {P : Program} {w : World} {H : Hp} {h h' : Heap} {x e : Addr} {o' : HO}
theorem HOk.write (ok : HOk P w H h) (mu : Mut (H x)) (he : e = x \/ H e = some (.own x)) (k : ∀ b u, b ≠ e -> h.get? b = some u -> h'.get? b = some u) (heo : ∃ u, h'.get? e = some u)
  (new : fM P w (upd H x o') h' x o') : HOk P w (upd H x o') h' := fun b u q => by
 have nown : ∀ c y, H c = some (.own y) -> c ≠ x := fun c y r z => by subst z; rw [r] at mu; exact mu
 have ntup : ∀ c xs, H c = some (.tup xs) -> c ≠ x := fun c xs r z => by subst z; rw [r] at mu; exact mu
 by_cases hb : b = x
 ·subst hb; rw [eE] at q; cases q; exact new
 ·rw [cM hb] at q
  by_cases hbe : b = e
  ·have q' : H b = some (.own x) := by
    rcases he with z | z
    ·exact absurd (hbe.trans z) hb
    ·rw [hbe]; exact z
   rw [q] at q'; cases q'
   obtain ⟨v, hv⟩ := heo
   exact ⟨v, by rw [hbe]; exact hv⟩
  ·refine (ok b u q).stay (fun c v hc r => k c v ?_ r) (fun c r => by rw [cM (nown c b r)]; exact r) fun c xs r => by rw [cM (ntup c xs r)]; exact r
   rcases hc with rfl | hc
   ·exact hbe
   ·rintro rfl
    rcases he with z | z
    ·exact nown c b hc z
    ·rw [hc] at z; cases z; exact hb rfl
end
structure Un (fs ex : List Addr) (H H' : Hp) (h h' : Heap) : Prop where
 keep : ∀ b o, h.get? b = some o -> H b = none -> b ∉ fs -> b ∉ ex -> h'.get? b = some o
 slot : ∀ b o, h.get? b = some o -> H b = none -> b ∈ fs -> b ∉ ex -> ∃ sl, h'.get? b = some { o with slots := sl }
 free : ∀ b o, h.get? b = some o -> H b = none -> b ∉ ex -> H' b = none
 there : ∀ b o, h.get? b = some o -> b ∉ ex -> ∃ o', h'.get? b = some o'
 tups : ∀ b xs, H b = some (.tup xs) -> H' b = some (.tup xs)
 frzs : ∀ b o u, H b = some (.frz o u) -> H' b = some (.frz o u)
 tbls : ∀ b ps, H b = some (.tbl ps) -> ∃ more, H' b = some (.tbl (ps ++ more))
section
variable {fs fs' ex ex' : List Addr} {H H1 H2 : Hp} {h h1 h2 h' : Heap} {a x e : Addr} {o : HO}
theorem Un.any (u : Un fs ex H H1 h h1) {b : Addr} {ob : Obj} (q : h.get? b = some ob) (n : H b = none) (hx : b ∉ ex) : ∃ sl, h1.get? b = some { ob with slots := sl } := by
 by_cases hb : b ∈ fs
 ·exact u.slot b ob q n hb hx
 ·exact ⟨ob.slots, u.keep b ob q n hb hx⟩
theorem Un.trans (a : Un fs ex H H1 h h1) (b : Un fs ex H1 H2 h1 h2) : Un fs ex H H2 h h2 where
 keep := fun c ob q n hc hx => b.keep c ob (a.keep c ob q n hc hx) (a.free c ob q n hx) hc hx
 slot := fun c ob q n hc hx => by
  obtain ⟨sl, e1⟩ := a.slot c ob q n hc hx
  obtain ⟨sl', e2⟩ := b.slot c _ e1 (a.free c ob q n hx) hc hx
  exact ⟨sl', e2⟩
 free := fun c ob q n hx => by
  obtain ⟨o', e1⟩ := a.there c ob q hx
  exact b.free c o' e1 (a.free c ob q n hx) hx
 there := fun c ob q hx => by
  obtain ⟨o', e1⟩ := a.there c ob q hx
  exact b.there c o' e1 hx
 tups := fun c xs q => b.tups c xs (a.tups c xs q)
 frzs := fun c ob xs q => b.frzs c ob xs (a.frzs c ob xs q)
 tbls := fun c ps q => by
  obtain ⟨m1, e1⟩ := a.tbls c ps q
  obtain ⟨m2, e2⟩ := b.tbls c _ e1
  exact ⟨m1 ++ m2, by rw [e2, Array.append_assoc]⟩
theorem Un.kept (k : ∀ b u, h.get? b = some u -> h'.get? b = some u) : Un fs ex H H h h' :=
 ⟨fun b ob q _ _ _ => k b ob q, fun b ob q _ _ _ => ⟨ob.slots, k b ob q⟩, fun _ _ _ n _ => n, fun b ob q _ => ⟨ob, k b ob q⟩, fun _ _ q => q, fun _ _ _ q => q, fun _ ps q => ⟨#[], by rw [q]; simp⟩⟩
theorem Un.refl : Un fs ex H H h h := Un.kept fun _ _ q => q
theorem Un.laid (k : ∀ b u, h.get? b = some u -> h'.get? b = some u) (hp : h.objs.size <= a) (hn : H a = none) : Un fs ex H (upd H a o) h h' where
 keep := fun b u q _ _ _ => k b u q
 slot := fun b u q _ _ _ => ⟨u.slots, k b u q⟩
 free := fun b u q n _ => by rw [cM (Nat.ne_of_lt (Nat.lt_of_lt_of_le (Heap.lt_size q) hp))]; exact n
 there := fun b u q _ => ⟨u, k b u q⟩
 tups := fun b xs q => by rw [cM (lH q hn)]; exact q
 frzs := fun b u xs q => by rw [cM (lH q hn)]; exact q
 tbls := fun b ps q => ⟨#[], by rw [cM (lH q hn), q]; simp⟩
theorem Un.write (mu : Mut (H x)) (he : e = x \/ H e = some (.own x)) (k : ∀ b u, b ≠ e -> h.get? b = some u -> h'.get? b = some u) (heo : ∃ u, h'.get? e = some u) : Un fs ex H (upd H x o) h h' := by
 have hx : ∀ b, H b = none -> b ≠ x := fun b n z => by subst z; rw [n] at mu; exact mu
 have hb : ∀ b, H b = none -> b ≠ e := fun b n z => by
  subst z
  rcases he with r | r
  ·exact hx b n r
  ·rw [n] at r; cases r
 have hm : ∀ b u, H b = some u -> ¬ Mut (some u) -> b ≠ x := fun b u q nm z => by subst z; rw [q] at mu; exact nm mu
 refine ⟨fun b u q n _ _ => k b u (hb b n) q, fun b u q n _ _ => ⟨u.slots, k b u (hb b n) q⟩, fun b u q n _ => by rw [cM (hx b n)]; exact n, fun b u q _ => ?_,
  fun b xs q => by rw [cM (hm b _ q fun z => z)]; exact q, fun b u xs q => by rw [cM (hm b _ q fun z => z)]; exact q, fun b ps q => ⟨#[], by rw [cM (hm b _ q fun z => z), q]; simp⟩⟩
 by_cases hbe : b = e
 ·subst hbe; exact heo
 ·exact ⟨u, k b u hbe q⟩
theorem Un.mono (u : Un fs ex H H1 h h1) (hs : ∀ b ∈ fs, b ∈ fs') (hx : ∀ b ∈ ex, b ∈ ex') : Un fs' ex' H H1 h h1 :=
 ⟨fun b ob q n hb he => u.keep b ob q n (fun z => hb (hs b z)) fun z => he (hx b z), fun _ _ q n _ he => u.any q n fun z => he (hx _ z), fun b ob q n he => u.free b ob q n fun z => he (hx b z), fun b ob q he => u.there b ob q fun z => he (hx b z), u.tups, u.frzs, u.tbls⟩
end
noncomputable def trk (h : Heap) (H : Hp) : List Addr := (List.range h.objs.size).filter fun a => (H a).isSome
noncomputable def sS (h : Heap) (H : Hp) : Heap := PySem.W.hideAll h (trk h H)
theorem zu4 (h : Heap) (H : Hp) : (sS h H).objs.size = h.objs.size := PySem.W.hideAll_size _ _
theorem yb7 {h : Heap} {H : Hp} {b : Addr} {o : Obj} (e : h.get? b = some o) (n : H b = none) : (sS h H).get? b = some o :=
 PySem.W.hideAll_get _ e fun hm => by
  have q : (H b).isSome = true := (List.mem_filter.mp hm).2
  rw [n] at q; simp at q
theorem yi4 {h : Heap} {H : Hp} {b : Addr} {o : Obj} (e : (sS h H).get? b = some o) : h.get? b = some o /\ H b = none := by
 have e' : h.get? b = some o := PySem.W.of_hideAll (trk h H) e
 refine ⟨e', ?_⟩
 cases q : H b with
 | none => rfl
 | some x =>
  have hm : b ∈ trk h H := List.mem_filter.mpr ⟨List.mem_range.mpr (Heap.lt_size e'), by simp [q]⟩
  have z : (sS h H).get? b = none := PySem.W.hideAll_none (trk h H) hm
  rw [z] at e; cases e
structure Mod (K : tz0) (mg : tzA) (base : Heap) : Prop where
 kin : K.In base
 glob : base.Ns mainGlobals mg
 blt : ∃ mb, base.Ns builtinsNs mb /\ ∀ x : Str, x ≠ "__name__" -> mb x = bootBuiltins x
 nolimit : base.NoLimit
structure Cx where
 prog : Program
 w : World
 K : tz0
 mg : tzA
 base : Heap
 A : Around
 N : List Str
 s₀ : Shared
 H₀ : Hp
 env : Env
 outer : List Env
 stack : List Env
 ex : List Addr
 fn : Str -> Bool
 calm : Bool
 pn : tzB
 xe : Value -> Shared -> Prop
noncomputable def frs (l : List Env) : List Addr := l.filterMap (·.frame)
noncomputable abbrev Cx.fs (X : Cx) : List Addr := frs X.outer
noncomputable def Vis (sc : Scope) (x : Str) : Prop := sc.names.lookup x = some .local \/ sc.names.lookup x = some .cell \/ sc.names.lookup x = some .free
noncomputable def Loc (sc : Scope) (x : Str) : Prop := sc.names.lookup x = some .local \/ sc.names.lookup x = some .cell
noncomputable def yw8 (env : Env) (h : Heap) (m : tzA) (x : Str) (u : Value) : Prop :=
 (env.kindOf x = some .local /\ m x = some u) \/ ((env.kindOf x = some .cell \/ env.kindOf x = some .free) /\ ∃ c, env.cells.lookup x = some c /\ h.IsCell c (some u))
structure Cx.Ok (X : Cx) : Prop where
 mod : Mod X.K X.mg X.base
 kind : X.env.scope.kind = .function
 glob : X.env.globals = mainGlobals
 blt : X.env.builtins = builtinsNs
 above : X.s₀.heap.objs.size <= X.env.locals
 inj : ∀ x y c, X.env.cells.lookup x = some c -> X.env.cells.lookup y = some c -> x = y
 has : ∀ x, (X.env.kindOf x = some .cell \/ X.env.kindOf x = some .free) -> ∃ c, X.env.cells.lookup x = some c
 cab : ∀ x c, X.fn x = true -> X.env.cells.lookup x = some c -> X.s₀.heap.objs.size <= c
 hd : X.calm = true -> X.A.handled = none
 frames : X.A.frames = some X.stack
 stk : X.stack = X.outer \/ (X.stack = X.env :: X.outer /\ X.env.frame = some X.env.locals)
 exf : ∀ b ∈ X.ex, b ≠ X.env.locals /\ ∀ x c, X.env.cells.lookup x = some c -> c ≠ b
 bs : ∀ b o, X.base.get? b = some o -> X.s₀.heap.get? b = some o /\ X.H₀ b = none
 bsz : X.base.objs.size <= X.s₀.heap.objs.size
 noex : ∀ b o, X.base.get? b = some o -> b ∉ X.ex
 exfs : ∀ b ∈ X.ex, b ∉ X.fs
 funs : X.s₀.heap.FunFrames X.base X.outer
 frf : ∀ b ∈ X.fs, X.H₀ b = none
structure Inv (X : Cx) (pins : tzB) (σ : List (Option V)) (H : Hp) (s : Shared) : Prop where
 ok : X.Ok
 os : s.os = X.s₀.os
 bare : AllBare s.gens
 base : Un X.fs X.ex X.H₀ H X.s₀.heap s.heap
 loc : ∃ m, s.heap.Ns X.env.locals m /\ ∀ (i : Nat) (x : Str) (v : V), X.N[i]? = some x -> σ[i]? = some (some v) -> Vis X.env.scope x -> ∃ u, cW v u /\ yw8 X.env s.heap m x u
 cell : ∀ x c, X.env.cells.lookup x = some c -> ∃ v, s.heap.IsCell c v
 free : H X.env.locals = none
 freeC : ∀ x c, X.env.cells.lookup x = some c -> H c = none
 pin : ∀ p ∈ X.pn ++ pins, s.heap.get? p.1 = some p.2 /\ H p.1 = none /\ p.1 ≠ X.env.locals /\ p.1 ∉ X.fs /\ ∀ v, p.2.data ≠ .cell v
 hok : HOk X.prog X.w H s.heap
 len : σ.length = X.N.length
section
variable {X : Cx} {pins : tzB} {σ : List (Option V)} {H H' : Hp} {s : Shared} {h' : Heap}
theorem Cx.Ok.nofr (ok : X.Ok) {b : Addr} {o : Obj} (e : X.base.get? b = some o) : b ∉ X.fs := fun hb => by
 have := (ok.funs.mem hb).1
 rw [e] at this; cases this
theorem Inv.bs (I : Inv X pins σ H s) : ∀ b o, X.base.get? b = some o -> s.heap.get? b = some o /\ H b = none := fun b o e =>
 ⟨I.base.keep b o (I.ok.bs b o e).1 (I.ok.bs b o e).2 (I.ok.nofr e) (I.ok.noex b o e), I.base.free b o (I.ok.bs b o e).1 (I.ok.bs b o e).2 (I.ok.noex b o e)⟩
theorem Inv.bk (I : Inv X pins σ H s) : ∀ b o, X.base.get? b = some o -> s.heap.get? b = some o := fun b o e => (I.bs b o e).1
theorem Inv.mod (I : Inv X pins σ H s) : Mod X.K X.mg X.base := I.ok.mod
theorem Inv.kIn (I : Inv X pins σ H s) : X.K.In s.heap := I.ok.mod.kin.keeps I.bk
theorem Inv.lt (I : Inv X pins σ H s) : X.env.locals < s.heap.objs.size := let ⟨_, hn, _⟩ := I.loc; hn.lt
theorem Inv.sz (I : Inv X pins σ H s) : X.s₀.heap.objs.size <= s.heap.objs.size := Nat.le_trans I.ok.above (Nat.le_of_lt I.lt)
theorem Inv.nofs (I : Inv X pins σ H s) {a : Addr} (h : s.heap.objs.size <= a) : a ∉ X.fs := fun hb => by
 obtain ⟨_, o, ho, _⟩ := I.ok.funs.mem hb
 exact absurd (Nat.lt_of_lt_of_le (Heap.lt_size ho) (Nat.le_trans I.sz h)) (Nat.lt_irrefl _)
theorem Inv.cne (I : Inv X pins σ H s) : ∀ x c, X.env.cells.lookup x = some c -> c ≠ X.env.locals := fun x c e z => by
 obtain ⟨v, o, ho, hd⟩ := I.cell x c e
 obtain ⟨m, ⟨o', es, ep, ho', hd', _⟩, _⟩ := I.loc
 rw [z, ho'] at ho; cases ho; rw [hd'] at hd; cases hd
theorem Inv.funs (I : Inv X pins σ H s) : s.heap.FunFrames X.base X.outer := by
 have all : ∀ (l : List Env), (∀ b ∈ frs l, b ∈ X.fs) -> X.s₀.heap.FunFrames X.base l -> s.heap.FunFrames X.base l := by
  intro l
  induction l with
  | nil => intro _ _; trivial
  | cons env r ih =>
   intro hs hl
   obtain ⟨hk, ⟨L, o, hf, hn, ho, hd⟩, hr⟩ := hl
   have hL : L ∈ X.fs := hs L (by unfold frs; rw [List.filterMap_cons, hf]; exact List.mem_cons_self)
   obtain ⟨sl, e⟩ := I.base.slot L o ho (I.ok.frf L hL) hL fun z => I.ok.exfs L z hL
   exact ⟨hk, ⟨L, _, hf, hn, e, hd⟩, ih (fun b hb => hs b (by unfold frs; rw [List.filterMap_cons, hf]; exact List.mem_cons_of_mem _ hb)) hr⟩
 exact all X.outer (fun _ hb => hb) I.ok.funs
theorem Inv.stack (I : Inv X pins σ H s) : s.heap.FunFrames X.base X.stack := by
 rcases I.ok.stk with e | ⟨e, hf⟩
 ·rw [e]; exact I.funs
 ·rw [e]
  obtain ⟨m, hn, _⟩ := I.loc
  refine .cons (by rw [I.ok.kind]; decide) hf hn ?_ I.funs
  exact Heap.get?_none_of_le (Nat.le_trans I.ok.bsz I.ok.above)
theorem Inv.stkSub (I : Inv X pins σ H s) : ∀ b ∈ frs X.stack, b ∈ X.env.locals :: X.fs := fun b hb => by
 rcases I.ok.stk with e | ⟨e, hf⟩
 ·rw [e] at hb; exact List.mem_cons_of_mem _ hb
 ·rw [e] at hb
  unfold frs at hb
  rw [List.filterMap_cons, hf] at hb
  exact hb
theorem Inv.stkFree (I : Inv X pins σ H s) : ∀ b ∈ frs X.stack, H b = none := fun b hb => by
 rcases List.mem_cons.mp (I.stkSub b hb) with e | hb
 ·rw [e]; exact I.free
 ·obtain ⟨_, o, ho, _⟩ := I.ok.funs.mem hb
  exact I.base.free b o ho (I.ok.frf b hb) fun z => I.ok.exfs b z hb
theorem Inv.step {g' : Array GenState} {t' : Nat} {d' : Drawn} {ch : List Addr} (I : Inv X pins σ H s)
  (hch : ∀ b ∈ ch, (b ∈ X.ex \/ X.s₀.heap.objs.size <= b) /\ b ≠ X.env.locals /\ (∀ x c, X.env.cells.lookup x = some c -> c ≠ b) /\ ∀ p ∈ X.pn ++ pins, p.1 ≠ b)
  (keep : ∀ b o, b ≠ X.env.locals -> b ∉ X.fs -> b ∉ ch -> s.heap.get? b = some o -> H b = none -> h'.get? b = some o)
  (slot : ∀ b o, b ≠ X.env.locals -> b ∈ X.fs -> b ∉ ch -> s.heap.get? b = some o -> H b = none -> ∃ sl, h'.get? b = some { o with slots := sl }) (free : ∀ b o, b ∉ ch -> s.heap.get? b = some o -> H b = none -> H' b = none)
  (there : ∀ b o, b ∉ ch -> s.heap.get? b = some o -> ∃ o', h'.get? b = some o')
  (tups : ∀ b xs, H b = some (.tup xs) -> H' b = some (.tup xs)) (frzs : ∀ b o u, H b = some (.frz o u) -> H' b = some (.frz o u)) (tbls : ∀ b ps, H b = some (.tbl ps) -> ∃ more, H' b = some (.tbl (ps ++ more)))
  (ns : ∀ m, s.heap.Ns X.env.locals m -> h'.Ns X.env.locals m) (hok : HOk X.prog X.w H' h') (hg : AllBare g') :
  Inv X pins σ H' { s with heap := h', gens := g', drawn := d', toks := t' } := by
 have neL : ∀ b o, X.s₀.heap.get? b = some o -> b ≠ X.env.locals := fun b o e => Nat.ne_of_lt (Nat.lt_of_lt_of_le (Heap.lt_size e) I.ok.above)
 have neC : ∀ b o, X.s₀.heap.get? b = some o -> b ∉ X.ex -> b ∉ ch := fun b o e hx hb => by
  rcases (hch b hb).1 with z | z
  ·exact hx z
  ·exact absurd (Nat.lt_of_lt_of_le (Heap.lt_size e) z) (Nat.lt_irrefl _)
 have cellK : ∀ x c, X.env.cells.lookup x = some c -> ∀ v, s.heap.IsCell c v -> h'.IsCell c v := fun x c e v ⟨o, ho, hd⟩ => by
  have nch : c ∉ ch := fun z => (hch c z).2.2.1 x c e rfl
  by_cases hc : c ∈ X.fs
  ·obtain ⟨sl, q⟩ := slot c o (I.cne x c e) hc nch ho (I.freeC x c e)
   exact ⟨_, q, hd⟩
  ·exact ⟨o, keep c o (I.cne x c e) hc nch ho (I.freeC x c e), hd⟩
 refine ⟨I.ok, I.os, hg, ⟨fun b o e n hb hx => ?_, fun b o e n hb hx => ?_, fun b o e n hx => ?_, fun b o e hx => ?_, fun b xs e => tups b xs (I.base.tups b xs e), fun b o xs e => frzs b o xs (I.base.frzs b o xs e), fun b ps e => ?_⟩, ?_, fun x c e => ?_, ?_, fun x c e => ?_, fun p hp => ?_, hok, I.len⟩
 ·exact keep b o (neL b o e) hb (neC b o e hx) (I.base.keep b o e n hb hx) (I.base.free b o e n hx)
 ·obtain ⟨sl, e1⟩ := I.base.slot b o e n hb hx
  obtain ⟨sl', e2⟩ := slot b _ (neL b o e) hb (neC b o e hx) e1 (I.base.free b o e n hx)
  exact ⟨sl', e2⟩
 ·obtain ⟨o', e1⟩ := I.base.there b o e hx
  exact free b o' (neC b o e hx) e1 (I.base.free b o e n hx)
 ·obtain ⟨o', e1⟩ := I.base.there b o e hx
  exact there b o' (neC b o e hx) e1
 ·obtain ⟨m1, e1⟩ := I.base.tbls b ps e
  obtain ⟨m2, e2⟩ := tbls b _ e1
  exact ⟨m1 ++ m2, by rw [e2, Array.append_assoc]⟩
 ·obtain ⟨m, hn, hl⟩ := I.loc
  refine ⟨m, ns m hn, fun i x v e1 e2 e3 => ?_⟩
  obtain ⟨u, r, l⟩ := hl i x v e1 e2 e3
  refine ⟨u, r, ?_⟩
  rcases l with l | ⟨k, c, e, z⟩
  ·exact .inl l
  ·exact .inr ⟨k, c, e, cellK x c e _ z⟩
 ·obtain ⟨v, z⟩ := I.cell x c e
  exact ⟨v, cellK x c e v z⟩
 ·obtain ⟨m, ⟨o, _, _, ho, _⟩, _⟩ := I.loc
  exact free _ o (fun z => (hch _ z).2.1 rfl) ho I.free
 ·obtain ⟨v, o, ho, hd⟩ := I.cell x c e
  exact free c o (fun z => (hch c z).2.2.1 x c e rfl) ho (I.freeC x c e)
 ·obtain ⟨e, n, ne, nf, d⟩ := I.pin p hp
  have nch : p.1 ∉ ch := fun z => (hch p.1 z).2.2.2 p hp rfl
  exact ⟨keep p.1 p.2 ne nf nch e n, free p.1 p.2 nch e n, ne, nf, d⟩
theorem Inv.un {t' : Nat} (I : Inv X pins σ H s) (u : Un X.fs [] H H' s.heap h') (hok : HOk X.prog X.w H' h') : Inv X pins σ H' { s with heap := h', toks := t' } := by
 obtain ⟨m, ⟨o, es, ep, ho, r⟩, _⟩ := id I.loc
 obtain ⟨sl, hL⟩ := u.any ho I.free (by simp)
 exact I.step (g' := s.gens) (d' := s.drawn) (ch := []) (fun _ z => nomatch z) (fun b o _ hb _ e n => u.keep b o e n hb (by simp)) (fun b o _ hb _ e n => u.slot b o e n hb (by simp)) (fun b o _ e n => u.free b o e n (by simp)) (fun b o _ e => u.there b o e (by simp)) u.tups u.frzs u.tbls (fun m' hm => by
  obtain ⟨o', es', ep', ho', r'⟩ := hm
  rw [ho] at ho'; cases ho'
  exact ⟨_, es', ep', hL, r'⟩) hok I.bare
theorem Inv.call {g' : Array GenState} {t' : Nat} {d' : Drawn} {ch : List Addr} (I : Inv X pins σ H s) (u : Un (frs X.stack) ch H H' s.heap h') (hok : HOk X.prog X.w H' h') (hg : AllBare g')
  (hch : ∀ b ∈ ch, (b ∈ X.ex \/ X.s₀.heap.objs.size <= b) /\ b ≠ X.env.locals /\ (∀ x c, X.env.cells.lookup x = some c -> c ≠ b) /\ ∀ p ∈ X.pn ++ pins, p.1 ≠ b) :
  Inv X pins σ H' { s with heap := h', gens := g', drawn := d', toks := t' } := by
 obtain ⟨m, ⟨o, es, ep, ho, r⟩, _⟩ := id I.loc
 obtain ⟨sl, hL⟩ := u.any ho I.free fun z => (hch _ z).2.1 rfl
 exact I.step (ch := ch) hch (fun b o hL hb hc e n => u.keep b o e n (fun z => (List.mem_cons.mp (I.stkSub b z)).elim hL hb) hc) (fun b o _ _ hc e n => u.any e n hc) (fun b o hc e n => u.free b o e n hc) (fun b o hc e => u.there b o e hc) u.tups u.frzs u.tbls (fun m' hm => by
  obtain ⟨o', es', ep', ho', r'⟩ := hm
  rw [ho] at ho'; cases ho'
  exact ⟨_, es', ep', hL, r'⟩) hok hg
theorem Inv.turned {t' : Nat} {it : Addr} (I : Inv X pins σ H s) (k : ∀ b o, b ≠ it -> s.heap.get? b = some o -> h'.get? b = some o) (hn : H it = none) (hL : it ≠ X.env.locals)
  (h1 : it ∈ X.ex \/ X.s₀.heap.objs.size <= it) (h2 : ∀ x c, X.env.cells.lookup x = some c -> c ≠ it) (h3 : ∀ p ∈ X.pn ++ pins, p.1 ≠ it) : Inv X pins σ H { s with heap := h', toks := t' } := by
 have nit : ∀ b u, H b = some u -> b ≠ it := fun b u e z => by rw [z, hn] at e; cases e
 refine I.step (g' := s.gens) (d' := s.drawn) (ch := [it]) (fun b hb => ?_) (fun b o _ _ hc e _ => k b o (fun z => hc (by simp [z])) e) (fun b o _ _ hc e _ => ⟨o.slots, k b o (fun z => hc (by simp [z])) e⟩) (fun _ _ _ _ n => n)
  (fun b o hc e => ⟨o, k b o (fun z => hc (by simp [z])) e⟩) (fun _ _ e => e) (fun _ _ _ e => e) (fun b ps e => ⟨#[], by rw [e]; simp⟩) (fun m hm => ?_) (fun b u e => ?_) I.bare
 ·have e : b = it := by simpa using hb
  subst e
  exact ⟨h1, hL, h2, h3⟩
 ·obtain ⟨o, es, ep, ho, r⟩ := hm
  exact ⟨o, es, ep, k _ o (Ne.symm hL) ho, r⟩
 ·refine (I.hok b u e).stay (fun c v hc q => k c v ?_ q) (fun _ q => q) fun _ _ q => q
  rcases hc with z | z
  ·rw [z]; exact nit b u e
  ·exact nit c _ z
theorem Inv.tok (I : Inv X pins σ H s) (t : Nat) : Inv X pins σ H { s with toks := t } := I.un (h' := s.heap) (t' := t) Un.refl I.hok
theorem Inv.kept {t' : Nat} (I : Inv X pins σ H s) (k : ∀ b u, s.heap.get? b = some u -> h'.get? b = some u) : Inv X pins σ H { s with heap := h', toks := t' } := I.un (Un.kept k) (I.hok.kept k)
theorem Inv.laid {a : Addr} {o : HO} {t' : Nat} (I : Inv X pins σ H s) (k : ∀ b u, s.heap.get? b = some u -> h'.get? b = some u) (hp : s.heap.objs.size <= a) (new : fM X.prog X.w (upd H a o) h' a o) :
  Inv X pins σ (upd H a o) { s with heap := h', toks := t' } := I.un (Un.laid k hp (I.hok.fresh hp)) (I.hok.laid k hp new)
theorem Inv.write {x e : Addr} {o : HO} {t' : Nat} (I : Inv X pins σ H s) (mu : Mut (H x)) (he : e = x \/ H e = some (.own x)) (k : ∀ b u, b ≠ e -> s.heap.get? b = some u -> h'.get? b = some u) (heo : ∃ u, h'.get? e = some u)
  (new : fM X.prog X.w (upd H x o) h' x o) : Inv X pins σ (upd H x o) { s with heap := h', toks := t' } := I.un (Un.write mu he k heo) (I.hok.write mu he k heo new)
theorem Inv.pins_of {pins' : tzB} (I : Inv X pins σ H s) (h : ∀ p ∈ pins', s.heap.get? p.1 = some p.2 /\ H p.1 = none /\ p.1 ≠ X.env.locals /\ p.1 ∉ X.fs /\ ∀ v, p.2.data ≠ .cell v) : Inv X pins' σ H s :=
 ⟨I.ok, I.os, I.bare, I.base, I.loc, I.cell, I.free, I.freeC, fun p hp => (List.mem_append.mp hp).elim (fun z => I.pin p (List.mem_append_left _ z)) (h p), I.hok, I.len⟩
theorem ze7 {N : List Str} (hN : N.Nodup) {i j : Nat} {x : Str} (a : N[i]? = some x) (b : N[j]? = some x) : i = j := by
 obtain ⟨h1, e1⟩ := List.getElem?_eq_some_iff.mp a
 obtain ⟨h2, e2⟩ := List.getElem?_eq_some_iff.mp b
 exact (List.getElem_inj hN).mp (e1.trans e2.symm)
theorem zu5 {M : Model} {A : Around} {E : Value -> Shared -> Prop} {i : Nat} {x : Str} {v : V} {u : Value} {Q : Unit -> Shared -> Prop} (I : Inv X pins σ H s) (hN : X.N.Nodup) (hi : X.N[i]? = some x) (hx : Loc X.env.scope x) (r : cW v u)
  (h : ∀ s', Inv X pins (σ.set i (some v)) H s' -> (∃ a, Heap.SameBut a s.heap s'.heap /\ (a = X.env.locals \/ X.env.cells.lookup x = some a)) -> Q () s') (hf : X.fn x = true \/ X.env.scope.names.lookup x = some .local := by first | exact .inl rfl | exact .inr rfl | assumption) : wpAny M A (storeName X.env x u) Q E s := by
 obtain ⟨m, hn, hl⟩ := id I.loc
 have hcls : (X.env.scope.kind == .class || (X.env.scope.kind == .module && X.env.locals != X.env.globals)) = false := by rw [I.ok.kind]; rfl
 have hiσ : i < σ.length := by rw [I.len]; exact (List.getElem?_eq_some_iff.mp hi).1
 have cne := I.cne
 have tracked : ∀ {a : Addr} {h' : Heap}, (∃ o, s.heap.get? a = some o /\ H a = none) -> Heap.SameBut a s.heap h' -> HOk X.prog X.w H h' := fun {a h'} ha hs b ob e => by
  obtain ⟨_, _, hfree⟩ := ha
  refine (I.hok b ob e).stay (fun c w' hc q => (hs.2 c ?_).trans q) (fun _ q => q) fun _ _ q => q
  rintro rfl
  rcases hc with rfl | hc
  ·rw [hfree] at e; cases e
  ·rw [hfree] at hc; cases hc
 rcases hx with hk | hk
 ·refine wpAny_storeName_local hk hn (fun h' hn' hs => ?_) hcls
  obtain ⟨oL, _, _, hoL, _⟩ := id hn
  refine h _ ⟨I.ok, I.os, I.bare, ⟨fun b o e n hb hx => ?_, fun b o e n hb hx => ?_, I.base.free, fun b o e hx => ?_, I.base.tups, I.base.frzs, I.base.tbls⟩, ⟨_, hn', fun j y v' e1 e2 e3 => ?_⟩, fun y c e => ?_, I.free, I.freeC, fun p hp => ?_, tracked ⟨oL, hoL, I.free⟩ hs, by simpa using I.len⟩ ⟨_, hs, .inl rfl⟩
  ·exact (hs.2 b (Nat.ne_of_lt (Nat.lt_of_lt_of_le (Heap.lt_size e) I.ok.above))).trans (I.base.keep b o e n hb hx)
  ·obtain ⟨sl, e1⟩ := I.base.slot b o e n hb hx
   exact ⟨sl, (hs.2 b (Nat.ne_of_lt (Nat.lt_of_lt_of_le (Heap.lt_size e) I.ok.above))).trans e1⟩
  ·obtain ⟨o', e1⟩ := I.base.there b o e hx
   exact ⟨o', (hs.2 b (Nat.ne_of_lt (Nat.lt_of_lt_of_le (Heap.lt_size e) I.ok.above))).trans e1⟩
  ·by_cases hj : j = i
   ·subst hj
    rw [hi] at e1; cases e1
    rw [List.getElem?_set_self hiσ] at e2
    cases e2
    exact ⟨u, r, .inl ⟨hk, by simp⟩⟩
   ·rw [List.getElem?_set_ne (Ne.symm hj)] at e2
    obtain ⟨u', r', q⟩ := hl j y v' e1 e2 e3
    refine ⟨u', r', ?_⟩
    rcases q with ⟨k, e⟩ | ⟨k, c, e, z⟩
    ·refine .inl ⟨k, ?_⟩
     have : y ≠ x := fun e => hj (ze7 hN e1 (e ▸ hi))
     simp [this, e]
    ·exact .inr ⟨k, c, e, z.sameBut hs (cne y c e)⟩
  ·obtain ⟨w', z⟩ := I.cell y c e
   exact ⟨w', z.sameBut hs (cne y c e)⟩
  ·obtain ⟨e, n, ne, nf, d⟩ := I.pin p hp
   exact ⟨(hs.2 p.1 ne).trans e, n, ne, nf, d⟩
 ·have hfn : X.fn x = true := by
   rcases hf with z | z
   ·exact z
   ·rw [z] at hk; cases hk
  obtain ⟨c, hc⟩ := I.ok.has x (.inl hk)
  obtain ⟨w', z⟩ := I.cell x c hc
  refine wpAny_storeName_cell I.ok.kind hk hc z (fun h' hc' hs => ?_)
  obtain ⟨oc, hoc, hocd⟩ := id z
  refine h { s with heap := h' } ⟨I.ok, I.os, I.bare, ⟨fun b o e n hb hx => ?_, fun b o e n hb hx => ?_, I.base.free, fun b o e hx => ?_, I.base.tups, I.base.frzs, I.base.tbls⟩, ⟨m, hn.sameBut hs (Ne.symm (cne x c hc)), fun j y v' e1 e2 e3 => ?_⟩, fun y c' e => ?_, I.free, I.freeC, fun p hp => ?_, tracked ⟨oc, hoc, I.freeC x c hc⟩ hs, by simpa using I.len⟩ ⟨c, hs, .inr hc⟩
  ·exact (hs.2 b (Nat.ne_of_lt (Nat.lt_of_lt_of_le (Heap.lt_size e) (I.ok.cab x c hfn hc)))).trans (I.base.keep b o e n hb hx)
  ·obtain ⟨sl, e1⟩ := I.base.slot b o e n hb hx
   exact ⟨sl, (hs.2 b (Nat.ne_of_lt (Nat.lt_of_lt_of_le (Heap.lt_size e) (I.ok.cab x c hfn hc)))).trans e1⟩
  ·obtain ⟨o', e1⟩ := I.base.there b o e hx
   exact ⟨o', (hs.2 b (Nat.ne_of_lt (Nat.lt_of_lt_of_le (Heap.lt_size e) (I.ok.cab x c hfn hc)))).trans e1⟩
  ·by_cases hj : j = i
   ·subst hj
    rw [hi] at e1; cases e1
    rw [List.getElem?_set_self hiσ] at e2
    cases e2
    exact ⟨u, r, .inr ⟨.inl hk, c, hc, hc'⟩⟩
   ·rw [List.getElem?_set_ne (Ne.symm hj)] at e2
    obtain ⟨u', r', q⟩ := hl j y v' e1 e2 e3
    refine ⟨u', r', ?_⟩
    rcases q with q | ⟨k, c', e, z'⟩
    ·exact .inl q
    ·refine .inr ⟨k, c', e, z'.sameBut hs ?_⟩
     rintro rfl
     exact hj (ze7 hN e1 (I.ok.inj _ _ _ e hc ▸ hi))
  ·by_cases hcc : c' = c
   ·subst hcc; exact ⟨_, hc'⟩
   ·obtain ⟨w2, z2⟩ := I.cell y c' e
    exact ⟨w2, z2.sameBut hs hcc⟩
  ·obtain ⟨e, n, ne, nf, d⟩ := I.pin p hp
   refine ⟨(hs.2 p.1 ?_).trans e, n, ne, nf, d⟩
   intro q
   rw [q, hoc] at e
   have q' : oc = p.2 := Option.some.inj e
   exact d w' (by rw [<- q']; exact hocd)
theorem ze8 {M : Model} {A : Around} {E : Value -> Shared -> Prop} {i : Nat} {x : Str} {v : V} {u : Value} {Q : Unit -> Shared -> Prop} (I : Inv X pins σ H s) (hN : X.N.Nodup) (hi : X.N[i]? = some x) (hx : Loc X.env.scope x) (r : cW v u)
  (h : ∀ s', Inv X pins (σ.set i (some v)) H s' -> Q () s') (hf : X.fn x = true \/ X.env.scope.names.lookup x = some .local := by first | exact .inl rfl | exact .inr rfl | assumption) : wpAny M A (storeName X.env x u) Q E s :=
 zu5 I hN hi hx r (fun s' I' _ => h s' I') hf
theorem Inv.call' {s' : Shared} {ch : List Addr} (I : Inv X pins σ H s) (ho : s'.os = s.os) (u : Un (frs X.stack) ch H H' s.heap s'.heap) (hok : HOk X.prog X.w H' s'.heap) (hg : AllBare s'.gens)
  (hch : ∀ b ∈ ch, (b ∈ X.ex \/ X.s₀.heap.objs.size <= b) /\ b ≠ X.env.locals /\ (∀ x c, X.env.cells.lookup x = some c -> c ≠ b) /\ ∀ p ∈ X.pn ++ pins, p.1 ≠ b) : Inv X pins σ H' s' := by
 obtain ⟨h', g', d', t', o'⟩ := s'
 have e : o' = s.os := ho
 subst e
 exact I.call (g' := g') (t' := t') (d' := d') u hok hg hch
end
noncomputable abbrev XK := Value -> Option Addr -> Hp -> Prop
noncomputable abbrev St := List (Option V)
noncomputable abbrev VK := V -> Hp -> Prop
noncomputable abbrev TE := St -> Hp -> VK -> Prop
noncomputable abbrev TT := St -> Hp -> (Bool -> Hp -> Prop) -> Prop
noncomputable abbrev TA := St -> Hp -> (List V -> Hp -> Prop) -> Prop
structure Ends where
 nx : St -> Hp -> Prop
 rt : VK
 bk : St -> Hp -> Prop := fun _ _ => False
 ct : St -> Hp -> Prop := fun _ _ => False
noncomputable abbrev TS := Ends -> St -> Hp -> Prop
noncomputable def EP (X : Cx) (pins : tzB) (σ : St) (Q : VK) (u : Value) (s' : Shared) : Prop := ∃ v H', Inv X pins σ H' s' /\ cW v u /\ Q v H'
noncomputable def TP (X : Cx) (pins : tzB) (σ : St) (Q : Bool -> Hp -> Prop) (b : Bool) (s' : Shared) : Prop := ∃ H', Inv X pins σ H' s' /\ Q b H'
noncomputable def AP (X : Cx) (pins : tzB) (σ : St) (Q : List V -> Hp -> Prop) (us : List Value) (s' : Shared) : Prop := ∃ vs H', Inv X pins σ H' s' /\ cG vs us /\ Q vs H'
noncomputable def SP (X : Cx) (pins : tzB) (D : Ends) (f : Flow) (s' : Shared) : Prop :=
 match f with
 | .next => ∃ σ' H', Inv X pins σ' H' s' /\ D.nx σ' H'
 | .brk => ∃ σ' H', Inv X pins σ' H' s' /\ D.bk σ' H'
 | .cont => ∃ σ' H', Inv X pins σ' H' s' /\ D.ct σ' H'
 | .ret u => ∃ v σ' H', Inv X pins σ' H' s' /\ cW v u /\ D.rt v H'
noncomputable def PE (X : Cx) (e : Expr) (t : TE) : Prop :=
 ∀ (pins : tzB) (s : Shared) (σ : St) (H : Hp) (Q : VK), Inv X pins σ H s -> t σ H Q -> wpAny (model X.prog X.w) X.A (eval e X.env) (EP X pins σ Q) X.xe s
noncomputable def PT (X : Cx) (e : Expr) (t : TT) : Prop :=
 ∀ (pins : tzB) (s : Shared) (σ : St) (H : Hp) (Q : Bool -> Hp -> Prop), Inv X pins σ H s -> t σ H Q -> wpAny (model X.prog X.w) X.A (isTrue e X.env (eval e X.env)) (TP X pins σ Q) X.xe s
noncomputable def PW (X : Cx) (e : Expr) (t : TT) : Prop :=
 ∀ (whole : Sem Value) (pins : tzB) (s : Shared) (σ : St) (H : Hp) (Q : Bool -> Hp -> Prop), Inv X pins σ H s -> t σ H Q -> wpAny (model X.prog X.w) X.A (isTrue e X.env whole) (TP X pins σ Q) X.xe s
theorem PW.pt {X : Cx} {e : Expr} {t : TT} (h : PW X e t) : PT X e t := h _
noncomputable def PA (X : Cx) (es : List Expr) (t : TA) : Prop :=
 ∀ (pos : Pos) (pins : tzB) (s : Shared) (σ : St) (H : Hp) (Q : List V -> Hp -> Prop), Inv X pins σ H s -> t σ H Q -> wpAny (model X.prog X.w) X.A (spliced (backTo pos (starEach es X.env))) (AP X pins σ Q) X.xe s
noncomputable def PS (X : Cx) (st : Stmt) (t : TS) : Prop :=
 ∀ (pins : tzB) (s : Shared) (σ : St) (H : Hp) (D : Ends), Inv X pins σ H s -> t D σ H -> wpAny (model X.prog X.w) X.A (exec st X.env) (SP X pins D) X.xe s
noncomputable def PSs (X : Cx) (st : List Stmt) (t : TS) : Prop :=
 ∀ (pins : tzB) (s : Shared) (σ : St) (H : Hp) (D : Ends), Inv X pins σ H s -> t D σ H -> wpAny (model X.prog X.w) X.A (execs st X.env) (SP X pins D) X.xe s
theorem thn {α : Type} {t : Sem α} {Q Q' : α -> Shared -> Prop} {M : Model} {A : Around} {E : Value -> Shared -> Prop} {s : Shared} (h : wpAny M A t Q E s) (hQ : ∀ a s, Q a s -> Q' a s) : wpAny M A t Q' E s := wpAny_mono h hQ fun _ _ x => x
section
variable {X : Cx}
noncomputable def yr3 (i : Nat) : TE := fun σ H Q => ∃ v, σ[i]? = some (some v) /\ Q v H
noncomputable def tC (v : V) : TE := fun _ H Q => Q v H
theorem pM {i : Nat} {x : Str} {pos : Pos} (hN : X.N[i]? = some x) (hv : Vis X.env.scope x) (hd : (x == ("__debug__" : Str)) = false := by decide) (hcd : (x == ("__classdict__" : Str)) = false := by decide) : PE X (.Name x pos) (yr3 i) := by
 intro pins s σ H Q I h
 obtain ⟨v, e, h⟩ := h
 obtain ⟨m, hn, hl⟩ := I.loc
 obtain ⟨u, r, l⟩ := hl i x v hN e hv
 have fin : EP X pins σ Q u s := ⟨v, H, I, r, h⟩
 rcases l with ⟨hk, hm⟩ | ⟨hk, c, hc, hcell⟩
 ·exact wpAny_Name (wpAny_loadName_local I.ok.kind hk hn hm fin) hd
 ·rcases hk with hk | hk
  ·exact wpAny_Name (wpAny_loadName_cell I.ok.kind hk hc hcell fin) hd
  ·exact wpAny_Name (wpAny_loadName_free I.ok.kind hk hc hcell fin hcd) hd
theorem iK {i j pos} : PE X (.Constant (.int i) j pos) (tC (.int i)) := fun _ _ _ H _ I h => wpAny_Constant_int ⟨.int i, H, I.tok _, ⟨_, rfl⟩, h⟩
theorem yg7 {b j pos} : PE X (.Constant (.bool b) j pos) (tC (.bl b)) := fun _ _ _ H _ I h => Constant_bool ⟨.bl b, H, I, rfl, h⟩
theorem zu6 {j pos} : PE X (.Constant .none j pos) (tC .non) := fun _ _ _ H _ I h => Constant_none ⟨.non, H, I, rfl, h⟩
theorem zu7 {x j pos} : PE X (.Constant (.str x) j pos) (tC (.str x)) := fun _ _ _ H _ I h => Calls.Constant_str ⟨.str x, H, I.tok _, ⟨_, rfl⟩, h⟩
noncomputable def Gl (X : Cx) (x : Str) : Prop := X.env.kindOf x = some .globalImplicit
theorem nM {E : Value -> Shared -> Prop} {pins : tzB} {s : Shared} {σ : St} {H : Hp} {x : Str} {u : Value} {pos : Pos} {Q : Value -> Shared -> Prop} (I : Inv X pins σ H s) (hg : Gl X x) (hm : X.mg x = some u) (h : Q u s)
  (hd : (x == ("__debug__" : Str)) = false := by decide) : wpAny (model X.prog X.w) X.A (eval (.Name x pos) X.env) Q E s :=
 Calls.Name_function_global I.ok.kind hg (Calls.loadGlobal_global (by rw [I.ok.glob]; exact I.mod.glob.keeps I.bk) hm h) hd
theorem tK {E : Value -> Shared -> Prop} {pins : tzB} {s : Shared} {σ : St} {H : Hp} {x : Str} {u : Value} {pos : Pos} {Q : Value -> Shared -> Prop} (I : Inv X pins σ H s) (hg : Gl X x) (hm : X.mg x = none) (hv : bootBuiltins x = some u) (h : Q u s)
  (hn : x ≠ "__name__" := by decide) (hd : (x == ("__debug__" : Str)) = false := by decide) : wpAny (model X.prog X.w) X.A (eval (.Name x pos) X.env) Q E s := by
 obtain ⟨mb, h1, h2⟩ := I.mod.blt
 exact Calls.Name_function_global I.ok.kind hg (Calls.loadGlobal_builtin (by rw [I.ok.glob]; exact I.mod.glob.keeps I.bk) hm (by rw [I.ok.blt]; exact h1.keeps I.bk) ((h2 x hn).trans hv) h) hd
theorem yi5 {x : Str} {v : V} {u : Value} {pos : Pos} (hg : Gl X x) (hm : X.mg x = some u) (r : cW v u) (hd : (x == ("__debug__" : Str)) = false := by decide) : PE X (.Name x pos) (tC v) :=
 fun _ _ _ H _ I h => nM I hg hm ⟨v, H, I, r, h⟩ hd
theorem yi6 {x : Str} {v : V} {u : Value} {pos : Pos} (hg : Gl X x) (hm : X.mg x = none) (hv : bootBuiltins x = some u) (r : cW v u) (hn : x ≠ "__name__" := by decide) (hd : (x == ("__debug__" : Str)) = false := by decide) : PE X (.Name x pos) (tC v) :=
 fun _ _ _ H _ I h => tK I hg hm hv ⟨v, H, I, r, h⟩ hn hd
variable {a b : Expr} {ta tb : TE} {pos : Pos}
variable {tA tB' : TT} {rest : List Expr}
noncomputable def yw9 (t u : TT) : TT := fun σ H Q => t σ H fun c H1 => if c = true then u σ H1 Q else Q false H1
noncomputable def tOr (t u : TT) : TT := fun σ H Q => t σ H fun c H1 => if c = true then Q true H1 else u σ H1 Q
noncomputable def yx0 (t : TT) : TT := fun σ H Q => t σ H fun c H1 => Q (!c) H1
theorem yi7 (ha : PT X a tA) : PW X (.BoolOp .And [a] pos) tA := by
 intro wh pins s σ H Q I h
 refine isTrue_and (thn (ha pins s σ H Q I h) fun c s1 e => ?_)
 cases c with
 | true => exact isTrue_and_nil e
 | false => exact e
theorem ym9 (ha : PT X a tA) : PW X (.BoolOp .Or [a] pos) tA := by
 intro wh pins s σ H Q I h
 refine isTrue_or (thn (ha pins s σ H Q I h) fun c s1 e => ?_)
 cases c with
 | false => exact isTrue_or_nil e
 | true => exact e
theorem yn0 (ha : PT X a tA) (hb : PW X (.BoolOp .And (b :: rest) pos) tB') : PW X (.BoolOp .And (a :: b :: rest) pos) (yw9 tA tB') := by
 intro wh pins s σ H Q I h
 refine isTrue_and (thn (ha pins s σ H _ I h) fun c s1 ⟨H1, I1, q1⟩ => ?_)
 cases c with
 | true => exact hb wh pins s1 σ H1 Q I1 q1
 | false => exact ⟨H1, I1, q1⟩
theorem yt1 (ha : PT X a tA) (hb : PW X (.BoolOp .Or (b :: rest) pos) tB') : PW X (.BoolOp .Or (a :: b :: rest) pos) (tOr tA tB') := by
 intro wh pins s σ H Q I h
 refine isTrue_or (thn (ha pins s σ H _ I h) fun c s1 ⟨H1, I1, q1⟩ => ?_)
 cases c with
 | true => exact ⟨H1, I1, q1⟩
 | false => exact hb wh pins s1 σ H1 Q I1 q1
theorem zu8 (ha : PT X a tA) : PT X (.UnaryOp .Not a pos) (yx0 tA) := by
 intro pins s σ H Q I h
 exact isTrue_not (ha pins s σ H (fun c H1 => Q (!c) H1) I h)
noncomputable def yu6 (ta tb : TE) : TE := fun σ H Q => ta σ H fun x H1 => ∃ c, x = .bl c /\ if c = true then tb σ H1 Q else Q (.bl false) H1
noncomputable def yx1 (ta tb : TE) : TE := fun σ H Q => ta σ H fun x H1 => ∃ c, x = .bl c /\ if c = true then Q (.bl true) H1 else tb σ H1 Q
theorem yn1 {op} {t : TE} (h : PE X a t) : PE X (.BoolOp op [a] pos) t := fun pins s σ H Q I hw => BoolOp_one (h pins s σ H Q I hw)
theorem yn2 (ha : PE X a ta) (hb : PE X (.BoolOp .And (b :: rest) pos) tb) : PE X (.BoolOp .And (a :: b :: rest) pos) (yu6 ta tb) := by
 intro pins s σ H Q I h
 refine BoolOp_and (thn (ha pins s σ H _ I h) fun v s1 ⟨x, H1, I1, r1, q1⟩ => ?_)
 obtain ⟨c, rfl, q1⟩ := q1
 cases r1
 refine wpAny_truthy_bool ?_
 cases c with
 | true => exact hb pins s1 σ H1 Q I1 q1
 | false => exact ⟨.bl false, H1, I1, rfl, q1⟩
theorem yt2 (ha : PE X a ta) (hb : PE X (.BoolOp .Or (b :: rest) pos) tb) : PE X (.BoolOp .Or (a :: b :: rest) pos) (yx1 ta tb) := by
 intro pins s σ H Q I h
 refine BoolOp_or (thn (ha pins s σ H _ I h) fun v s1 ⟨x, H1, I1, r1, q1⟩ => ?_)
 obtain ⟨c, rfl, q1⟩ := q1
 cases r1
 refine wpAny_truthy_bool ?_
 cases c with
 | false => exact hb pins s1 σ H1 Q I1 q1
 | true => exact ⟨.bl true, H1, I1, rfl, q1⟩
end
noncomputable def SqL (K : tz0) (H : Hp) (a : Addr) (xs : List V) : Prop :=
 Rd H a (.lst xs) \/
  ∃ (o : Obj) (its : Array Value) (n : Nat), K.lookup a = some o /\ o.cls = .type "list" /\ o.dict = none /\ o.data = .seq its n /\ its.size <= sizeLine /\ cG xs its.toList
noncomputable def SqT (K : tz0) (H : Hp) (a : Addr) (xs : List V) : Prop :=
 Rd H a (.tup xs) \/
  ∃ (o : Obj) (its : Array Value) (n : Nat), K.lookup a = some o /\ o.cls = .type "tuple" /\ o.data = .seq its n /\ its.size <= sizeLine /\ cG xs its.toList
noncomputable def yx2 : Value -> Option V
 | .none => some .non
 | .bool b => some (.bl b)
 | .int i _ => some (.int i)
 | .str x _ => some (.str x)
 | .bytes b _ => some (.byt b)
 | .float b _ => some (.flt b)
 | .ref a => some (.ref a)
 | .type n => some (.ty n)
 | _ => none
theorem cW.abs {x : V} {u : Value} (r : cW x u) : yx2 u = some x := by
 cases x with
 | non => cases r; rfl
 | bl _ => cases r; rfl
 | int _ => obtain ⟨t, rfl⟩ := r; rfl
 | str _ => obtain ⟨t, rfl⟩ := r; rfl
 | byt _ => obtain ⟨t, rfl⟩ := r; rfl
 | flt _ => obtain ⟨t, rfl⟩ := r; rfl
 | ref _ => cases r; rfl
 | ty _ => cases r; rfl
theorem cW.inj {x y : V} {u : Value} (r : cW x u) (q : cW y u) : x = y := Option.some.inj (r.abs.symm.trans q.abs)
theorem cG.inj : ∀ {xs ys : List V} {us : List Value}, cG xs us -> cG ys us -> xs = ys
 | _, _, _, .nil, .nil => rfl
 | _, _, _, .cons r t, .cons r' t' => by rw [r.inj r', cG.inj t t']
section
variable {X : Cx} {pins : tzB} {σ : St} {H : Hp} {s : Shared} {a : Addr} {xs ys : List V}
theorem Inv.list (I : Inv X pins σ H s) (h : SqL X.K H a xs) : ∃ its : List Value, cG xs its /\ PlainL s.heap a its.toArray /\ xs.length <= sizeLine := by
 rcases h with h | ⟨o, its, n, hk, hc, hd, hs, hz, r⟩
 ·obtain ⟨z, its, n, r, e⟩ := h.ok I.hok
  exact ⟨its, r, ⟨_, n, e, rfl, rfl, rfl⟩, z⟩
 ·refine ⟨its.toList, r, ⟨o, n, I.kIn a o hk, hc, hd, by simpa using hs⟩, ?_⟩
  have e := r.length
  simp only [Array.length_toList] at e
  omega
theorem Inv.tuple (I : Inv X pins σ H s) (h : SqT X.K H a xs) : ∃ its : List Value, cG xs its /\ IsTup s.heap a its.toArray /\ xs.length <= sizeLine := by
 rcases h with h | ⟨o, its, n, hk, hc, hs, hz, r⟩
 ·obtain ⟨z, its, r, p⟩ := h.ok I.hok
  exact ⟨its, r, p, z⟩
 ·refine ⟨its.toList, r, ⟨o, I.kIn a o hk, hc, n, by simpa using hs⟩, ?_⟩
  have e := r.length
  simp only [Array.length_toList] at e
  omega
theorem Inv.list_inj (I : Inv X pins σ H s) (h : SqL X.K H a xs) (h' : SqL X.K H a ys) : xs = ys := by
 obtain ⟨its, r, ⟨o, n, e, _, _, d⟩, _⟩ := I.list h
 obtain ⟨its', r', ⟨o', n', e', _, _, d'⟩, _⟩ := I.list h'
 rw [e] at e'; cases e'
 rw [d] at d'
 injection d' with d1 _
 have : its = its' := by simpa using congrArg Array.toList d1
 subst this
 exact r.inj r'
theorem Inv.tuple_inj (I : Inv X pins σ H s) (h : SqT X.K H a xs) (h' : SqT X.K H a ys) : xs = ys := by
 obtain ⟨its, r, ⟨o, e, _, n, d⟩, _⟩ := I.tuple h
 obtain ⟨its', r', ⟨o', e', _, n', d'⟩, _⟩ := I.tuple h'
 rw [e] at e'; cases e'
 rw [d] at d'
 injection d' with d1 _
 have : its = its' := by simpa using congrArg Array.toList d1
 subst this
 exact r.inj r'
end
noncomputable abbrev Cx.wish (X : Cx) (E : Value -> Shared -> Prop) : Cx := { X with xe := E }
noncomputable abbrev Cx.nox (X : Cx) : Cx := X.wish fun _ _ => False
theorem Cx.Ok.wish {X : Cx} (ok : X.Ok) (E : Value -> Shared -> Prop) : (X.wish E).Ok :=
 ⟨ok.mod, ok.kind, ok.glob, ok.blt, ok.above, ok.inj, ok.has, ok.cab, ok.hd, ok.frames, ok.stk, ok.exf, ok.bs, ok.bsz, ok.noex, ok.exfs, ok.funs, ok.frf⟩
theorem Cx.Ok.unwish {X : Cx} {E : Value -> Shared -> Prop} (ok : (X.wish E).Ok) : X.Ok :=
 ⟨ok.mod, ok.kind, ok.glob, ok.blt, ok.above, ok.inj, ok.has, ok.cab, ok.hd, ok.frames, ok.stk, ok.exf, ok.bs, ok.bsz, ok.noex, ok.exfs, ok.funs, ok.frf⟩
section
variable {X : Cx} {pins : tzB} {σ : St} {H : Hp} {s : Shared} {E : Value -> Shared -> Prop}
theorem Inv.wish (I : Inv X pins σ H s) (E : Value -> Shared -> Prop) : Inv (X.wish E) pins σ H s := ⟨I.ok.wish E, I.os, I.bare, I.base, I.loc, I.cell, I.free, I.freeC, I.pin, I.hok, I.len⟩
theorem Inv.unwish (I : Inv (X.wish E) pins σ H s) : Inv X pins σ H s := ⟨I.ok.unwish, I.os, I.bare, I.base, I.loc, I.cell, I.free, I.freeC, I.pin, I.hok, I.len⟩
theorem SP.unwish {D : Ends} {f : Flow} {s' : Shared} (h : SP (X.wish E) pins D f s') : SP X pins D f s' := by
 cases f with
 | next => obtain ⟨σ', H', I, q⟩ := h; exact ⟨σ', H', I.unwish, q⟩
 | brk => obtain ⟨σ', H', I, q⟩ := h; exact ⟨σ', H', I.unwish, q⟩
 | cont => obtain ⟨σ', H', I, q⟩ := h; exact ⟨σ', H', I.unwish, q⟩
 | ret u => obtain ⟨v, σ', H', I, r, q⟩ := h; exact ⟨v, σ', H', I.unwish, r, q⟩
theorem PE.nox {e : Expr} {t : TE} (h : PE X.nox e t) : PE X e t := fun pins s σ H Q I hw =>
 wpAny_mono (h pins s σ H Q (I.wish _) hw) (fun _ _ ⟨v, H', I', r, q⟩ => ⟨v, H', I'.unwish, r, q⟩) fun _ _ z => False.elim z
theorem PT.nox {e : Expr} {t : TT} (h : PT X.nox e t) : PT X e t := fun pins s σ H Q I hw =>
 wpAny_mono (h pins s σ H Q (I.wish _) hw) (fun _ _ ⟨H', I', q⟩ => ⟨H', I'.unwish, q⟩) fun _ _ z => False.elim z
theorem PSs.nox {st : List Stmt} {t : TS} (h : PSs X.nox st t) : PSs X st t := fun pins s σ H D I hw =>
 wpAny_mono (h pins s σ H D (I.wish _) hw) (fun _ _ q => q.unwish) fun _ _ z => False.elim z
end
section
variable {X : Cx} {st : Stmt} {rest : List Stmt} {t u : TS} {e : Expr} {te : TE} {pos : Pos}
noncomputable def yu7 : TS := fun D σ H => D.nx σ H
noncomputable def yx3 (t u : TS) : TS := fun D σ H => t { D with nx := u D } σ H
theorem zm1 : PSs X [] yu7 := fun _ _ σ H _ I h => wpAny_execs_nil ⟨σ, H, I, h⟩
theorem jT (h1 : PS X st t) (h2 : PSs X rest u) : PSs X (st :: rest) (yx3 t u) := by
 intro pins s σ H D I h
 refine wpAny_execs_cons (thn (h1 pins s σ H { D with nx := u D } I h) fun f s1 q => ?_)
 cases f with
 | next =>
  obtain ⟨σ', H', I', q⟩ := q
  exact h2 pins s1 σ' H' D I' q
 | ret v => exact q
 | brk => exact q
 | cont => exact q
theorem uW (h1 : PS X st t) : PSs X [st] t := by
 intro pins s σ H D I h
 refine wpAny_execs_cons (thn (h1 pins s σ H D I h) fun f s1 q => ?_)
 cases f with
 | next => exact wpAny_execs_nil q
 | ret v => exact q
 | brk => exact q
 | cont => exact q
theorem Inv.quiet {pins : tzB} {σ : St} {H : Hp} {s : Shared} (I : Inv X pins σ H s) : interactive X.env = false := by simp [interactive, I.ok.kind]
noncomputable def yu8 (te : TE) : TS := fun D σ H => te σ H fun _ H1 => D.nx σ H1
theorem zm2 (he : PE X e te) (hs : swapsWith e none pos.line X.env = pure false := by rfl) : PS X (.Expr e pos) (yu8 te) := by
 intro pins s σ H D I h
 exact wpAny_Expr_any (thn (he pins s σ H _ I h) fun v s1 ⟨x, H1, I1, r1, q1⟩ => ⟨σ, H1, I1, q1⟩) I.quiet hs
noncomputable def yx4 (te : TE) : TS := fun D σ H => te σ H D.rt
theorem rJ (he : PE X e te) : PS X (.Return (some e) pos) (yx4 te) := by
 intro pins s σ H D I h
 exact wpAny_Return_some (thn (he pins s σ H _ I h) fun v s1 ⟨x, H1, I1, r1, q1⟩ => ⟨x, σ, H1, I1, r1, q1⟩)
noncomputable def yx5 (c : TT) (t u : TS) : TS := fun D σ H => c σ H fun b H1 => if b = true then t D σ H1 else u D σ H1
theorem zd3 {c : Expr} {a b : List Stmt} {tc : TT} (hc : PT X c tc) (ha : PSs X a t) (hb : PSs X b u) : PS X (.If c a b pos) (yx5 tc t u) := by
 intro pins s σ H D I h
 refine wpAny_If (thn (hc pins s σ H _ I h) fun d s1 ⟨H1, I1, q1⟩ => ?_)
 cases d with
 | true => exact ha pins s1 σ H1 D I1 q1
 | false => exact hb pins s1 σ H1 D I1 q1
noncomputable def yr4 : TS := fun _ _ _ => False
theorem yb8 : PS X st yr4 := fun _ _ _ _ _ _ h => h.elim
end
noncomputable abbrev TG := V -> St -> Hp -> (St -> Hp -> Prop) -> Prop
noncomputable abbrev TGs := List V -> St -> Hp -> (St -> Hp -> Prop) -> Prop
noncomputable def PG (X : Cx) (target : Expr) (t : TG) : Prop :=
 ∀ (pins : tzB) (s : Shared) (σ : St) (H : Hp) (v : V) (u : Value) (Q : St -> Hp -> Prop), Inv X pins σ H s -> cW v u -> t v σ H Q ->
  wpAny (model X.prog X.w) X.A (assign target X.env u) (fun _ s' => ∃ σ' H', Inv X pins σ' H' s' /\ Q σ' H') X.xe s
noncomputable def PGs (X : Cx) (ts : List Expr) (t : TGs) : Prop :=
 ∀ (pins : tzB) (s : Shared) (σ : St) (H : Hp) (vs : List V) (us : List Value) (Q : St -> Hp -> Prop), Inv X pins σ H s -> cG vs us -> t vs σ H Q ->
  wpAny (model X.prog X.w) X.A (assignInOrder ((assignEach ts X.env).map (·.2)) us) (fun _ s' => ∃ σ' H', Inv X pins σ' H' s' /\ Q σ' H') X.xe s
noncomputable abbrev yg1 := V -> V -> V -> Hp -> (Hp -> Prop) -> Prop
noncomputable def yr5 (X : Cx) (t : yg1) : Prop :=
 ∀ (pins : tzB) (s : Shared) (σ : St) (H : Hp) (o i v : V) (ov iv u : Value) (Q : Hp -> Prop), Inv X pins σ H s -> cW o ov -> cW i iv -> cW v u -> t o i v H Q ->
  wpAny (model X.prog X.w) X.A (setItem ov iv u) (fun _ s' => ∃ H', Inv X pins σ H' s' /\ Q H') X.xe s
section
variable {X : Cx} {pos : Pos}
noncomputable def nF (i : Nat) : TG := fun v σ H Q => Q (σ.set i (some v)) H
theorem kE {i : Nat} {x : Str} (hN : X.N.Nodup) (hi : X.N[i]? = some x) (hx : Loc X.env.scope x) (hf : X.fn x = true \/ X.env.scope.names.lookup x = some .local := by first | exact .inl rfl | exact .inr rfl | assumption) : PG X (.Name x pos) (nF i) := by
 intro pins s σ H v u Q I r h
 exact wpAny_assign_Name (ze8 I hN hi hx r (fun s' I' => ⟨_, H, I', h⟩) hf)
noncomputable def yg2 : TGs := fun vs σ H Q => vs = [] /\ Q σ H
noncomputable def zt8 (t : TG) (u : TGs) : TGs := fun vs σ H Q => ∃ v r, vs = v :: r /\ t v σ H fun σ' H' => u r σ' H' Q
theorem zA : PGs X [] yg2 := by
 intro pins s σ H vs us Q I r h
 obtain ⟨e, h⟩ := h
 subst e
 cases r
 exact assignInOrder_nil ⟨σ, H, I, h⟩
theorem nN {e : Expr} {es : List Expr} {t : TG} {u : TGs} (h1 : PG X e t) (h2 : PGs X es u)
  (hs : (assignEach (e :: es) X.env).map (·.2) = assign e X.env :: (assignEach es X.env).map (·.2) := by rfl) : PGs X (e :: es) (zt8 t u) := by
 intro pins s σ H vs us Q I r h
 obtain ⟨v, vr, e1, h⟩ := h
 subst e1
 cases r with
 | cons r rr =>
  rw [hs]
  refine assignInOrder_cons (thn (h1 pins s σ H _ _ _ I r h) fun _ s1 ⟨σ1, H1, I1, q1⟩ => ?_)
  exact h2 pins s1 σ1 H1 _ _ Q I1 rr q1
noncomputable def yr6 (K : tz0) (n : Nat) (t : TGs) : TG := fun v σ H Q => ∃ a xs, v = .ref a /\ SqT K H a xs /\ xs.length = n /\ t xs σ H Q
theorem yn3 {es : List Expr} {k : Nat} {t : TGs} {n : Nat} (hc : X.calm = true) (h : PGs X es t)
  (hn : (assignEach es X.env).length = n := by rfl) (hst : (assignEach es X.env).findIdx? (·.1) = none := by rfl) : PG X (.Tuple es k pos) (yr6 X.K n t) := by
 intro pins s σ H v u Q I r hw
 obtain ⟨a, xs, e1, hq, hl, hw⟩ := hw
 subst e1
 cases r
 obtain ⟨its, rv, ht, hz⟩ := I.tuple hq
 refine assign_Tuple_tuple (I.ok.hd hc) ht (by simp [hn, <- hl, rv.length]) hst fun h' hx => ?_
 have I1 : Inv X pins σ H { s with heap := h' } := I.kept (t' := s.toks) fun b o e => hx b o (Nat.ne_of_lt (Heap.lt_size e)) e
 exact h pins _ σ H xs _ Q I1 (by simpa using rv) hw
noncomputable def yx6 (to ti : TE) (t : yg1) : TG := fun v σ H Q => to σ H fun o H1 => ti σ H1 fun i H2 => t o i v H2 fun H3 => Q σ H3
theorem yn4 {o i : Expr} {to ti : TE} {t : yg1} (ho : PE X o to) (hi : PE X i ti) (hs : yr5 X t)
  (ha : ∀ v, assign (.Subscript o i pos) X.env v = (do
   let ov <- holding [v] (eval o X.env)
   let iv <- holding [v, ov] (eval i X.env)
   standAt pos
   holding [v, ov, iv] (setItem ov iv v)
   release [v, ov, iv] []) := by intro _; rfl) : PG X (.Subscript o i pos) (yx6 to ti t) := by
 intro pins s σ H v u Q I r h
 rw [ha]
 refine wpAny_bind (wpAny_holding (thn (ho pins s σ H _ I h) fun ov s1 ⟨x, H1, I1, r1, q1⟩ => ?_))
 refine wpAny_bind (wpAny_holding (thn (hi pins s1 σ H1 _ I1 q1) fun iv s2 ⟨y, H2, I2, r2, q2⟩ => ?_))
 refine wpAny_bind (wpAny_standAt (wpAny_bind (wpAny_holding (thn (hs pins s2 σ H2 x y v ov iv u _ I2 r1 r2 r q2) fun _ s3 ⟨H3, I3, q3⟩ => ?_))))
 exact wpAny_release ⟨σ, H3, I3, q3⟩
noncomputable def yr7 (te : TE) (g : TG) : TS := fun D σ H => te σ H fun x H1 => g x σ H1 D.nx
theorem zu9 {tg e : Expr} {te : TE} {g : TG} (he : PE X e te) (hg : PG X tg g) (hs : swapsWithSole [tg] e pos.line X.env = pure false := by rfl) (hw : swappedStores [tg] e X.env = pure none := by rfl)
  (h1 : (assignEach [tg] X.env).map (·.2) = [assign tg X.env] := by rfl) : PS X (.Assign [tg] e pos) (yr7 te g) := by
 intro pins s σ H D I h
 refine wpAny_Assign_stores (thn (he pins s σ H _ I h) fun v s1 ⟨x, H1, I1, r1, q1⟩ => ?_) hs hw
 rw [h1]
 exact thn (hg pins s1 σ H1 x v _ I1 r1 q1) fun _ s2 q => q
theorem pN {i : Nat} {x : Str} {e : Expr} {te : TE} {pos' : Pos} (hN : X.N.Nodup) (hi : X.N[i]? = some x) (hx : Loc X.env.scope x) (he : PE X e te) (hs : swapsWith e (some (.Name x pos')) pos.line X.env = pure false := by rfl) (hf : X.fn x = true \/ X.env.scope.names.lookup x = some .local := by first | exact .inl rfl | exact .inr rfl | assumption) :
  PS X (.Assign [.Name x pos'] e pos) (yr7 te (nF i)) := by
 intro pins s σ H D I h
 refine wpAny_Assign_Name (thn (he pins s σ H _ I h) fun v s1 ⟨y, H1, I1, r1, q1⟩ => ?_) hs
 exact ze8 I1 hN hi hx r1 (fun s2 I2 => ⟨_, H1, I2, q1⟩) hf
noncomputable def yr8 (c : TT) (tb : TS) : TS := fun D σ H => ∃ W : Nat -> St -> Hp -> Prop, (∃ m, W m σ H) /\ ∀ m σ H, W m σ H ->
 c σ H fun b H1 => if b = true then ∃ N : St -> Hp -> Prop, (∀ σ' H', N σ' H' -> ∃ m', m' < m /\ W m' σ' H') /\ tb { D with nx := N, ct := N, bk := D.nx } σ H1 else D.nx σ H1
theorem yb9 {c : Expr} {body : List Stmt} {tc : TT} {tb : TS} (hp : PassesOwn (model X.prog X.w) X.A X.env X.xe) (hc : PT X c tc) (hb : PSs X body tb) : PS X (.While c body [] pos) (yr8 tc tb) := by
 intro pins s σ H D I h
 obtain ⟨W, ⟨m0, w0⟩, turn⟩ := h
 refine wpAny_While (codeAny_whileLoop (fun n s' => ∃ σ' H', Inv X pins σ' H' s' /\ W n σ' H') ?_ m0 ⟨σ, H, I, w0⟩)
 rintro n s1 ⟨σ1, H1, I1, w1⟩
 refine wpAny_passesOwn hp (thn (hc pins s1 σ1 H1 _ I1 (turn n σ1 H1 w1)) fun b s2 ⟨H2, I2, q2⟩ => ?_)
 cases b with
 | true =>
  obtain ⟨N, hN, q2⟩ := q2
  rw [if_pos rfl]
  refine wpAny_passesOwn hp (thn (hb pins s2 σ1 H2 _ I2 q2) fun f s3 q3 => ?_)
  cases f with
  | next =>
   obtain ⟨σ3, H3, I3, n3⟩ := q3
   obtain ⟨m', hm, w3⟩ := hN σ3 H3 n3
   exact ⟨m', hm, σ3, H3, I3, w3⟩
  | cont =>
   obtain ⟨σ3, H3, I3, n3⟩ := q3
   obtain ⟨m', hm, w3⟩ := hN σ3 H3 n3
   exact ⟨m', hm, σ3, H3, I3, w3⟩
  | brk => exact q3
  | ret v => exact q3
 | false =>
  rw [if_neg Bool.false_ne_true]
  exact wpAny_execs_nil ⟨σ1, H2, I2, q2⟩
end
structure It where
 go : Nat -> Hp -> Prop
 yld : Nat -> Hp -> V -> Hp -> Prop
 stop : Nat -> Hp -> Prop
noncomputable def pY (X : Cx) (pins : tzB) (H : Hp) (b : Addr) : Prop :=
 H b = none /\ b ≠ X.env.locals /\ b ∉ X.fs /\ (b ∈ X.ex \/ X.s₀.heap.objs.size <= b) /\ (∀ x c, X.env.cells.lookup x = some c -> c ≠ b) /\ ∀ p ∈ X.pn ++ pins, p.1 ≠ b
theorem Inv.fpOk {X : Cx} {pins : tzB} {σ : St} {H H' : Hp} {s : Shared} {b : Addr} (I : Inv X pins σ H s) (hb : s.heap.objs.size <= b) (hn : H' b = none) : pY X pins H' b := by
 refine ⟨hn, Nat.ne_of_gt (Nat.lt_of_lt_of_le I.lt hb), I.nofs hb, .inr (Nat.le_trans I.sz hb), fun x c e z => ?_, fun p hp z => ?_⟩
 ·obtain ⟨v, q⟩ := I.cell x c e
  exact absurd (Nat.lt_of_lt_of_le q.lt (by rw [z]; exact hb)) (Nat.lt_irrefl _)
 ·exact absurd (Nat.lt_of_lt_of_le (Heap.lt_size (I.pin p hp).1) (by rw [z]; exact hb)) (Nat.lt_irrefl _)
structure Turn (P : Program) (w : World) (K : tz0) (tg : Expr) (J : It) (fp : List Addr) (it : Addr) (tn : Nat -> Heap -> Prop) : Prop where
 mem : it ∈ fp
 obj : ∀ i h, tn i h -> ∀ b ∈ fp, ∃ o, h.get? b = some o /\ ∀ v, o.data ≠ .cell v
 keep : ∀ i h h', tn i h -> (∀ b ∈ fp, ∀ o, h.get? b = some o -> h'.get? b = some o) -> tn i h'
 item : ∀ (X : Cx), X.prog = P -> X.w = w -> X.K = K -> X.calm = true -> ∀ (i : Nat) (pins : tzB) (s : Shared) (σ : St) (H : Hp) (E : Value -> Shared -> Prop), Inv X pins σ H s -> (∀ b ∈ fp, pY X pins H b) -> tn i s.heap -> J.go i H ->
  wpAny (model P w) X.A (pyNext (.ref it)) (fun r s1 => ∃ u, r = some u /\
   wpAny (model P w) X.A (letOwnedTupleGo tg (.ref it) u) (fun _ s2 => ∃ x H', Inv X pins σ H' s2 /\ cW x u /\ J.yld i H x H' /\ tn (i + 1) s2.heap /\ ∀ b ∈ fp, H' b = none) E s1) E s
 done : ∀ (X : Cx), X.prog = P -> X.w = w -> X.K = K -> X.calm = true -> ∀ (i : Nat) (pins : tzB) (s : Shared) (σ : St) (H : Hp) (E : Value -> Shared -> Prop), Inv X pins σ H s -> (∀ b ∈ fp, pY X pins H b) -> tn i s.heap -> J.stop i H ->
  wpAny (model P w) X.A (pyNext (.ref it)) (fun r s1 => r = none /\ Inv X pins σ H s1) E s
 self : ∀ (A : Around) (i : Nat) (s : Shared) (Q : Value -> Shared -> Prop) (E : Value -> Shared -> Prop), tn i s.heap -> Q (.ref it) s -> wpAny (model P w) A (pyIter (.ref it)) Q E s
noncomputable abbrev TI := St -> Hp -> (It -> Hp -> Prop) -> Prop
noncomputable def PIE (X : Cx) (pins : tzB) (σ : St) (tg : Expr) (R : It -> Hp -> Prop) (itv : Value) (s2 : Shared) : Prop :=
 ∃ (it : Addr) (fp : List Addr) (tn : Nat -> Heap -> Prop) (J : It) (H' : Hp), itv = .ref it /\ Inv X pins σ H' s2 /\ Turn X.prog X.w X.K tg J fp it tn /\ tn 0 s2.heap /\ (∀ b ∈ fp, pY X pins H' b) /\ R J H'
noncomputable def PI (X : Cx) (tg iter : Expr) (wi : TI) : Prop :=
 ∀ (pins : tzB) (s : Shared) (σ : St) (H : Hp) (R : It -> Hp -> Prop), Inv X pins σ H s -> wi σ H R ->
  wpAny (model X.prog X.w) X.A (eval iter X.env) (fun v s1 => wpAny (model X.prog X.w) X.A (pyIter v) (PIE X pins σ tg R) X.xe s1) X.xe s
theorem zp3 {M : Model} {A : Around} {E : Value -> Shared -> Prop} {s : Shared} {tg : Expr} {it : Addr} {u : Value} {o : Obj} {n : String} {vs : Array Value} {Q : Unit -> Shared -> Prop} (ho : s.heap.get? it = some o) (hc : o.cls = .type n) (hd : o.data = .fields vs)
  (hn : ["enumerate", "zip", "dict_itemiterator", "dict_reverseitemiterator", "odict_iterator", "itertools.zip_longest", "itertools.pairwise"].contains n = false) (hQ : Q () s) : wpAny M A (letOwnedTupleGo tg (.ref it) u) Q E s := by
 unfold letOwnedTupleGo
 cases tg <;> first
  | exact wpAny_pure hQ
  | (cases u <;> first
    | exact wpAny_pure hQ
    | (refine wpAny_bind (wpAny_load ho ?_)
       rw [hc, hd]
       show wpAny M A (if (["enumerate", "zip", "dict_itemiterator", "dict_reverseitemiterator", "odict_iterator", "itertools.zip_longest", "itertools.pairwise"].contains n && vs[0]? == some (rawInt _)) = true then _ else _) Q E s
       rw [if_neg (by intro h; rw [hn, Bool.false_and] at h; cases h)]
       exact wpAny_pure hQ))
noncomputable def Itl (K : tz0) (a : Addr) : It :=
 ⟨fun i H => ∃ xs x, SqL K H a xs /\ xs[i]? = some x, fun i H x H' => H' = H /\ ∀ xs, SqL K H a xs -> xs[i]? = some x, fun i H => ∃ xs, SqL K H a xs /\ xs.length <= i⟩
noncomputable def Itt (K : tz0) (a : Addr) : It :=
 ⟨fun i H => ∃ xs x, SqT K H a xs /\ xs[i]? = some x, fun i H x H' => H' = H /\ ∀ xs, SqT K H a xs -> xs[i]? = some x, fun i H => ∃ xs, SqT K H a xs /\ xs.length <= i⟩
noncomputable def Itr (lo : Int) (n : Nat) : It := ⟨fun i _ => i < n, fun i H x H' => H' = H /\ x = .int (lo + i), fun i _ => n <= i⟩
theorem zv0 {P : Program} {w : World} {K : tz0} {tg : Expr} (a it : Addr) : Turn P w K tg (Itl K a) [it] it (fun i h => h.IsListIter it a i) where
 mem := by simp
 obj := fun i h st b hb => by
  have e : b = it := by simpa using hb
  subst e
  obtain ⟨o, e, c, d⟩ := st
  exact ⟨o, e, fun v z => by rw [d] at z; cases z⟩
 keep := fun i h h' st k => st.at fun o e => k it (by simp) o e
 item := by
  intro X hP hw hK hc i pins s σ H E I hf st hg
  subst hP hw hK
  obtain ⟨xs, x, hq, hx⟩ := hg
  obtain ⟨its, rv, p, hz⟩ := I.list hq
  obtain ⟨u, hu, ru⟩ := rv.get hx
  obtain ⟨f0, f1, f2, f3, f4, f5⟩ := hf it (by simp)
  refine wpAny_pyNext_list_item st p.isList (x := u) (by simpa using hu) fun h' st' sb => ?_
  have I1 : Inv X pins σ H { s with heap := h' } := I.turned (t' := s.toks) (fun b o hb e => (sb.2 b hb).trans e) f0 f1 f3 f4 f5
  obtain ⟨o, e, c, d⟩ := id st'
  exact ⟨u, rfl, zp3 (s := { s with heap := h' }) e c d (by decide) ⟨x, H, I1, ru, ⟨rfl, fun ys hy => by rw [I.list_inj hy hq]; exact hx⟩, st', fun b hb => (hf b hb).1⟩⟩
 done := by
  intro X hP hw hK hc i pins s σ H E I hf st hg
  subst hP hw hK
  obtain ⟨xs, hq, hx⟩ := hg
  obtain ⟨its, rv, p, hz⟩ := I.list hq
  obtain ⟨f0, f1, f2, f3, f4, f5⟩ := hf it (by simp)
  have hl := rv.length
  exact wpAny_pyNext_list_end (I.ok.hd hc) st p.isList (by simp; omega) fun h' eb => ⟨rfl, I.turned (t' := s.toks) (fun b o hb e => eb b o hb e) f0 f1 f3 f4 f5⟩
 self := fun _ _ _ _ _ st h => wpAny_pyIter_listiter st h
theorem zp4 {P : Program} {w : World} {K : tz0} {tg : Expr} (a it : Addr) : Turn P w K tg (Itt K a) [it] it (fun i h => h.IsTupleIter it a i) where
 mem := by simp
 obj := fun i h st b hb => by
  have e : b = it := by simpa using hb
  subst e
  obtain ⟨o, e, c, d⟩ := st
  exact ⟨o, e, fun v z => by rw [d] at z; cases z⟩
 keep := fun i h h' st k => st.at fun o e => k it (by simp) o e
 item := by
  intro X hP hw hK hc i pins s σ H E I hf st hg
  subst hP hw hK
  obtain ⟨xs, x, hq, hx⟩ := hg
  obtain ⟨its, rv, p, hz⟩ := I.tuple hq
  obtain ⟨u, hu, ru⟩ := rv.get hx
  obtain ⟨f0, f1, f2, f3, f4, f5⟩ := hf it (by simp)
  refine wpAny_pyNext_tuple_item st (show s.heap.IsTuple a its.toArray from p) (x := u) (by simpa using hu) fun h' st' sb => ?_
  have I1 : Inv X pins σ H { s with heap := h' } := I.turned (t' := s.toks) (fun b o hb e => (sb.2 b hb).trans e) f0 f1 f3 f4 f5
  obtain ⟨o, e, c, d⟩ := id st'
  exact ⟨u, rfl, zp3 (s := { s with heap := h' }) e c d (by decide) ⟨x, H, I1, ru, ⟨rfl, fun ys hy => by rw [I.tuple_inj hy hq]; exact hx⟩, st', fun b hb => (hf b hb).1⟩⟩
 done := by
  intro X hP hw hK hc i pins s σ H E I hf st hg
  subst hP hw hK
  obtain ⟨xs, hq, hx⟩ := hg
  obtain ⟨its, rv, p, hz⟩ := I.tuple hq
  obtain ⟨f0, f1, f2, f3, f4, f5⟩ := hf it (by simp)
  have hl := rv.length
  exact wpAny_pyNext_tuple_end (I.ok.hd hc) st (show s.heap.IsTuple a its.toArray from p) (by simp; omega) fun h' eb => ⟨rfl, I.turned (t' := s.toks) (fun b o hb e => eb b o hb e) f0 f1 f3 f4 f5⟩
 self := fun _ _ _ _ _ st h => wpAny_pyIter_tupleiter st h
theorem zp5 {P : Program} {w : World} {K : tz0} {tg : Expr} (it : Addr) (lo : Int) (n : Nat) : Turn P w K tg (Itr lo n) [it] it (fun i h => IsRangeIter h it (lo + (i : Nat) * 1) ((n : Int) - (i : Nat)) 1) where
 mem := by simp
 obj := fun i h st b hb => by
  have e : b = it := by simpa using hb
  subst e
  exact ⟨_, st, fun v z => by
   have z' : Data.fields _ = Data.cell v := z
   cases z'⟩
 keep := fun i h h' st k => k it (by simp) _ st
 item := by
  intro X hP hw hK hc i pins s σ H E I hf st hg
  subst hP hw hK
  obtain ⟨f0, f1, f2, f3, f4, f5⟩ := hf it (by simp)
  have W := Walks.range (prog := X.prog) (w := X.w) (I.ok.hd hc) it lo 1 n
  refine W.item i s _ _ hg st fun v h' tk hv st' kk => ?_
  obtain ⟨t, rfl⟩ := hv
  have I1 : Inv X pins σ H { s with heap := h', toks := tk } := I.turned (fun b o hb e => kk b o (by simpa using hb) e) f0 f1 f3 f4 f5
  refine ⟨_, rfl, zp3 (s := { s with heap := h', toks := tk }) (n := "range_iterator") st' rfl rfl (by decide) ⟨.int (lo + i), H, I1, ⟨t, ?_⟩, ⟨rfl, rfl⟩, st', fun b hb => (hf b hb).1⟩⟩
  rw [Int.mul_one]
 done := by
  intro X hP hw hK hc i pins s σ H E I hf st hg
  subst hP hw hK
  obtain ⟨f0, f1, f2, f3, f4, f5⟩ := hf it (by simp)
  exact wpAny_pyNext_range_end (I.ok.hd hc) st (by have : n <= i := hg; omega) fun h' eb => ⟨rfl, I.turned (t' := s.toks) (fun b o hb e => eb b o hb e) f0 f1 f3 f4 f5⟩
 self := fun _ _ _ _ _ st h => wpAny_pyIter_rangeiter st h
section
variable {X : Cx} {tg : Expr}
theorem ze9 {pins : tzB} {σ : St} {H : Hp} {s : Shared} {R : It -> Hp -> Prop} {E : Value -> Shared -> Prop} {lo hi : Int} {t u v : Tok} {tk : Nat} (I : Inv X pins σ H s) (h1 : -(2 ^ 62) <= lo) (h2 : lo < 2 ^ 62) (h3 : -(2 ^ 62) <= hi) (h4 : hi < 2 ^ 62)
  (q : R (Itr lo (hi - lo).toNat) H) : wpAny (model X.prog X.w) X.A (pyIter (.ref s.heap.objs.size)) (PIE X pins σ tg R) E { s with heap := s.heap.push { cls := .type "range", data := .fields #[.int lo t, .int hi u, .int 1 v] }, toks := tk } := by
 refine wpAny_pyIter_range (IsRange.new ..) (small_one h1 h2 h3 h4) ?_
 have I1 : Inv X pins σ H { s with heap := s.heap.push { cls := .type "range", data := .fields #[.int lo t, .int hi u, .int 1 v] }, toks := tk } := I.kept fun b o e => Heap.get?_push_of_some _ e
 refine ⟨(s.heap.push { cls := .type "range", data := .fields #[.int lo t, .int hi u, .int 1 v] }).objs.size, [(s.heap.push { cls := .type "range", data := .fields #[.int lo t, .int hi u, .int 1 v] }).objs.size], _, _, H, rfl,
  I1.kept (t' := tk) fun b o e => Heap.get?_push_of_some _ e, zp5 _ lo (hi - lo).toNat, ?_, fun b hb => ?_, q⟩
 ·have e1 : lo + ((0 : Nat) : Int) * 1 = lo := by simp
  have e2 : (((hi - lo).toNat : Nat) : Int) - ((0 : Nat) : Int) = Builtin.Range.rangeSize lo hi 1 := by rw [rangeSize_one]; split <;> omega
  show IsRangeIter _ _ (lo + ((0 : Nat) : Int) * 1) ((((hi - lo).toNat : Nat) : Int) - ((0 : Nat) : Int)) 1
  rw [e1, e2]
  exact Heap.get?_push_size _ rfl
 ·have e : b = (s.heap.push { cls := .type "range", data := .fields #[.int lo t, .int hi u, .int 1 v] }).objs.size := by simpa using hb
  subst e
  exact I1.fpOk (Nat.le_refl _) (I1.hok.fresh (Nat.le_refl _))
noncomputable def yu9 (ta : TA) : TI := fun σ H R => ta σ H fun vs H1 => ∃ j : Int, vs = [.int j] /\ -(2 ^ 62) <= j /\ j < 2 ^ 62 /\ R (Itr 0 j.toNat) H1
noncomputable def yv0 (ta : TA) : TI := fun σ H R => ta σ H fun vs H1 => ∃ i j : Int, vs = [.int i, .int j] /\ (-(2 ^ 62) <= i /\ i < 2 ^ 62 /\ -(2 ^ 62) <= j /\ j < 2 ^ 62) /\ R (Itr i (j - i).toNat) H1
theorem zv1 {a : Expr} {ta : TA} {p pos : Pos} (hg : Gl X "range") (hm : X.mg "range" = none) (ha : PA X [a] ta) (hs : starEach [a] X.env = [(false, eval a X.env)] := by rfl) : PI X tg (.Call (.Name "range" p) [a] [] pos) (yu9 ta) := by
 intro pins s σ H R I h
 refine Call_ (tK I hg hm boot_range (PyProof.Rows.callWith_type1 (thn (ha pos pins s σ H _ I h) fun us s1 ⟨vs, H1, I1, r1, q1⟩ => ?_) hs rfl))
 obtain ⟨j, e, q1, q2, q⟩ := q1
 subst e
 cases r1 with
 | cons r rr =>
  cases rr
  obtain ⟨t, rfl⟩ := r
  exact call_range_1 (ze9 I1 (by omega) (by omega) q1 q2 (by simpa using q))
theorem zv2 {a b : Expr} {ta : TA} {p pos : Pos} (hg : Gl X "range") (hm : X.mg "range" = none) (ha : PA X [a, b] ta) (hs : starEach [a, b] X.env = [(false, eval a X.env), (false, eval b X.env)] := by rfl) (hs2 : starEach [b] X.env = [(false, eval b X.env)] := by rfl) :
  PI X tg (.Call (.Name "range" p) [a, b] [] pos) (yv0 ta) := by
 intro pins s σ H R I h
 refine Call_ (tK I hg hm boot_range (PyProof.Rows.callWith_type1 (thn (ha pos pins s σ H _ I h) fun us s1 ⟨vs, H1, I1, r1, q1⟩ => ?_) (by rw [hs, hs2]) (by rw [hs2]; rfl)))
 obtain ⟨i, j, e, ⟨q1, q2, q3, q4⟩, q⟩ := q1
 subst e
 cases r1 with
 | cons r rr =>
  cases rr with
  | cons r' rr =>
   cases rr
   obtain ⟨t, rfl⟩ := r
   obtain ⟨t', rfl⟩ := r'
   exact call_range_2 (ze9 I1 q1 q2 q3 q4 q)
noncomputable def yx7 (wi : TI) (g : TG) (tb : TS) : TS := fun D σ H => wi σ H fun J H1 => ∃ W : Nat -> Nat -> St -> Hp -> Prop, (∃ m, W 0 m σ H1) /\ ∀ i m σ H, W i m σ H ->
 (J.stop i H /\ D.nx σ H) \/ (J.go i H /\ ∃ N : St -> Hp -> Prop, (∀ σ' H', N σ' H' -> ∃ m', m' < m /\ W (i + 1) m' σ' H') /\ ∀ x H', J.yld i H x H' -> g x σ H' fun σ2 H2 => tb { D with nx := N, ct := N, bk := D.nx } σ2 H2)
noncomputable def rV (fp : List Addr) (h : Heap) : tzB := fp.filterMap fun b => (h.get? b).map fun o => (b, o)
theorem pD {fp : List Addr} {h : Heap} {b : Addr} {o : Obj} (hb : b ∈ fp) (e : h.get? b = some o) : (b, o) ∈ rV fp h := List.mem_filterMap.mpr ⟨b, hb, by rw [e]; rfl⟩
theorem zv3 {fp : List Addr} {h : Heap} {p : Addr × Obj} (hp : p ∈ rV fp h) : p.1 ∈ fp /\ h.get? p.1 = some p.2 := by
 obtain ⟨b, hb, e⟩ := List.mem_filterMap.mp hp
 cases q : h.get? b with
 | none => rw [q] at e; cases e
 | some o =>
  rw [q] at e
  have e' : (b, o) = p := Option.some.inj e
  subst e'
  exact ⟨hb, q⟩
theorem Inv.pinned {pins : tzB} {σ : St} {H : Hp} {s : Shared} {fp : List Addr} (I : Inv X pins σ H s) (hf : ∀ b ∈ fp, pY X pins H b) (ho : ∀ b ∈ fp, ∃ o, s.heap.get? b = some o /\ ∀ v, o.data ≠ .cell v) : Inv X (pins ++ rV fp s.heap) σ H s :=
 I.pins_of fun p hp => (List.mem_append.mp hp).elim (fun z => I.pin p (List.mem_append_right _ z)) fun z => by
  obtain ⟨hb, e⟩ := zv3 z
  obtain ⟨f0, f1, f2, _⟩ := hf p.1 hb
  obtain ⟨o, e', d⟩ := ho p.1 hb
  rw [e] at e'; cases e'
  exact ⟨e, f0, f1, f2, d⟩
theorem Inv.unpinned {pins pl : tzB} {σ : St} {H : Hp} {s : Shared} (I : Inv X (pins ++ pl) σ H s) : Inv X pins σ H s := I.pins_of fun p hp => I.pin p (List.mem_append_right _ (List.mem_append_left _ hp))
theorem zf0 {iter : Expr} {body : List Stmt} {wi : TI} {g : TG} {tb : TS} {pos : Pos} (hp : PassesOwn (model X.prog X.w) X.A X.env X.xe) (hc : X.calm = true) (hi : PI X tg iter wi) (hg : PG X tg g) (hb : PSs X body tb)
  (hs : ∀ x, foldedSetIterable iter X.env x = pure x := by intro _; rfl) : PS X (.For tg iter body [] pos) (yx7 wi g tb) := by
 intro pins s σ H D I h
 refine wpAny_For (thn (hi pins s σ H _ I h) fun v s1 h1 => thn h1 fun itv s2 h2 => ?_) hs
 obtain ⟨it, fp, tn, J, H2, e, I2, T, st2, f2, W, ⟨m0, w0⟩, turn⟩ := h2
 subst e
 have stat : ∀ {H' : Hp}, (∀ b ∈ fp, H' b = none) -> ∀ b ∈ fp, pY X pins H' b := fun hn b hb => ⟨hn b hb, (f2 b hb).2⟩
 refine codeAny_forLoop_any (fun n s' => ∃ i σ' H', Inv X pins σ' H' s' /\ tn i s'.heap /\ (∀ b ∈ fp, H' b = none) /\ W i n σ' H') ?_ m0 ⟨0, σ, H2, I2, st2, fun b hb => (f2 b hb).1, w0⟩
 rintro n s3 ⟨i, σ3, H3, I3, st3, fr3, w3⟩
 rcases turn i n σ3 H3 w3 with ⟨stop, qn⟩ | ⟨go, N, hN, step⟩
 ·refine wpAny_passesOwn hp (thn (T.done X rfl rfl rfl hc i pins s3 σ3 H3 X.xe I3 (stat fr3) st3 stop) fun r s4 ⟨hr, I4⟩ => ?_)
  subst hr
  exact wpAny_execs_nil ⟨σ3, H3, I4, qn⟩
 ·refine wpAny_passesOwn hp (thn (T.item X rfl rfl rfl hc i pins s3 σ3 H3 X.xe I3 (stat fr3) st3 go) fun r s4 ⟨u, hr, h4⟩ => ?_)
  subst hr
  refine wpAny_passesOwn hp (thn h4 fun _ s5 ⟨x, H5, I5, r5, y5, st5, fr5⟩ => ?_)
  have I5' := I5.pinned (stat fr5) (T.obj _ _ st5)
  refine wpAny_passesOwn hp (thn (hg _ s5 σ3 H5 x u _ I5' r5 (step x H5 y5)) fun _ s6 ⟨σ6, H6, I6, q6⟩ => ?_)
  refine wpAny_passesOwn hp (thn (hb _ s6 σ6 H6 _ I6 q6) fun f s7 q7 => ?_)
  have again : ∀ {σ7 : St} {H7 : Hp}, Inv X (pins ++ rV fp s5.heap) σ7 H7 s7 -> N σ7 H7 -> ∃ m, m < n /\ ∃ i σ' H', Inv X pins σ' H' s7 /\ tn i s7.heap /\ (∀ b ∈ fp, H' b = none) /\ W i m σ' H' := fun {σ7 H7} I7 n7 => by
   obtain ⟨m', hm, w7⟩ := hN σ7 H7 n7
   refine ⟨m', hm, i + 1, σ7, H7, I7.unpinned, T.keep _ _ _ st5 fun b hb o e => (I7.pin (b, o) (List.mem_append_right _ (List.mem_append_right _ (pD hb e)))).1, fun b hb => ?_, w7⟩
   obtain ⟨o, e, d⟩ := T.obj _ _ st5 b hb
   exact (I7.pin (b, o) (List.mem_append_right _ (List.mem_append_right _ (pD hb e)))).2.1
  cases f with
  | next => obtain ⟨σ7, H7, I7, n7⟩ := q7; exact again I7 n7
  | cont => obtain ⟨σ7, H7, I7, n7⟩ := q7; exact again I7 n7
  | brk => obtain ⟨σ7, H7, I7, q7⟩ := q7; exact ⟨σ7, H7, I7.unpinned, q7⟩
  | ret v => obtain ⟨x7, σ7, H7, I7, r7, q7⟩ := q7; exact ⟨x7, σ7, H7, I7.unpinned, r7, q7⟩
end
noncomputable abbrev R2 := V -> V -> Hp -> VK -> Prop
noncomputable def OpR (X : Cx) (f : Value -> Value -> Sem Value) (r : R2) : Prop :=
 ∀ (pins : tzB) (s : Shared) (σ : St) (H : Hp) (x y : V) (v u : Value) (Q : VK), Inv X pins σ H s -> cW x v -> cW y u -> r x y H Q ->
  wpAny (model X.prog X.w) X.A (f v u) (EP X pins σ Q) X.xe s
noncomputable def UnR (X : Cx) (f : Value -> Sem Value) (r : V -> Hp -> VK -> Prop) : Prop :=
 ∀ (pins : tzB) (s : Shared) (σ : St) (H : Hp) (x : V) (v : Value) (Q : VK), Inv X pins σ H s -> cW x v -> r x H Q ->
  wpAny (model X.prog X.w) X.A (f v) (EP X pins σ Q) X.xe s
noncomputable def fY (X : Cx) (f : Value) (r : List V -> Hp -> VK -> Prop) : Prop :=
 ∀ (pins : tzB) (s : Shared) (σ : St) (H : Hp) (xs : List V) (us : List Value) (Q : VK), Inv X pins σ H s -> cG xs us -> r xs H Q ->
  wpAny (model X.prog X.w) X.A (call f us) (EP X pins σ Q) X.xe s
noncomputable def yx8 (X : Cx) (r : V -> Hp -> (Bool -> Hp -> Prop) -> Prop) : Prop :=
 ∀ (pins : tzB) (s : Shared) (σ : St) (H : Hp) (x : V) (v : Value) (Q : Bool -> Hp -> Prop), Inv X pins σ H s -> cW x v -> r x H Q ->
  wpAny (model X.prog X.w) X.A (truthy v) (TP X pins σ Q) X.xe s
noncomputable def tOp (r : R2) (ta tb : TE) : TE := fun σ H Q => ta σ H fun x H1 => tb σ H1 fun y H2 => r x y H2 Q
noncomputable def tUn (r : V -> Hp -> VK -> Prop) (ta : TE) : TE := fun σ H Q => ta σ H fun x H1 => r x H1 Q
noncomputable def rI (C : Int -> Int -> Prop) (g : Int -> Int -> V) : R2 := fun x y H Q => ∃ i j, x = .int i /\ y = .int j /\ C i j /\ Q (g i j) H
noncomputable def rI0 (g : Int -> Int -> V) : R2 := fun x y H Q => ∃ i j, x = .int i /\ y = .int j /\ Q (g i j) H
noncomputable def rU (g : Int -> V) : V -> Hp -> VK -> Prop := fun x H Q => ∃ i, x = .int i /\ Q (g i) H
section
variable {X : Cx} {a b c : Expr} {ta tb tc : TE} {pos : Pos}
theorem yc0 (ha : PE X a ta) (hb : PE X b tb) {pins : tzB} {s : Shared} {σ : St} {H : Hp} {R : V -> V -> Hp -> Prop} (I : Inv X pins σ H s)
  (h : ta σ H fun x H1 => tb σ H1 fun y H2 => R x y H2) {Q : Value -> Shared -> Prop} {f : Value -> Value -> Sem Value}
  (hf : ∀ v u s2 x y H2, Inv X pins σ H2 s2 -> cW x v -> cW y u -> R x y H2 -> wpAny (model X.prog X.w) X.A (f v u) Q X.xe s2) :
  wpAny (model X.prog X.w) X.A (eval a X.env) (fun v s₁ => wpAny (model X.prog X.w) X.A (eval b X.env) (fun u s₂ => wpAny (model X.prog X.w) X.A (f v u) Q X.xe s₂) X.xe s₁) X.xe s := by
 refine thn (ha pins s σ H _ I h) fun v s1 ⟨x, H1, I1, r1, q1⟩ => ?_
 refine thn (hb pins s1 σ H1 _ I1 q1) fun u s2 ⟨y, H2, I2, r2, q2⟩ => ?_
 exact hf v u s2 x y H2 I2 r1 r2 q2
theorem gM {op : Operator} {r : R2} (ho : OpR X (binaryOp op) r) (ha : PE X a ta) (hb : PE X b tb) : PE X (.BinOp a op b pos) (tOp r ta tb) := by
 intro pins s σ H Q I h
 exact wpAny_BinOp (yc0 ha hb I h fun v u s2 x y H2 I2 rx ry q => ho pins s2 σ H2 x y v u Q I2 rx ry q)
theorem yt3 {op : UnaryOp} {r : V -> Hp -> VK -> Prop} (ho : UnR X (unaryOp op) r) (ha : PE X a ta) : PE X (.UnaryOp op a pos) (tUn r ta) := by
 intro pins s σ H Q I h
 exact UnaryOp_ (thn (ha pins s σ H _ I h) fun v s1 ⟨x, H1, I1, r1, q1⟩ => ho pins s1 σ H1 x v Q I1 r1 q1)
theorem opI {f : Value -> Value -> Sem Value} {C : Int -> Int -> Prop} {g : Int -> Int -> Int}
  (rule : ∀ (i j : Int) (t u : Tok) (s : Shared) (Q : Value -> Shared -> Prop) (E : Value -> Shared -> Prop), C i j -> Q (.int (g i j) s.toks) { s with toks := s.toks + 1 } -> wpAny (model X.prog X.w) X.A (f (.int i t) (.int j u)) Q E s) :
  OpR X f (rI C fun i j => .int (g i j)) := by
 intro pins s σ H x y v u Q I rx ry h
 obtain ⟨i, j, rfl, rfl, hc, q⟩ := h
 obtain ⟨t, rfl⟩ := rx
 obtain ⟨t', rfl⟩ := ry
 exact rule i j t t' s _ _ hc ⟨.int (g i j), H, I.tok _, ⟨_, rfl⟩, q⟩
theorem yc1 {f : Value -> Value -> Sem Value} {g : Int -> Int -> Int}
  (rule : ∀ (i j : Int) (t u : Tok) (s : Shared) (Q : Value -> Shared -> Prop) (E : Value -> Shared -> Prop), Q (.int (g i j) s.toks) { s with toks := s.toks + 1 } -> wpAny (model X.prog X.w) X.A (f (.int i t) (.int j u)) Q E s) :
  OpR X f (rI0 fun i j => .int (g i j)) := by
 intro pins s σ H x y v u Q I rx ry h
 obtain ⟨i, j, rfl, rfl, q⟩ := h
 obtain ⟨t, rfl⟩ := rx
 obtain ⟨t', rfl⟩ := ry
 exact rule i j t t' s _ _ ⟨.int (g i j), H, I.tok _, ⟨_, rfl⟩, q⟩
theorem zp6 {f : Value -> Value -> Sem Value} {g : Int -> Int -> Bool}
  (rule : ∀ (i j : Int) (t u : Tok) (s : Shared) (Q : Value -> Shared -> Prop) (E : Value -> Shared -> Prop), Q (.bool (g i j)) s -> wpAny (model X.prog X.w) X.A (f (.int i t) (.int j u)) Q E s) :
  OpR X f (rI0 fun i j => .bl (g i j)) := by
 intro pins s σ H x y v u Q I rx ry h
 obtain ⟨i, j, rfl, rfl, q⟩ := h
 obtain ⟨t, rfl⟩ := rx
 obtain ⟨t', rfl⟩ := ry
 exact rule i j t t' s _ _ ⟨.bl (g i j), H, I, rfl, q⟩
noncomputable def yx9 (i j : Int) : Prop := 0 < j /\ j < 1073741824
noncomputable def yg3 (i j : Int) : Prop := (-(2 ^ 64) < i /\ i < 2 ^ 64) \/ (-(2 ^ 64) < j /\ j < 2 ^ 64)
theorem yg3.ok {i j : Int} (h : yg3 i j) : IntMulOk i j := by
 rcases h with ⟨h1, h2⟩ | ⟨h1, h2⟩
 ·exact .of_left (intBits_le_64 h1 h2)
 ·exact .of_right (intBits_le_64 h1 h2)
theorem zp7 (k : Nat) : (0 : Int) <= 2 ^ k := by
 rw [two_pow_cast]
 exact Int.natCast_nonneg _
theorem rK : OpR X (binaryOp .Add) (rI0 fun i j => .int (i + j)) := yc1 fun _ _ _ _ _ _ _ q => add_int q
theorem yn5 : OpR X (binaryOp .Sub) (rI0 fun i j => .int (i - j)) := yc1 fun _ _ _ _ _ _ _ q => sub_int q
theorem mV : OpR X (binaryOp .Mult) (rI yg3 fun i j => .int (i * j)) := opI fun _ _ _ _ _ _ _ hc q => mul_int q hc.ok
theorem zm3 : OpR X (binaryOp .FloorDiv) (rI yx9 fun i j => .int (i / j)) := opI fun i j _ _ _ _ _ hc q => by
 have h1 : (0 : Int) < j := hc.1
 have h2 : j < 1073741824 := hc.2
 exact floordiv_int (by omega) (by rw [Int.fdiv_eq_ediv_of_nonneg i (by omega)]; exact q) (.inl (PyProof.noPylong_small (by omega)))
theorem xF : OpR X (binaryOp .Mod) (rI (fun _ j => 0 < j) fun i j => .int (i % j)) := opI fun i j _ _ _ _ _ hc q => by
 have h1 : (0 : Int) < j := hc
 exact mod_int' (by omega) (by rw [Int.fmod_eq_emod_of_nonneg i (by omega)]; exact q)
theorem yn6 : OpR X (binaryOp .RShift) (rI (fun _ j => 0 <= j) fun i j => .int (i / 2 ^ j.toNat)) := opI fun i j _ _ _ _ _ hc q =>
 rshift_int hc (by rw [Int.fdiv_eq_ediv_of_nonneg i (zp7 _)]; exact q)
theorem zv4 : OpR X (binaryOp .BitAnd) (rI0 fun i j => .int (Builtin.bitAnd i j)) := yc1 fun _ _ _ _ _ _ _ q => and_int q
theorem unI {f : Value -> Sem Value} {g : Int -> Int}
  (rule : ∀ (i : Int) (t : Tok) (s : Shared) (Q : Value -> Shared -> Prop) (E : Value -> Shared -> Prop), Q (.int (g i) s.toks) { s with toks := s.toks + 1 } -> wpAny (model X.prog X.w) X.A (f (.int i t)) Q E s) :
  UnR X f (rU fun i => .int (g i)) := by
 intro pins s σ H x v Q I rx h
 obtain ⟨i, rfl, q⟩ := h
 obtain ⟨t, rfl⟩ := rx
 exact rule i t s _ _ ⟨.int (g i), H, I.tok _, ⟨_, rfl⟩, q⟩
theorem yn7 : UnR X (unaryOp .USub) (rU fun i => .int (-i)) := unI fun _ _ _ _ _ q => neg_int q
end
noncomputable def yr9 : V -> V -> Bool
 | .non, .non => true | .non, .int _ => true | .int _, .non => true | .non, .bl _ => true | .bl _, .non => true | .non, .str _ => true | .str _, .non => true
 | .int _, .int _ => true | .bl _, .bl _ => true | .str _, .str _ => true | .byt _, .byt _ => true
 | .int _, .str _ => true | .str _, .int _ => true | .bl _, .str _ => true | .str _, .bl _ => true
 | _, _ => false
noncomputable def rEq : R2 := fun x y H Q => yr9 x y = true /\ Q (.bl (decide (x = y))) H
noncomputable def rNe : R2 := fun x y H Q => yr9 x y = true /\ Q (.bl (!decide (x = y))) H
theorem zm4 {i j : Int} : decide (V.int i = V.int j) = (i == j) := by
 rw [Bool.eq_iff_iff]
 simp
theorem zv5 {i j : Bool} : decide (V.bl i = V.bl j) = (i == j) := by
 rw [Bool.eq_iff_iff]
 simp
theorem zm5 {i j : Str} : decide (V.str i = V.str j) = (i == j) := by
 rw [Bool.eq_iff_iff]
 simp
theorem zm6 {i j : Array UInt8} : decide (V.byt i = V.byt j) = (i.toList == j.toList) := by
 rw [Bool.eq_iff_iff]
 cases i
 cases j
 simp
section
variable {X : Cx} {a b c : Expr} {ta tb tc : TE} {pos : Pos}
theorem dP {pins : tzB} {σ : St} {H : Hp} {s : Shared} {Q : VK} {k k' : Bool} (I : Inv X pins σ H s) (q : Q (.bl k) H) (e : k = k') : EP X pins σ Q (.bool k') s := by
 subst e
 exact ⟨.bl k, H, I, rfl, q⟩
theorem zp8 : OpR X (compareOp .Eq) rEq := by
 intro pins s σ H x y v u Q I rx ry h
 obtain ⟨hs, q⟩ := h
 cases x with
 | non =>
  cases rx
  cases y with
  | non => cases ry; exact PySem.EqNone.eq_none_none (dP I q (by simp))
  | bl j => cases ry; exact PySem.EqNone.eq_none_bool (dP I q (by simp))
  | int j => obtain ⟨t', rfl⟩ := ry; exact PySem.EqNone.eq_none_int (dP I q (by simp))
  | str j => obtain ⟨t', rfl⟩ := ry; exact PySem.EqNone.eq_none_str (dP I q (by simp))
  | _ => exact absurd (show false = true from hs) Bool.false_ne_true
 | bl i =>
  cases rx
  cases y with
  | non => cases ry; exact PySem.EqNone.eq_bool_none (dP I q (by simp))
  | bl j => cases ry; exact eq_bool (dP I q zv5)
  | str j => obtain ⟨t', rfl⟩ := ry; exact PySem.EqMixed.eq_bool_str (dP I q (by simp))
  | _ => exact absurd (show false = true from hs) Bool.false_ne_true
 | int i =>
  obtain ⟨t, rfl⟩ := rx
  cases y with
  | non => cases ry; exact PySem.EqNone.eq_int_none (dP I q (by simp))
  | int j => obtain ⟨t', rfl⟩ := ry; exact eq_int (dP I q zm4)
  | str j => obtain ⟨t', rfl⟩ := ry; exact PySem.EqMixed.eq_int_str (dP I q (by simp))
  | _ => exact absurd (show false = true from hs) Bool.false_ne_true
 | str i =>
  obtain ⟨t, rfl⟩ := rx
  cases y with
  | non => cases ry; exact PySem.EqNone.eq_str_none (dP I q (by simp))
  | bl j => cases ry; exact PySem.EqMixed.eq_str_bool (dP I q (by simp))
  | int j => obtain ⟨t', rfl⟩ := ry; exact PySem.EqMixed.eq_str_int (dP I q (by simp))
  | str j => obtain ⟨t', rfl⟩ := ry; exact eq_str (dP I q zm5)
  | _ => exact absurd (show false = true from hs) Bool.false_ne_true
 | byt i =>
  obtain ⟨t, rfl⟩ := rx
  cases y with
  | byt j => obtain ⟨t', rfl⟩ := ry; exact PySem.W.eq_bytes (dP I q zm6)
  | _ => exact absurd (show false = true from hs) Bool.false_ne_true
 | _ => cases y <;> exact absurd (show false = true from hs) Bool.false_ne_true
theorem yg8 : OpR X (compareOp .NotEq) rNe := by
 intro pins s σ H x y v u Q I rx ry h
 obtain ⟨hs, q⟩ := h
 cases x with
 | non =>
  cases rx
  cases y with
  | non => cases ry; exact PySem.EqNone.ne_none_none (dP I q (by simp))
  | bl j => cases ry; exact PySem.EqNone.ne_none_bool (dP I q (by simp))
  | int j => obtain ⟨t', rfl⟩ := ry; exact PySem.EqNone.ne_none_int (dP I q (by simp))
  | str j => obtain ⟨t', rfl⟩ := ry; exact PySem.EqNone.ne_none_str (dP I q (by simp))
  | _ => exact absurd (show false = true from hs) Bool.false_ne_true
 | bl i =>
  cases rx
  cases y with
  | non => cases ry; exact PySem.EqNone.ne_bool_none (dP I q (by simp))
  | bl j => cases ry; exact ne_bool (dP I q (congrArg not zv5))
  | str j => obtain ⟨t', rfl⟩ := ry; exact PySem.EqMixed.ne_bool_str (dP I q (by simp))
  | _ => exact absurd (show false = true from hs) Bool.false_ne_true
 | int i =>
  obtain ⟨t, rfl⟩ := rx
  cases y with
  | non => cases ry; exact PySem.EqNone.ne_int_none (dP I q (by simp))
  | int j => obtain ⟨t', rfl⟩ := ry; exact ne_int (dP I q (congrArg not zm4))
  | str j => obtain ⟨t', rfl⟩ := ry; exact PySem.EqMixed.ne_int_str (dP I q (by simp))
  | _ => exact absurd (show false = true from hs) Bool.false_ne_true
 | str i =>
  obtain ⟨t, rfl⟩ := rx
  cases y with
  | non => cases ry; exact PySem.EqNone.ne_str_none (dP I q (by simp))
  | bl j => cases ry; exact PySem.EqMixed.ne_str_bool (dP I q (by simp))
  | int j => obtain ⟨t', rfl⟩ := ry; exact PySem.EqMixed.ne_str_int (dP I q (by simp))
  | str j => obtain ⟨t', rfl⟩ := ry; exact ne_str (dP I q (congrArg not zm5))
  | _ => exact absurd (show false = true from hs) Bool.false_ne_true
 | byt i =>
  obtain ⟨t, rfl⟩ := rx
  cases y with
  | byt j => obtain ⟨t', rfl⟩ := ry; exact PySem.W.ne_bytes (dP I q (congrArg not zm6))
  | _ => exact absurd (show false = true from hs) Bool.false_ne_true
 | _ => cases y <;> exact absurd (show false = true from hs) Bool.false_ne_true
theorem yt4 : OpR X (compareOp .Lt) (rI0 fun i j => .bl (decide (i < j))) := zp6 fun _ _ _ _ _ _ _ q => lt_int q
theorem yt5 : OpR X (compareOp .LtE) (rI0 fun i j => .bl (decide (i <= j))) := zp6 fun _ _ _ _ _ _ _ q => le_int q
theorem yt6 : OpR X (compareOp .Gt) (rI0 fun i j => .bl (decide (j < i))) := zp6 fun _ _ _ _ _ _ _ q => gt_int q
theorem yt7 : OpR X (compareOp .GtE) (rI0 fun i j => .bl (decide (j <= i))) := zp6 fun _ _ _ _ _ _ _ q => ge_int q
theorem yn8 : OpR X (compareOp .Is) (fun x y H Q => y = .non /\ Q (.bl (decide (x = .non))) H) := by
 intro pins s σ H x y v u Q I rx ry h
 obtain ⟨rfl, q⟩ := h
 cases ry
 refine is_none_gen (dP I q ?_)
 cases x <;> first
  | (cases rx; rfl)
  | (obtain ⟨t, rfl⟩ := rx; rfl)
theorem bX (b : Expr) {op : CmpOp} (h : op ≠ .In := by decide) (h2 : op ≠ .NotIn := by decide) : behindInMarks op b = false := by
 have e1 : (op == CmpOp.In) = false := by cases op <;> first | rfl | exact absurd rfl h
 have e2 : (op == CmpOp.NotIn) = false := by cases op <;> first | rfl | exact absurd rfl h2
 cases b <;> simp [behindInMarks, e1, e2]
theorem zm7 {op : CmpOp} {r : R2} (ho : OpR X (compareOp op) r) (ha : PE X a ta) (hb : PE X b tb) (hm : behindInMarks op b = false) : PE X (.Compare a [op] [b] pos) (tOp r ta tb) := by
 intro pins s σ H Q I h
 exact wpAny_Compare1 (yc0 ha hb I h fun v u s2 x y H2 I2 rx ry q => ho pins s2 σ H2 x y v u Q I2 rx ry q) hm
noncomputable def yv1 (t : TE) : TT := fun σ H Q => t σ H fun x H' => ∃ k, x = .bl k /\ Q k H'
theorem zm8 {op : CmpOp} {r : R2} (ho : OpR X (compareOp op) r) (ha : PE X a ta) (hb : PE X b tb) (hm : behindInMarks op b = false) : PT X (.Compare a [op] [b] pos) (yv1 (tOp r ta tb)) := by
 intro pins s σ H Q I h
 refine wpAny_isTrue_Compare1 (thn (ha pins s σ H _ I h) fun v s1 ⟨x, H1, I1, r1, q1⟩ => thn (hb pins s1 σ H1 _ I1 q1) fun u s2 ⟨y, H2, I2, r2, q2⟩ =>
  thn (ho pins s2 σ H2 x y v u _ I2 r1 r2 q2) fun c s3 ⟨z, H3, I3, r3, k, e, q3⟩ => ?_) hm
 subst e
 cases r3
 exact wpAny_truthy_bool ⟨H3, I3, q3⟩
noncomputable def yg4 (K : tz0) (x : V) (H : Hp) (k : Bool) : Prop :=
 match x with
 | .non => k = false
 | .bl b => k = b
 | .int i => k = (i != 0)
 | .str y => y.length <= sizeLine /\ k = ((y.length : Int) != 0)
 | .byt y => y.size <= sizeLine /\ k = ((y.size : Int) != 0)
 | .ref p => (∃ xs, SqL K H p xs /\ k = !xs.isEmpty) \/ (∃ xs, SqT K H p xs /\ k = !xs.isEmpty) \/ ∃ kvs, H p = some (.dK kvs) /\ k = !kvs.isEmpty
 | _ => False
theorem zp9 {U : Type} {kvs : List (U × V)} {vs : List (U × Value)} (r : KV kvs vs) : (!vs.isEmpty) = !kvs.isEmpty := by
 cases r <;> rfl
theorem xG {xs : List V} {its : List Value} (r : cG xs its) : (!its.toArray.isEmpty) = !xs.isEmpty := by
 cases r <;> simp
theorem pO : (sizeLine : Nat) < 2 ^ 63 := by rw [sizeLine_eq]; decide
theorem yn9 : yx8 X (fun x H Q => ∃ k, yg4 X.K x H k /\ Q k H) := by
 intro pins s σ H x v Q I rx h
 obtain ⟨k, e, q⟩ := h
 have hl := pO
 have hs : sizeLine = 16777216 := sizeLine_eq
 cases x with
 | non =>
  cases rx
  have e' : k = false := e
  subst e'
  exact truthy_none ⟨H, I, q⟩
 | bl b =>
  cases rx
  have e' : k = b := e
  subst e'
  exact wpAny_truthy_bool ⟨H, I, q⟩
 | int i =>
  obtain ⟨t, rfl⟩ := rx
  have e' : k = (i != 0) := e
  subst e'
  exact PySem.P.truthy_int ⟨H, I, q⟩
 | str y =>
  obtain ⟨t, rfl⟩ := rx
  obtain ⟨hy, e'⟩ : y.length <= sizeLine /\ k = ((y.length : Int) != 0) := e
  subst e'
  exact PySem.P.truthy_str (by omega) ⟨H, I.tok _, q⟩
 | byt y =>
  obtain ⟨t, rfl⟩ := rx
  obtain ⟨hy, e'⟩ : y.size <= sizeLine /\ k = ((y.size : Int) != 0) := e
  subst e'
  exact PySem.W.truthy_bytes (by omega) ⟨H, I.tok _, q⟩
 | ref p =>
  cases rx
  have e' : (∃ xs, SqL X.K H p xs /\ k = !xs.isEmpty) \/ (∃ xs, SqT X.K H p xs /\ k = !xs.isEmpty) \/ ∃ kvs, H p = some (.dK kvs) /\ k = !kvs.isEmpty := e
  rcases e' with ⟨xs, hx, e'⟩ | ⟨xs, hx, e'⟩ | ⟨kvs, hx, e'⟩
  ·subst e'
   obtain ⟨its, r, pl, hz⟩ := I.list hx
   have hlen := r.length
   exact wpAny_truthy_list pl.isList (by simp only [List.size_toArray]; omega) ⟨H, I.tok _, by rw [xG r]; exact q⟩
  ·subst e'
   obtain ⟨its, r, pl, hz⟩ := I.tuple hx
   have hlen := r.length
   exact truthy_tuple pl (by simp only [List.size_toArray]; omega) ⟨H, I.tok _, by rw [xG r]; exact q⟩
  ·subst e'
   obtain ⟨hz, hS, vs, r, m⟩ : kvs.length <= sizeLine /\ (p == sysModules) = false /\ ∃ vs, KV kvs vs /\ s.heap.DictOf (za1 X.prog X.w) p vs := I.hok p _ hx
   have hlen : kvs.length = vs.length := Paired.length r
   exact wpAny_truthy_dict hS m (by omega) ⟨H, I.tok _, by rw [zp9 r]; exact q⟩
 | _ => exact (show False from e).elim
theorem zf1 (ha : PE X a ta) (he : ∀ whole, isTrue a X.env whole = (do let v <- whole; standAt a.pos; holding [v] (truthy v))) :
  PT X a (fun σ H Q => ta σ H fun x H' => ∃ k, yg4 X.K x H' k /\ Q k H') := by
 intro pins s σ H Q I h
 exact isTrue_plain (thn (ha pins s σ H _ I h) fun v s1 ⟨x, H1, I1, r1, q1⟩ => yn9 pins s1 σ H1 x v Q I1 r1 q1) (he _)
theorem zq0 : OpR X (binaryOp .Add) (fun x y H Q => ∃ i j, x = .str i /\ y = .str j /\ i.length + j.length <= sizeLine /\ Q (.str (i ++ j)) H) := by
 intro pins s σ H x y v u Q I rx ry h
 obtain ⟨i, j, rfl, rfl, hz, q⟩ := h
 obtain ⟨t, rfl⟩ := rx
 obtain ⟨t', rfl⟩ := ry
 exact add_str (fun t' tk => ⟨.str (i ++ j), H, I.tok _, ⟨_, rfl⟩, q⟩) hz
theorem qG {x : V} {us : List Value} (r : cG [x] us) : ∃ u, us = [u] /\ cW x u := by
 cases r with
 | cons r1 r2 => cases r2; exact ⟨_, rfl, r1⟩
theorem zq1 {x y : V} {us : List Value} (r : cG [x, y] us) : ∃ u w', us = [u, w'] /\ cW x u /\ cW y w' := by
 cases r with
 | cons r1 r2 =>
  cases r2 with
  | cons r3 r4 => cases r4; exact ⟨_, _, rfl, r1, r3⟩
theorem zv6 (hc : X.calm = true) : fY X (.builtin "max") (fun xs H Q => ∃ i j, xs = [.int i, .int j] /\ Q (.int (if j > i then j else i)) H) := by
 intro pins s σ H xs us Q I r h
 obtain ⟨i, j, rfl, q⟩ := h
 obtain ⟨u, w', rfl, ⟨t, rfl⟩, ⟨t', rfl⟩⟩ := zq1 r
 refine max_two_ints (I.ok.hd hc) fun h' tk k => ⟨_, H, I.kept k, ?_, q⟩
 by_cases hj : j > i
 ·rw [if_pos hj, if_pos hj]; exact ⟨_, rfl⟩
 ·rw [if_neg hj, if_neg hj]; exact ⟨_, rfl⟩
theorem za3 : fY X (.type "int") (fun xs H Q => (∃ i, xs = [.int i] /\ Q (.int i) H) \/ ∃ k, xs = [.bl k] /\ Q (.int (if k then 1 else 0)) H) := by
 intro pins s σ H xs us Q I r h
 rcases h with ⟨i, rfl, q⟩ | ⟨k, rfl, q⟩
 ·obtain ⟨u, rfl, t, rfl⟩ := qG r
  exact call_int_int ⟨.int i, H, I, ⟨_, rfl⟩, q⟩
 ·obtain ⟨u, rfl, r1⟩ := qG r
  cases r1
  exact call_int_bool ⟨.int (if k then 1 else 0), H, I.tok _, ⟨_, rfl⟩, q⟩
end
structure ObjM (h : Heap) (x dx C : Addr) (mA : tzA) : Prop where
 obj : h.get? x = some (PySem.W.instObj C dx)
 ns : h.Ns1 dx mA
 ne : dx ≠ x
theorem zv7 {h : Heap} {dx : Addr} {mA : tzA} (n : h.Ns1 dx mA) : ∃ od, h.get? dx = some od /\ ∀ name, PySem.W.lookIn name od = some (mA name) := by
 obtain ⟨o, es, ep, ho, hd, hk, _, hm⟩ := n
 refine ⟨o, ho, fun name => ?_⟩
 have e := hm name
 unfold nsFind findBy at e
 rw [<- Array.find?_toList] at e
 unfold PySem.W.lookIn
 rw [hd]
 dsimp only
 split
 ·rename_i y q
  rw [q] at e
  exact congrArg some e
 ·rename_i q
  rw [q] at e
  have a : es.toList.any (·.refKey) = false := by
   rw [List.any_eq_false]
   intro y hy
   obtain ⟨z, t, hkey⟩ := hk y (Array.mem_toList_iff.mp hy)
   simp [DictEntry.refKey, hkey]
  have a' : ¬ es.toList.any (·.refKey) = true := by rw [a]; exact Bool.false_ne_true
  rw [if_neg a']
  exact congrArg some e
theorem ObjM.look {h : Heap} {x dx C : Addr} {mA : tzA} (I : ObjM h x dx C mA) : ∃ od, PySem.W.InstAt h x (PySem.W.instObj C dx) C (some od) /\ ∀ name, PySem.W.lookIn name od = some (mA name) :=
 let ⟨od, ho, hl⟩ := zv7 I.ns
 ⟨od, ⟨I.obj, rfl, rfl, ho⟩, hl⟩
section
variable {prog : Program} {w : World} {A : Around} {E : Value -> Shared -> Prop} {s : Shared} {K : tz0} {x dx C f : Addr} {mA : tzA} {name : Str} {v : Value}
theorem zm9 {expr : Bool} {Q : Value -> Shared -> Prop} (X : K.In s.heap) (I : ObjM s.heap x dx C mA) (hg : PySem.W.plainGet K C name = true) (hh : PySem.W.hasDictIn K C = true)
  (ha : PySem.W.findIn K (.ref C) name = some none) (hv : mA name = some v) (hv' : PySem.W.handedIn v = true) (h : Q v { s with toks := s.toks + 1 }) :
  wpAny (model prog w) A (getAttr (.ref x) name expr) Q E s := by
 obtain ⟨od, J, hl⟩ := I.look
 exact PySem.W.get_value X J (PySem.W.plainGet_of hg).1 (PySem.W.findObj_own hh ha rfl (by rw [hl, hv])) hv' h
theorem yc2 {pl : Sem Bool} {Q : Value × List Value -> Shared -> Prop} (X : K.In s.heap) (I : ObjM s.heap x dx C mA) (hg : PySem.W.plainGet K C name = true)
  (hf : PySem.W.findIn K (.ref C) name = some (some (.ref f))) (ht : PySem.W.isFn K (.ref f) = true) (hv : mA name = none) (h : Q (.ref f, [.ref x]) s) :
  wpAny (model prog w) A (getMethod (.ref x) name pl) Q E s := by
 obtain ⟨od, J, hl⟩ := I.look
 exact PySem.W.method_fn X J (PySem.W.plainGet_of hg).1 (PySem.W.plainGet_of hg).2 hf (beq_iff_eq.mp ht) (by show (PySem.W.lookIn name od).map (·.isSome) = some false; rw [hl, hv]; rfl) h
theorem yi8 {ns : List Str} {Q : Unit -> Shared -> Prop} (X : K.In s.heap) (I : ObjM s.heap x dx C mA)
  (hs : PySem.W.findIn K (.ref C) "__setattr__" = some (some (.builtin "object.__setattr__"))) (hp : PySem.W.plainOver K C = true) (ht : PySem.W.takerIn K C name = some none) (hh : PySem.W.hasDictIn K C = true)
  (hw : PySem.Within mA ns) (hsz : ns.length <= sizeLine)
  (h : ∀ h', ObjM h' x dx C (fun y => if y = name then some v else mA y) -> Heap.SameBut dx s.heap h' -> Q () { s with heap := h', toks := s.toks + 2 }) :
  wpAny (model prog w) A (setAttr (.ref x) name v) Q E s := by
 obtain ⟨od, J, hl⟩ := I.look
 refine PySem.W.set_plain X J hs (PySem.W.osa_open (s := { s with toks := s.toks + 1 }) (r := none) X J hp ht fun b => ?_)
 obtain ⟨cd, hc, hd'⟩ := PySem.W.any_some hh
 have hx : s.heap.get? x = some ⟨.ref C, some dx, .plain, #[]⟩ := I.obj
 refine wpAny_bind (wpAny_pure (wpAny_bind (wpAny_bind (wpAny_loadPart hx (wpAny_bind (PySem.W.Looks.here (s := { s with toks := s.toks + 1 }) (PySem.W.looks_clsIn X hc) ?_))))))
 rw [hd']
 refine wpAny_pure (a := some dx) (wpAny_bind (wpAny_pure (wpAny_bind ?_)))
 refine wpAny_nsSet1 (s := { s with toks := s.toks + 1 }) I.ns fun h' hn2 hs2 => ?_
 obtain ⟨oD, esD, epD, hoD, hdD, hcD⟩ := hn2.count (PySem.Within.cons name v hw)
 refine wpAny_bind (wpAny_lookBehind hoD (by rw [hdD]; exact pastItsLine_dict (Nat.le_trans hcD (by rw [List.length_cons]; omega))) ?_)
 exact wpAny_pure (h _ ⟨(hs2.2 _ (Ne.symm I.ne)).trans I.obj, hn2, I.ne⟩ hs2)
theorem yc3 {R : Result -> Shared -> Prop} {vs : List Value} {kw : List (Str × Value)} (X : K.In s.heap) (hm : PySem.W.makesIn K C = true)
  (hi : PySem.W.findIn K (.ref C) "__init__" = some (some (.ref f))) (hf : PySem.W.typeIn K (.ref f) = some (.type "function"))
  (h : codeAny (model prog w) (A.under (.builtin "type.__call__" ⟨.ref C :: vs, kw⟩)) (.call (.ref f) ⟨.ref (s.heap.objs.size + 1) :: vs, kw⟩) (PySem.W.InitBack (s.heap.objs.size + 1) R)
   { s with heap := (s.heap.push PySem.W.emptyDict).push (PySem.W.instObj C s.heap.objs.size) }) :
  codeAny (model prog w) A (.call (.ref C) ⟨vs, kw⟩) R s := by
 obtain ⟨hh, g, d, t, os⟩ := s
 exact PySem.W.make_core (PySem.W.makes_of X hm) (PySem.W.looks_findIn X hi) (fun self => PySem.W.bind_fn X self hf) (.inl rfl) h
end
noncomputable def gR (f : Str) (v : V) : List (Str × V) -> List (Str × V)
 | [] => [(f, v)]
 | (g, x) :: r => if g = f then (g, v) :: r else (g, x) :: gR f v r
theorem wB (f g : Str) (v : V) : ∀ fs : List (Str × V), (gR f v fs).lookup g = if g = f then some v else fs.lookup g
 | [] => by
  show List.lookup g [(f, v)] = _
  by_cases h : g = f
  ·have hb : (g == f) = true := beq_iff_eq.mpr h
   simp only [List.lookup, hb, if_pos h]
  ·have hb : (g == f) = false := beq_eq_false_iff_ne.mpr h
   simp only [List.lookup, hb, if_neg h]
 | (k, x) :: r => by
  have ih := wB f g v r
  rw [show gR f v ((k, x) :: r) = (if k = f then (k, v) :: r else (k, x) :: gR f v r) from rfl]
  by_cases hk : k = f
  ·rw [if_pos hk]
   by_cases h : g = k
   ·have hb : (g == k) = true := beq_iff_eq.mpr h
    simp only [List.lookup, hb, if_pos (h.trans hk)]
   ·have hb : (g == k) = false := beq_eq_false_iff_ne.mpr h
    simp only [List.lookup, hb, if_neg (fun e : g = f => h (e.trans hk.symm))]
  ·rw [if_neg hk]
   by_cases h : g = k
   ·have hb : (g == k) = true := beq_iff_eq.mpr h
    simp only [List.lookup, hb, if_neg (fun e : g = f => hk (h.symm.trans e))]
   ·have hb : (g == k) = false := beq_eq_false_iff_ne.mpr h
    simp only [List.lookup, hb]
    exact ih
theorem tL (f : Str) (v : V) : ∀ fs : List (Str × V), f ∈ (gR f v fs).map (·.1) /\ ∀ g, g ∈ fs.map (·.1) -> g ∈ (gR f v fs).map (·.1)
 | [] => ⟨by simp [gR], fun g h => by simp at h⟩
 | (k, x) :: r => by
  obtain ⟨i1, i2⟩ := tL f v r
  rw [show gR f v ((k, x) :: r) = (if k = f then (k, v) :: r else (k, x) :: gR f v r) from rfl]
  by_cases hk : k = f
  ·rw [if_pos hk]
   subst hk
   exact ⟨by simp, fun g h => by simpa using h⟩
  ·rw [if_neg hk]
   refine ⟨?_, fun g h => ?_⟩
   ·rw [List.map_cons]
    exact List.mem_cons_of_mem _ i1
   ·rw [List.map_cons] at h |-
    rcases List.mem_cons.mp h with e | e
    ·exact List.mem_cons.mpr (.inl e)
    ·exact List.mem_cons_of_mem _ (i2 g e)
theorem wC (f : Str) (v : V) : ∀ fs : List (Str × V), (gR f v fs).length <= fs.length + 1
 | [] => by simp [gR]
 | (k, x) :: r => by
  have ih := wC f v r
  rw [show gR f v ((k, x) :: r) = (if k = f then (k, v) :: r else (k, x) :: gR f v r) from rfl]
  by_cases hk : k = f
  ·rw [if_pos hk, List.length_cons, List.length_cons]; omega
  ·rw [if_neg hk, List.length_cons, List.length_cons]; omega
theorem oY.some_of {v : V} {o : Option Value} (r : oY (some v) o) : ∃ u, o = some u /\ cW v u := by
 cases o with
 | none => exact (show False from r).elim
 | some u => exact ⟨u, rfl, r⟩
theorem oY.none_of {o : Option Value} (r : oY none o) : o = none := by
 cases o with
 | none => rfl
 | some u => exact (show False from r).elim
theorem za4 {v : V} {u : Value} (r : cW v u) : PySem.W.handedIn u = true := by
 cases v with
 | non => cases (show u = Value.none from r); rfl
 | bl b => cases (show u = Value.bool b from r); rfl
 | int i => obtain ⟨t, e⟩ := (show ∃ t, u = Value.int i t from r); cases e; rfl
 | str x => obtain ⟨t, e⟩ := (show ∃ t, u = Value.str x t from r); cases e; rfl
 | byt b => obtain ⟨t, e⟩ := (show ∃ t, u = Value.bytes b t from r); cases e; rfl
 | flt b => obtain ⟨t, e⟩ := (show ∃ t, u = Value.float b t from r); cases e; rfl
 | ref a => cases (show u = Value.ref a from r); rfl
 | ty n => cases (show u = Value.type n from r); rfl
section
variable {P : Program} {w : World} {H H' : Hp} {h h' : Heap} {a C dx : Addr} {fs fs' : List (Str × V)}
theorem uX (hok : HOk P w H h) (e : H a = some (.ins C dx fs)) : ∃ mA, ObjM h a dx C mA /\ (∀ f, oY (fs.lookup f) (mA f)) /\ PySem.Within mA (fs.map (·.1)) /\ fs.length <= 1000 /\ H dx = some (.own a) := by
 obtain ⟨d, z, ne, ob, mA, n, r, q⟩ := (show fM P w H h a (.ins C dx fs) from hok a _ e)
 exact ⟨mA, ⟨ob, n, ne⟩, r, q, z, d⟩
end
structure Cls (K : tz0) (C : Addr) : Prop where
 pg : PySem.W.plainGet K C Str.empty = true
 hd : PySem.W.hasDictIn K C = true
 po : PySem.W.plainOver K C = true
 sa : PySem.W.findIn K (.ref C) "__setattr__" = some (some (.builtin "object.__setattr__"))
theorem Cls.get {K : tz0} {C : Addr} (c : Cls K C) (f : Str) : PySem.W.plainGet K C f = true := c.pg
noncomputable def cH (K : tz0) (C : Addr) (f : Str) : Prop := PySem.W.findIn K (.ref C) f = some none
theorem cH.taker {K : tz0} {C : Addr} {f : Str} (n : cH K C f) : PySem.W.takerIn K C f = some none := by
 unfold PySem.W.takerIn
 rw [show PySem.W.findIn K (.ref C) f = some none from n]
 rfl
structure Con (K : tz0) (C : Addr) (f : Str) (v : V) (u : Value) : Prop where
 at_ : PySem.W.findIn K (.ref C) f = some (some u)
 rel : cW v u
 get : PySem.W.specialIn K u "__get__" = some none
 cp : PySem.W.copiedNames.contains f = false
structure Meth (K : tz0) (C : Addr) (m : Str) (f : Addr) : Prop where
 at_ : PySem.W.findIn K (.ref C) m = some (some (.ref f))
 fn : PySem.W.isFn K (.ref f) = true
 kp : PySem.W.keepIn K (.ref f) = true
section
variable {X : Cx} {pins : tzB} {σ : St} {H : Hp} {s : Shared} {a C dx : Addr} {fs : List (Str × V)} {f : Str} {v : V} {A : Around} {E : Value -> Shared -> Prop}
theorem zq2 {b : Bool} {Q : Value -> Shared -> Prop} (I : Inv X pins σ H s) (e : H a = some (.ins C dx fs)) (c : Cls X.K C) (n : cH X.K C f) (l : fs.lookup f = some v)
  (h : ∀ u s', Inv X pins σ H s' -> cW v u -> Q u s') : wpAny (model X.prog X.w) A (getAttr (.ref a) f b) Q E s := by
 obtain ⟨mA, O, r, _, _, _⟩ := uX I.hok e
 obtain ⟨u, hu, ru⟩ := oY.some_of (v := v) (o := mA f) (by rw [<- l]; exact r f)
 exact zm9 I.kIn O (c.get f) c.hd n hu (za4 ru) (h u _ (I.tok _) ru)
theorem xH {m : Str} {g : Addr} {pl : Sem Bool} {Q : Value × List Value -> Shared -> Prop} (I : Inv X pins σ H s) (e : H a = some (.ins C dx fs)) (c : Cls X.K C) (k : Meth X.K C m g) (l : fs.lookup m = none)
  (h : Q (.ref g, [.ref a]) s) : wpAny (model X.prog X.w) A (getMethod (.ref a) m pl) Q E s := by
 obtain ⟨mA, O, r, _, _, _⟩ := uX I.hok e
 have hn : mA m = none := oY.none_of (by rw [<- l]; exact r m)
 exact yc2 I.kIn O (c.get m) k.at_ k.fn hn h
theorem zq3 {y : V} {u : Value} {Q : Unit -> Shared -> Prop} (I : Inv X pins σ H s) (e : H a = some (.ins C dx fs)) (c : Cls X.K C) (n : cH X.K C f) (hl : fs.length < 1000) (ry : cW y u)
  (h : ∀ s', Inv X pins σ (upd H a (.ins C dx (gR f y fs))) s' -> Q () s') : wpAny (model X.prog X.w) A (setAttr (.ref a) f u) Q E s := by
 obtain ⟨mA, O, r, wi, _, ho⟩ := uX I.hok e
 have hz : (fs.map (·.1)).length <= sizeLine := by rw [List.length_map, sizeLine_eq]; omega
 refine yi8 I.kIn O c.sa c.po n.taker c.hd wi hz fun h' O' sb => h _ ?_
 have hd : ∃ o, h'.get? dx = some o := let ⟨o, _, _, e', _⟩ := O'.ns; ⟨o, e'⟩
 refine I.write (x := a) (e := dx) (by rw [e]; exact True.intro) (.inr ho) (fun b q hb z => (sb.2 b hb).trans z) hd ?_
 refine ⟨by rw [cM O.ne]; exact ho, ?_, O.ne, O'.obj, _, O'.ns, fun g => ?_, fun g hg => ?_⟩
 ·have := wC f y fs; omega
 ·show oY ((gR f y fs).lookup g) (if g = f then some u else mA g)
  rw [wB]
  by_cases q : g = f
  ·rw [if_pos q, if_pos q]; exact ry
  ·rw [if_neg q, if_neg q]; exact r g
 ·by_cases q : g = f
  ·rw [q]; exact (tL f y fs).1
  ·refine (tL f y fs).2 g (wi g fun z => hg ?_)
   show (if g = f then some u else mA g) = none
   rw [if_neg q]; exact z
theorem Inv.made (I : Inv X pins σ H s) : Inv X pins σ (upd (upd H s.heap.objs.size (.own (s.heap.objs.size + 1))) (s.heap.objs.size + 1) (.ins C s.heap.objs.size []))
  { s with heap := (s.heap.push PySem.W.emptyDict).push (PySem.W.instObj C s.heap.objs.size) } := by
 have e1 : (s.heap.push PySem.W.emptyDict).get? s.heap.objs.size = some PySem.W.emptyDict := Heap.get?_push_size s.heap rfl
 have e2 : ((s.heap.push PySem.W.emptyDict).push (PySem.W.instObj C s.heap.objs.size)).get? (s.heap.objs.size + 1) = some (PySem.W.instObj C s.heap.objs.size) := by
  have := Heap.get?_push_size (s.heap.push PySem.W.emptyDict) (o := PySem.W.instObj C s.heap.objs.size) rfl
  rwa [Heap.size_push] at this
 have e3 : (s.heap.push PySem.W.emptyDict).Ns s.heap.objs.size (fun _ => none) := ⟨PySem.W.emptyDict, #[], _, e1, rfl, (fun e he => absurd he (by simp)), fun _ => rfl⟩
 have I1 := I.laid (a := s.heap.objs.size) (o := .own (s.heap.objs.size + 1)) (h' := s.heap.push PySem.W.emptyDict) (t' := s.toks) (fun b u q => Heap.get?_push_of_some _ q) (Nat.le_refl _) ⟨_, e1⟩
 refine I1.laid (a := s.heap.objs.size + 1) (o := .ins C s.heap.objs.size []) (t' := s.toks) (fun b u q => Heap.get?_push_of_some _ q) (Nat.le_of_eq (Heap.size_push _ _)) ?_
 have ne : s.heap.objs.size ≠ s.heap.objs.size + 1 := Nat.ne_of_lt (Nat.lt_succ_self _)
 refine ⟨by rw [cM ne, eE], Nat.zero_le _, ne, e2, fun _ => none, (Heap.Ns1.of_empty e3).at fun o q => Heap.get?_push_of_some _ q, fun _ => True.intro, fun y hy => absurd rfl hy⟩
theorem zn0 {prog : Program} {w : World} {env : Env} {e : Expr} {f : Str} {pos : Pos} {s : Shared} {Q : Value -> Shared -> Prop} (hb : attributeBase e f env (eval e env) = eval e env)
  (h : wpAny (model prog w) A (eval e env) (fun o s₁ => wpAny (model prog w) A (getAttr o f true) Q E s₁) E s) : wpAny (model prog w) A (eval (.Attribute e f pos) env) Q E s :=
 Attribute_any_ h (by rw [arm_eval_Attribute, hb])
end
noncomputable def yy0 (K : tz0) (ta : TE) (f : Str) : TE := fun σ H Q => ta σ H fun x H1 => ∃ a C dx fs v, x = .ref a /\ H1 a = some (.ins C dx fs) /\ Cls K C /\ cH K C f /\ fs.lookup f = some v /\ Q v H1
noncomputable def yy1 (K : tz0) (ta tv : TE) (f : Str) : TS := fun D σ H => tv σ H fun y H1 => ta σ H1 fun x H2 => ∃ a C dx fs, x = .ref a /\ H2 a = some (.ins C dx fs) /\ Cls K C /\ cH K C f /\ fs.length < 1000 /\
 D.nx σ (upd H2 a (.ins C dx (gR f y fs)))
section
variable {X : Cx} {o e value : Expr} {f : Str} {pos pos' tpos : Pos} {ta tv : TE}
theorem yo0 (he : PE X e ta) (hb : attributeBase e f X.env (eval e X.env) = eval e X.env) : PE X (.Attribute e f pos) (yy0 X.K ta f) := by
 intro pins s σ H Q I h
 refine zn0 hb (thn (he pins s σ H _ I h) fun u s1 ⟨x, H1, I1, rx, a, C, dx, fs, v, ex, ea, c, n, l, q⟩ => ?_)
 subst ex
 obtain rfl : u = Value.ref a := rx
 exact zq2 I1 ea c n l fun u' s2 I2 ru => ⟨v, H1, I2, ru, q⟩
theorem yo1 (ha : PE X o ta) (hv : PE X value tv) (hs : swapsWith value (some (.Attribute o f pos')) pos.line X.env = pure false) : PS X (.Assign [.Attribute o f pos'] value pos) (yy1 X.K ta tv f) := by
 intro pins s σ H D I h
 refine plainObj_wpAny_Assign_Attribute (thn (hv pins s σ H _ I h) fun u s1 ⟨y, H1, I1, ry, q⟩ => thn (ha pins s1 σ H1 _ I1 q) fun ov s2 ⟨x, H2, I2, rx, a, C, dx, fs, ex, ea, c, n, l, q2⟩ => ?_) hs
 subst ex
 obtain rfl : ov = Value.ref a := rx
 exact zq3 I2 ea c n l ry fun s3 I3 => ⟨σ, _, I3, q2⟩
end
section
variable {X : Cx} {pins : tzB} {σ : St} {H : Hp} {s : Shared} {A : Around} {E : Value -> Shared -> Prop} {Q : Value -> Shared -> Prop} {c : Value} {b : Bool}
inductive TyOf (K : tz0) (H : Hp) : V -> Value -> Prop where
 | non : TyOf K H .non (.type "NoneType")
 | bl (x : Bool) : TyOf K H (.bl x) (.type "bool")
 | int (i : Int) : TyOf K H (.int i) (.type "int")
 | str (x : Str) : TyOf K H (.str x) (.type "str")
 | flt (x : UInt64) : TyOf K H (.flt x) (.type "float")
 | lst {a : Addr} {xs : List V} (e : H a = some (.lst xs)) : TyOf K H (.ref a) (.type "list")
 | frz {a : Addr} {o : Obj} {xs : List V} (e : H a = some (.frz o (.lst xs))) : TyOf K H (.ref a) (.type "list")
 | tup {a : Addr} {xs : List V} (e : H a = some (.tup xs)) : TyOf K H (.ref a) (.type "tuple")
 | dK {a : Addr} {kvs : List (Key × V)} (e : H a = some (.dK kvs)) : TyOf K H (.ref a) (.type "dict")
 | dT {a : Addr} {kvs : List (List Key × V)} (e : H a = some (.dT kvs)) : TyOf K H (.ref a) (.type "dict")
 | ins {a C dx : Addr} {fs : List (Str × V)} (e : H a = some (.ins C dx fs)) (cl : Cls K C) (ha : PySem.W.findIn K (.ref C) "__class__" = some (some (.builtin "object.__class__")))
   (hn : PySem.W.specialIn K (.builtin "object.__class__") "__get__" = some (some (.builtin "getset_descriptor.__get__"))) (htk : PySem.W.takesIn K (.builtin "object.__class__") = some true)
   (hm : PySem.W.mroIn K C (.type "object") = some true) : TyOf K H (.ref a) (.ref C)
theorem zv8 {x : V} {u t : Value} (I : Inv X pins σ H s) (rx : cW x u) (ty : TyOf X.K H x t) (e : PySem.W.kitOne X.K t c = some b) (h : ∀ tk, Q (.bool b) { s with toks := tk }) :
  wpAny (model X.prog X.w) A (call (.builtin "isinstance") [u, c]) Q E s := by
 cases ty with
 | non => cases (show u = Value.none from rx); exact PySem.W.kia_one PySem.W.kitx_none I.kIn True.intro e (fun z => nomatch z) h
 | bl y => cases (show u = Value.bool y from rx); exact PySem.W.kia_one PySem.W.kitx_bool I.kIn True.intro e (fun z => nomatch z) h
 | int i => obtain ⟨t, q⟩ := (show ∃ t, u = Value.int i t from rx); cases q; exact PySem.W.kia_one PySem.W.kitx_int I.kIn True.intro e (fun z => nomatch z) h
 | str y => obtain ⟨t, q⟩ := (show ∃ t, u = Value.str y t from rx); cases q; exact PySem.W.kia_one PySem.W.kitx_str I.kIn True.intro e (fun z => nomatch z) h
 | flt y => obtain ⟨t, q⟩ := (show ∃ t, u = Value.float y t from rx); cases q; exact PySem.W.kia_one PySem.W.kitx_float I.kIn True.intro e (fun z => nomatch z) h
 | @lst a xs ea =>
  cases (show u = Value.ref a from rx)
  obtain ⟨_, _, n, _, h1⟩ := (show fM X.prog X.w H s.heap a (.lst xs) from I.hok a _ ea)
  exact PySem.W.kia_one PySem.W.kitx_list I.kIn ⟨_, h1, rfl⟩ e (fun z => nomatch z) h
 | @frz a ob xs ea =>
  cases (show u = Value.ref a from rx)
  obtain ⟨_, _, _, n, _, h1⟩ := (show fM X.prog X.w H s.heap a (.frz ob (.lst xs)) from I.hok a _ ea)
  exact PySem.W.kia_one PySem.W.kitx_list I.kIn ⟨_, h1, rfl⟩ e (fun z => nomatch z) h
 | @tup a xs ea =>
  cases (show u = Value.ref a from rx)
  obtain ⟨_, _, _, p⟩ := (show fM X.prog X.w H s.heap a (.tup xs) from I.hok a _ ea)
  obtain ⟨o, h1, h2, _⟩ := p
  exact PySem.W.kia_one PySem.W.kitx_tuple I.kIn ⟨o, h1, h2⟩ e (fun z => nomatch z) h
 | @dK a kvs ea =>
  cases (show u = Value.ref a from rx)
  obtain ⟨_, _, vs, _, p⟩ := (show fM X.prog X.w H s.heap a (.dK kvs) from I.hok a _ ea)
  obtain ⟨o, es, ep, h1, h2, _⟩ := p
  exact PySem.W.kia_one PySem.W.kitx_dict I.kIn ⟨o, h1, h2.1⟩ e (fun z => nomatch z) h
 | @dT a kvs ea =>
  cases (show u = Value.ref a from rx)
  obtain ⟨_, _, xs, _, o, es, ep, h1, h2, _⟩ := (show fM X.prog X.w H s.heap a (.dT kvs) from I.hok a _ ea)
  exact PySem.W.kia_one PySem.W.kitx_dict I.kIn ⟨o, h1, h2.1⟩ e (fun z => nomatch z) h
 | @ins a C dx fs ea cl ha hn htk hm =>
  cases (show u = Value.ref a from rx)
  obtain ⟨mA, O, _⟩ := uX I.hok ea
  obtain ⟨od, J, _⟩ := O.look
  exact PySem.W.kia_one (PySem.W.kitx_own (cl.get _) cl.hd ha hn htk hm) I.kIn J e (fun z => nomatch z) h
end
structure Room (k : Nat) (A : Around) : Prop where
 hd : A.handled = none
 dp : A.depth + 3 * k + 5 < recursionLimit
 un : A.units + 16 * k + 200 < cLine
theorem Room.mono {j k : Nat} {A : Around} (r : Room k A) (h : j <= k) : Room j A := ⟨r.hd, by have := r.dp; omega, by have := r.un; omega⟩
theorem Room.deeper {k : Nat} {A : Around} (r : Room (k + 1) A) (env : Env) : Room k (A.deeper env) :=
 ⟨r.hd, by have := r.dp; show A.depth + 1 + 3 * k + 5 < _; omega, by have := r.un; show A.units + 3 + 16 * k + 200 < _; omega⟩
theorem zq4 {A : Around} {C : Addr} {us : List Value} {kw : List (Str × Value)} : (A.under (.builtin "type.__call__" ⟨.ref C :: us, kw⟩)).depth = A.depth + 1 := by
 first | rfl | simp [Around.under, Code.weight, Code.isCreation, Code.isGuard, Code.isCaller, Code.frames, Code.isFrame, guardIds]
theorem zq5 {A : Around} {C : Addr} {us : List Value} {kw : List (Str × Value)} : (A.under (.builtin "type.__call__" ⟨.ref C :: us, kw⟩)).units = A.units + 1 := by
 first | rfl | simp [Around.under, Code.cUnits, Code.frames, Code.isFrame]
theorem Room.make {k : Nat} {A : Around} (r : Room (k + 1) A) (C : Addr) (us : List Value) (kw : List (Str × Value)) : Room k (A.under (.builtin "type.__call__" ⟨.ref C :: us, kw⟩)) :=
 ⟨r.hd, by have := r.dp; rw [zq4]; omega, by have := r.un; rw [zq5]; omega⟩
theorem Room.depth {k : Nat} {A : Around} (r : Room k A) : A.depth < recursionLimit := by have := r.dp; omega
theorem Room.units {k : Nat} {A : Around} (r : Room k A) : A.units + 64 < cLine := by have := r.un; omega
theorem Room.units0 {k : Nat} {A : Around} (r : Room k A) : A.units < cLine := by have := r.un; omega
noncomputable def zt9 : TA := fun _ H Q => Q [] H
noncomputable def yv2 (ta : TE) (tr : TA) : TA := fun σ H Q => ta σ H fun x H1 => tr σ H1 fun xs H2 => Q (x :: xs) H2
section
variable {X : Cx} {e : Expr} {es : List Expr} {te : TE} {t : TA} {pos : Pos}
theorem mW : PA X [] zt9 := fun _ _ _ _ H Q I h => Calls.spliced_nil ⟨[], H, I, .nil, h⟩
theorem gG (ha : PE X e te) (hr : PA X es t) (hs : starEach (e :: es) X.env = (false, eval e X.env) :: starEach es X.env := by rfl) : PA X (e :: es) (yv2 te t) := by
 intro pos pins s σ H Q I h
 rw [hs]
 show wpAny _ _ (spliced ((false, eval e X.env) :: backTo pos (starEach es X.env))) _ _ s
 refine Calls.spliced_cons (thn (ha pins s σ H _ I h) fun u s1 ⟨x, H1, I1, r1, q1⟩ => ?_)
 exact thn (hr pos pins s1 σ H1 _ I1 q1) fun us s2 ⟨xs, H2, I2, r2, q2⟩ => ⟨x :: xs, H2, I2, .cons r1 r2, q2⟩
noncomputable def yy2 (t : TA) : TE := fun σ H Q => t σ H fun xs H1 => xs.length <= sizeLine /\ ∀ p, H1 p = none -> Q (.ref p) (upd H1 p (.tup xs))
noncomputable def yy3 (t : TA) : TE := fun σ H Q => t σ H fun xs H1 => xs.length <= sizeLine /\ ∀ p, H1 p = none -> Q (.ref p) (upd H1 p (.lst xs))
theorem yo2 {x1} (h : PA X es t) : PE X (.Tuple es x1 pos) (yy2 t) := by
 intro pins s σ H Q I hq
 refine wpAny_Tuple_spliced (thn (h pos pins s σ H _ I hq) fun us s1 ⟨xs, H1, I1, r, z, q⟩ => ⟨by rw [<- r.length]; exact z, ?_⟩)
 have hf : H1 s1.heap.objs.size = none := I1.hok.fresh (Nat.le_refl _)
 refine ⟨.ref s1.heap.objs.size, upd H1 s1.heap.objs.size (.tup xs), I1.laid (t' := s1.toks) (fun b u e => Heap.get?_push_of_some _ e) (Nat.le_refl _) ?_, rfl, q _ hf⟩
 exact ⟨z, us, r, ⟨_, Heap.get?_push_size _ rfl, rfl, _, rfl⟩⟩
theorem yo3 (h : PA X es t) : PE X (.List es pos) (yy3 t) := by
 intro pins s σ H Q I hq
 refine wpAny_List_spliced (thn (h pos pins s σ H _ I hq) fun us s1 ⟨xs, H1, I1, r, z, q⟩ => ⟨by rw [<- r.length]; exact z, ?_⟩)
 have hf : H1 s1.heap.objs.size = none := I1.hok.fresh (Nat.le_refl _)
 refine ⟨.ref s1.heap.objs.size, upd H1 s1.heap.objs.size (.lst xs), I1.laid (t' := s1.toks) (fun b u e => Heap.get?_push_of_some _ e) (Nat.le_refl _) ?_, rfl, q _ hf⟩
 exact ⟨z, us, 0, r, Heap.get?_push_size _ rfl⟩
end
noncomputable abbrev Sp := List V -> Hp -> VK -> XK -> Prop
noncomputable abbrev CXT := List Env -> Hp -> Shared -> XK -> Value -> Shared -> Prop
structure Env0 (P : Program) (w : World) (K : tz0) (mg : tzA) (base : Heap) (A : Around) (outer : List Env) (s : Shared) (H : Hp) : Prop where
 frames : A.frames = some outer
 mod : Mod K mg base
 bs : ∀ b o, base.get? b = some o -> s.heap.get? b = some o /\ H b = none
 bsz : base.objs.size <= s.heap.objs.size
 funs : s.heap.FunFrames base outer
 frf : ∀ b ∈ frs outer, H b = none
 hok : HOk P w H s.heap
 bare : AllBare s.gens
noncomputable def CE (outer : List Env) (P : Program) (w : World) (H : Hp) (s : Shared) (Q : VK) (u : Value) (s' : Shared) : Prop :=
 ∃ v H', s'.os = s.os /\ AllBare s'.gens /\ Un (frs outer) [] H H' s.heap s'.heap /\ HOk P w H' s'.heap /\ cW v u /\ Q v H'
noncomputable def CR (CX : CXT) (outer : List Env) (P : Program) (w : World) (H : Hp) (s : Shared) (Q : VK) (E : XK) (r : Result) (s' : Shared) : Prop :=
 match r with
 | .ok (.ret u) => CE outer P w H s Q u s'
 | .ok _ => False
 | .error e => CX outer H s E e s'
structure FnOk (P : Program) (w : World) (K : tz0) (mg : tzA) (base : Heap) (CX : CXT) (k : Nat) (f : Addr) (fd : FuncData) (ps : List Str) (sp : Sp) : Prop where
 len : ∀ vs H Q E, sp vs H Q E -> vs.length = ps.length
 run : ∀ (A : Around) (outer : List Env) (s : Shared) (H : Hp) (args : Args) (us : List Value) (vs : List V) (Q : VK) (E : XK), Room k A -> Env0 P w K mg base A outer s H -> BindsTo s fd args (ps.zip us) -> cG vs us -> sp vs H Q E ->
  codeAny (model P w) A (.call (.ref f) args) (CR CX outer P w H s Q E) s
theorem FnOk.mono {P : Program} {w : World} {K : tz0} {mg : tzA} {base : Heap} {CX : CXT} {j k : Nat} {f : Addr} {fd : FuncData} {ps : List Str} {sp : Sp} (F : FnOk P w K mg base CX j f fd ps sp) (h : j <= k) :
  FnOk P w K mg base CX k f fd ps sp := ⟨F.len, fun A outer s H args us vs Q E hr => F.run A outer s H args us vs Q E (hr.mono h)⟩
theorem FnOk.imp {P : Program} {w : World} {K : tz0} {mg : tzA} {base : Heap} {CX : CXT} {k : Nat} {f : Addr} {fd : FuncData} {ps : List Str} {sp sp' : Sp} (F : FnOk P w K mg base CX k f fd ps sp)
  (h : ∀ vs H Q E, sp' vs H Q E -> sp vs H Q E) : FnOk P w K mg base CX k f fd ps sp' :=
 ⟨fun vs H Q E q => F.len vs H Q E (h _ _ _ _ q), fun A outer s H args us vs Q E hr he hb hv hs => F.run A outer s H args us vs Q E hr he hb hv (h _ _ _ _ hs)⟩
theorem Env0.make {P : Program} {w : World} {K : tz0} {mg : tzA} {base : Heap} {A : Around} {outer : List Env} {s : Shared} {H : Hp} (e : Env0 P w K mg base A outer s H) (C : Addr) (us : List Value) (kw : List (Str × Value)) :
  Env0 P w K mg base (A.under (.builtin "type.__call__" ⟨.ref C :: us, kw⟩)) outer s H := ⟨by first | exact e.frames | (simpa [Around.under, Code.envs, Code.isFrame, pushEnvs] using e.frames), e.mod, e.bs, e.bsz, e.funs, e.frf, e.hok, e.bare⟩
section
variable {X : Cx} {pins : tzB} {σ : St} {H : Hp} {s s' : Shared}
theorem Inv.env0 (I : Inv X pins σ H s) : Env0 X.prog X.w X.K X.mg X.base X.A X.stack s H :=
 ⟨I.ok.frames, I.ok.mod, I.bs, Nat.le_trans I.ok.bsz I.sz, I.stack, I.stkFree, I.hok, I.bare⟩
theorem Inv.after {Q : VK} {u : Value} (I : Inv X pins σ H s) (h : CE X.stack X.prog X.w H s Q u s') : EP X pins σ Q u s' := by
 obtain ⟨v, H', os, bare, un, hok, r, q⟩ := h
 obtain ⟨hh, g, d, t, os'⟩ := s'
 obtain rfl : os' = s.os := os
 exact ⟨v, H', I.call (h' := hh) (g' := g) (d' := d) (t' := t) (ch := []) un hok bare (fun b z => absurd z (by simp)), r, q⟩
end
noncomputable def ze1 (sp : Sp) (dvs : List V) (E : XK) (t : TA) : TE := fun σ H Q => t σ H fun vs H1 => sp (vs ++ dvs) H1 Q E
noncomputable def yh9 (C : Addr) (m : Str) (sp : Sp) (dvs : List V) (E : XK) (ta : TE) (t : TA) : TE := fun σ H Q => ta σ H fun x H1 => ∃ a dx fs, x = .ref a /\ H1 a = some (.ins C dx fs) /\ fs.lookup m = none /\
 t σ H1 fun vs H2 => sp (x :: (vs ++ dvs)) H2 Q E
noncomputable def yv3 (C : Addr) (sp : Sp) (dvs : List V) (E : XK) (t : TA) : TE := fun σ H Q => t σ H fun vs H1 => ∀ x dx, H1 x = none -> H1 dx = none -> dx ≠ x ->
 sp (.ref x :: (vs ++ dvs)) (upd (upd H1 dx (.own x)) x (.ins C dx [])) (fun v H2 => v = .non /\ Q (.ref x) H2) E
noncomputable def lQ (K : tz0) (fd : FuncData) (ps : List Str) (ds : List Value) : Prop :=
 ∀ (s : Shared) (us : List Value), K.In s.heap -> (us ++ ds).length = ps.length -> BindsTo s fd ⟨us, []⟩ (ps.zip (us ++ ds))
theorem lQ.all {K : tz0} {fd : FuncData} {ps : List Str} (h : ∀ us : List Value, us.length = ps.length -> bindArgs fd ⟨us, []⟩ = pure (ps.zip us)) : lQ K fd ps [] := fun s us _ hl => by
 rw [List.append_nil] at hl |-
 exact .of_eq (h us hl)
noncomputable def nG (CX : CXT) (X : Cx) (E : XK) : Prop := ∀ (pins : tzB) (σ : St) (H : Hp) (s : Shared) (e : Value) (s' : Shared), Inv X pins σ H s -> CX X.stack H s E e s' -> X.xe e s'
section
variable {X : Cx} {CX : CXT} {k : Nat} {f C : Addr} {fd : FuncData} {ps : List Str} {sp : Sp} {dvs : List V} {ds : List Value} {E : XK} {x m : Str} {p pos apos : Pos} {e o : Expr} {es : List Expr} {ta : TE} {t : TA}
theorem xI {pins : tzB} {σ : St} {H : Hp} {s : Shared} {Q : VK} {us : List Value} {vs : List V} (F : FnOk X.prog X.w X.K X.mg X.base CX k f fd ps sp) (hr : Room k X.A) (hb : lQ X.K fd ps ds) (hd : cG dvs ds) (hx : nG CX X E)
  (I : Inv X pins σ H s) (r : cG vs us) (h : sp (vs ++ dvs) H Q E) : wpAny (model X.prog X.w) X.A (call (.ref f) us) (EP X pins σ Q) X.xe s := by
 have r2 : cG (vs ++ dvs) (us ++ ds) := r.append hd
 have hl : (us ++ ds).length = ps.length := by rw [<- r2.length]; exact F.len _ _ _ _ h
 refine wpAny_call (codeAny_mono (F.run X.A X.stack s H ⟨us, []⟩ (us ++ ds) (vs ++ dvs) Q E hr I.env0 (hb s us I.kIn hl) r2 h) fun r s' hq => ?_)
 cases r with
 | error e => exact hx pins σ H s e s' I hq
 | ok fl =>
  cases fl with
  | ret u => exact I.after hq
  | next => exact False.elim hq
  | brk => exact False.elim hq
  | cont => exact False.elim hq
theorem yi9 (F : FnOk X.prog X.w X.K X.mg X.base CX k f fd ps sp) (hr : Room k X.A) (hg : Gl X x) (hm : X.mg x = some (.ref f)) (hk : PySem.W.keepIn X.K (.ref f) = true) (hb : lQ X.K fd ps ds) (hd : cG dvs ds) (hx : nG CX X E)
  (ha : PA X (e :: es) t) (hdb : (x == ("__debug__" : Str)) = false := by decide) (he : starEach (e :: es) X.env = (false, eval e X.env) :: starEach es X.env := by rfl) (hpl : (backTo pos (starEach es X.env)).any (·.1) = false := by rfl) :
  PE X (.Call (.Name x p) (e :: es) [] pos) (ze1 sp dvs E t) := by
 intro pins s σ H Q I h
 refine wpAny_Call_Name_kw (nM I hg hm ?_ hdb)
 refine PySem.W.callWith_K (h₀ := X.base) I.ok.mod.kin hk (thn (ha pos pins s σ H _ I h) fun us s1 ⟨vs, H1, I1, r, q⟩ => ⟨I1.kIn, ?_⟩) he hpl
 exact xI F hr hb hd hx I1 r q
theorem yc4 (F : FnOk X.prog X.w X.K X.mg X.base CX k f fd ps sp) (hr : Room k X.A) (hg : Gl X x) (hm : X.mg x = some (.ref f)) (hk : PySem.W.keepIn X.K (.ref f) = true) (hb : lQ X.K fd ps ds) (hd : cG dvs ds) (hx : nG CX X E)
  (hdb : (x == ("__debug__" : Str)) = false := by decide) : PE X (.Call (.Name x p) [] [] pos) (ze1 sp dvs E zt9) := by
 intro pins s σ H Q I h
 refine wpAny_Call_Name_kw (nM I hg hm ?_ hdb)
 exact PySem.W.callWith_K0 I.kIn hk (xI (us := []) F hr hb hd hx I .nil h)
theorem zn1 {pl : Sem Bool} (he : PE X o ta) (c : Cls X.K C) (hm : Meth X.K C m f) (F : FnOk X.prog X.w X.K X.mg X.base CX k f fd ps sp) (hr : Room k X.A) (hb : lQ X.K fd ps ds) (hd : cG dvs ds) (hx : nG CX X E) (ha : PA X (e :: es) t)
  (hst : starEach (e :: es) X.env = (false, eval e X.env) :: starEach es X.env := by rfl) (hpl : (backTo pos (starEach es X.env)).any (·.1) = false := by rfl)
  (ht : eval (.Call (.Attribute o m apos) (e :: es) [] pos) X.env = (do
   let ov <- eval o X.env
   standAt apos.atName
   let (f, first) <- holding [ov] (getMethod ov m pl)
   callWith pos f first (backTo pos (starEach (e :: es) X.env)) (backToKw pos (keywordEach [] X.env))) := by rfl) :
  PE X (.Call (.Attribute o m apos) (e :: es) [] pos) (yh9 C m sp dvs E ta t) := by
 intro pins s σ H Q I h
 refine PySem.W.methodCall_KW (pl := pl) (thn (he pins s σ H _ I h) fun u s1 ⟨x, H1, I1, rx, a, dx, fs, ex, ea, l, q⟩ => ?_) ht
 subst ex
 obtain rfl : u = Value.ref a := rx
 refine xH I1 ea c hm l ?_
 refine PySem.W.callWith_K (first := [.ref a]) (h₀ := X.base) I.ok.mod.kin hm.kp (thn (ha pos pins s1 σ H1 _ I1 q) fun us s2 ⟨vs, H2, I2, r, q2⟩ => ⟨I2.kIn, ?_⟩) hst hpl
 exact xI (us := .ref a :: us) (vs := .ref a :: vs) F hr hb hd hx I2 (.cons rfl r) q2
theorem zf2 {pl : Sem Bool} (he : PE X o ta) (c : Cls X.K C) (hm : Meth X.K C m f) (F : FnOk X.prog X.w X.K X.mg X.base CX k f fd ps sp) (hr : Room k X.A) (hb : lQ X.K fd ps ds) (hd : cG dvs ds) (hx : nG CX X E)
  (ht : eval (.Call (.Attribute o m apos) [] [] pos) X.env = (do
   let ov <- eval o X.env
   standAt apos.atName
   let (f, first) <- holding [ov] (getMethod ov m pl)
   callWith pos f first (backTo pos (starEach [] X.env)) (backToKw pos (keywordEach [] X.env))) := by rfl) :
  PE X (.Call (.Attribute o m apos) [] [] pos) (yh9 C m sp dvs E ta zt9) := by
 intro pins s σ H Q I h
 refine PySem.W.methodCall_KW (pl := pl) (thn (he pins s σ H _ I h) fun u s1 ⟨x, H1, I1, rx, a, dx, fs, ex, ea, l, q⟩ => ?_) ht
 subst ex
 obtain rfl : u = Value.ref a := rx
 refine xH I1 ea c hm l ?_
 exact PySem.W.callWith_K0 (first := [.ref a]) I1.kIn hm.kp (xI (us := [.ref a]) (vs := [.ref a]) F hr hb hd hx I1 (.cons rfl .nil) q)
structure Mk (K : tz0) (C f : Addr) : Prop where
 makes : PySem.W.makesIn K C = true
 init : PySem.W.findIn K (.ref C) "__init__" = some (some (.ref f))
 fn : PySem.W.isFn K (.ref f) = true
 kp : PySem.W.keepIn K (.ref C) = true
theorem yc5 {pins : tzB} {σ : St} {H : Hp} {s : Shared} {Q : VK} {us : List Value} {vs : List V} (M : Mk X.K C f) (F : FnOk X.prog X.w X.K X.mg X.base CX k f fd ps sp) (hr : Room (k + 1) X.A) (hb : lQ X.K fd ps ds) (hd : cG dvs ds)
  (hx : nG CX X E) (I : Inv X pins σ H s) (r : cG vs us)
  (h : ∀ x dx, H x = none -> H dx = none -> dx ≠ x -> sp (.ref x :: (vs ++ dvs)) (upd (upd H dx (.own x)) x (.ins C dx [])) (fun v H2 => v = .non /\ Q (.ref x) H2) E) :
  wpAny (model X.prog X.w) X.A (call (.ref C) us) (EP X pins σ Q) X.xe s := by
 have hq := h (s.heap.objs.size + 1) s.heap.objs.size (I.hok.fresh (Nat.le_succ _)) (I.hok.fresh (Nat.le_refl _)) (Nat.ne_of_lt (Nat.lt_succ_self _))
 have I2 := Inv.made (C := C) I
 have r2 : cG (V.ref (s.heap.objs.size + 1) :: (vs ++ dvs)) (Value.ref (s.heap.objs.size + 1) :: (us ++ ds)) := .cons rfl (r.append hd)
 have hl : (Value.ref (s.heap.objs.size + 1) :: us ++ ds).length = ps.length := by
  have e := r2.length
  rw [F.len _ _ _ _ hq] at e
  exact e.symm
 refine wpAny_call (yc3 (f := f) I.kIn M.makes M.init (beq_iff_eq.mp M.fn) (codeAny_mono (F.run _ X.stack _ _ ⟨Value.ref (s.heap.objs.size + 1) :: us, []⟩ (Value.ref (s.heap.objs.size + 1) :: (us ++ ds)) _ _ E (hr.make C us [])
  (I2.env0.make C us []) (hb _ (Value.ref (s.heap.objs.size + 1) :: us) I2.kIn hl) r2 hq) fun r s' hq' => ?_))
 cases r with
 | error e => exact hx pins σ _ _ e s' I2 hq'
 | ok fl =>
  cases fl with
  | ret u =>
   obtain ⟨v, H', I3, rv, ev, q3⟩ := I2.after hq'
   subst ev
   exact ⟨rv, ⟨V.ref (s.heap.objs.size + 1), H', I3, rfl, q3⟩⟩
  | next => exact False.elim hq'
  | brk => exact False.elim hq'
  | cont => exact False.elim hq'
theorem yj0 (M : Mk X.K C f) (F : FnOk X.prog X.w X.K X.mg X.base CX k f fd ps sp) (hr : Room (k + 1) X.A) (hg : Gl X x) (hm : X.mg x = some (.ref C)) (hb : lQ X.K fd ps ds) (hd : cG dvs ds) (hx : nG CX X E)
  (ha : PA X (e :: es) t) (hdb : (x == ("__debug__" : Str)) = false := by decide) (he : starEach (e :: es) X.env = (false, eval e X.env) :: starEach es X.env := by rfl) (hpl : (backTo pos (starEach es X.env)).any (·.1) = false := by rfl) :
  PE X (.Call (.Name x p) (e :: es) [] pos) (yv3 C sp dvs E t) := by
 intro pins s σ H Q I h
 refine wpAny_Call_Name_kw (nM I hg hm ?_ hdb)
 refine PySem.W.callWith_K (h₀ := X.base) I.ok.mod.kin M.kp (thn (ha pos pins s σ H _ I h) fun us s1 ⟨vs, H1, I1, r, q⟩ => ⟨I1.kIn, ?_⟩) he hpl
 exact yc5 M F hr hb hd hx I1 r q
end
section
variable {X : Cx} {CX : CXT} {k : Nat} {f C : Addr} {fd : FuncData} {ps ks : List Str} {sp : Sp} {E : XK} {x m : Str} {p pos apos kpos : Pos} {e o : Expr} {es : List Expr} {kws : List Keyword} {te ta : TE} {t tk : TA} {nm : Option Str}
structure KBinds (K : tz0) (fd : FuncData) (ps ks : List Str) (g : List Value -> List Value -> List Value) (gV : List V -> List V -> List V) : Prop where
 to : ∀ (s : Shared) (us ws : List Value), K.In s.heap -> (g us ws).length = ps.length -> BindsTo s fd ⟨us, ks.zip ws⟩ (ps.zip (g us ws))
 rel : ∀ {vs : List V} {us : List Value} {zs : List V} {ws : List Value}, cG vs us -> cG zs ws -> cG (gV vs zs) (g us ws)
variable {g : List Value -> List Value -> List Value} {gV : List V -> List V -> List V}
end
structure FnScope (N P : List Str) (sc : Scope) : Prop where
 kind : sc.kind = .function
 co : sc.isCoroutine = false
 gen : sc.isGenerator = false
 nd : N.Nodup
 pre : N.take P.length = P
 par : ∀ x ∈ P, sc.names.lookup x = some .local \/ sc.names.lookup x = some .cell
 nofree : ∀ y ∈ sc.names, y.2 ≠ .free
theorem za5 {kindOf : Str -> Option NameKind} {x : Str} : ∀ {binds : List (Str × Value)} {m : tzA}, (∀ v, (x, v) ∉ binds) -> bindL kindOf binds m x = m x
 | [], _, _ => rfl
 | (n, v) :: r, m, h => by
  unfold bindL
  rw [za5 fun w hw => h w (List.mem_cons_of_mem _ hw)]
  split
  ·have : x ≠ n := by rintro rfl; exact h v List.mem_cons_self
   simp [this]
  ·rfl
theorem za6 {kindOf : Str -> Option NameKind} {x : Str} : ∀ {binds : List (Str × Value)} {m : tzA}, (∀ v, (x, v) ∉ binds) -> bindC kindOf binds m x = m x
 | [], _, _ => rfl
 | (n, v) :: r, m, h => by
  unfold bindC
  rw [za6 fun w hw => h w (List.mem_cons_of_mem _ hw)]
  split
  ·rfl
  ·have : x ≠ n := by rintro rfl; exact h v List.mem_cons_self
   simp [this]
theorem za7 {kindOf : Str -> Option NameKind} {x : Str} {v : Value} : ∀ {P : List Str} {vs : List Value} {i : Nat} {m : tzA}, P.Nodup -> P[i]? = some x -> vs[i]? = some v -> kindOf x = some .local ->
  bindL kindOf (P.zip vs) m x = some v
 | [], _, _, _, _, h, _, _ => by simp at h
 | _ :: _, [], _, _, _, _, h, _ => by simp at h
 | p :: P, w :: vs, 0, m, nd, h1, h2, hk => by
  simp at h1 h2; subst h1; subst h2
  show bindL kindOf ((p, w) :: P.zip vs) m p = _
  unfold bindL
  rw [za5 fun v hv => (List.nodup_cons.mp nd).1 (List.of_mem_zip hv).1, if_pos hk]
  simp
 | p :: P, w :: vs, i + 1, m, nd, h1, h2, hk => by
  show bindL kindOf ((p, w) :: P.zip vs) m x = _
  unfold bindL
  exact za7 (i := i) (List.nodup_cons.mp nd).2 (by simpa using h1) (by simpa using h2) hk
theorem za8 {kindOf : Str -> Option NameKind} {x : Str} {v : Value} : ∀ {P : List Str} {vs : List Value} {i : Nat} {m : tzA}, P.Nodup -> P[i]? = some x -> vs[i]? = some v -> kindOf x ≠ some .local ->
  bindC kindOf (P.zip vs) m x = some v
 | [], _, _, _, _, h, _, _ => by simp at h
 | _ :: _, [], _, _, _, _, h, _ => by simp at h
 | p :: P, w :: vs, 0, m, nd, h1, h2, hk => by
  simp at h1 h2; subst h1; subst h2
  show bindC kindOf ((p, w) :: P.zip vs) m p = _
  unfold bindC
  rw [za6 fun v hv => (List.nodup_cons.mp nd).1 (List.of_mem_zip hv).1, if_neg hk]
  simp
 | p :: P, w :: vs, i + 1, m, nd, h1, h2, hk => by
  show bindC kindOf ((p, w) :: P.zip vs) m x = _
  unfold bindC
  exact za8 (i := i) (List.nodup_cons.mp nd).2 (by simpa using h1) (by simpa using h2) hk
noncomputable def start (N : List Str) (vs : List V) : St := vs.map some ++ List.replicate (N.length - vs.length) none
noncomputable def eI (CX : CXT) (P : Program) (w : World) (K : tz0) (mg : tzA) (base : Heap) (N : List Str) (qual : Str) (scope : Scope) (f : Addr) (cd : Value) (A : Around) (outer : List Env) (s : Shared) (H : Hp) (E : XK) : Cx where
 prog := P
 w := w
 K := K
 mg := mg
 base := base
 A := A.deeper (envOfC qual scope s.heap.objs.size f cd)
 N := N
 s₀ := s
 H₀ := H
 env := envOfC qual scope s.heap.objs.size f cd
 outer := outer
 stack := envOfC qual scope s.heap.objs.size f cd :: outer
 ex := []
 calm := true
 fn := fun _ => true
 pn := []
 xe := fun e s' => wpAny (model P w) (A.deeper (envOfC qual scope s.heap.objs.size f cd)) (leaving (envOfC qual scope s.heap.objs.size f cd) e) (fun _ s'' => CX outer H s E e s'') (fun e' s'' => CX outer H s E e' s'') s'
theorem zf3 {sc : Scope} {n : Nat} {x : Str} (h : sc.names.lookup x = some .cell) : ∃ c, (cellsFrom n sc.names []).lookup x = some c := by
 have q := PySem.W.cellsFrom_some sc.names n [] (.inl h)
 exact Option.isSome_iff_exists.mp q
theorem zv9 {CX : CXT} {P : Program} {w : World} {K : tz0} {mg : tzA} {base : Heap} {N ps : List Str} {qual : Str} {scope : Scope} {f : Addr} {cd : Value} {A : Around} {outer : List Env} {s s1 : Shared} {H : Hp} {E : XK} {us : List Value} {vs : List V}
  (S : FnScope N ps scope) (hd : A.handled = none) (e0 : Env0 P w K mg base A outer s H) (hl : vs.length = ps.length) (r : cG vs us)
  (x : InCallC s s.heap.objs.size (bindL (envOfC qual scope s.heap.objs.size f cd).kindOf (ps.zip us) fun _ => none) (cellsFrom (s.heap.objs.size + 1) scope.names []) (bindC (envOfC qual scope s.heap.objs.size f cd).kindOf (ps.zip us) fun _ => none) s1) :
  Inv (eI CX P w K mg base N qual scope f cd A outer s H E) [] (start N vs) H s1 := by
 have hpl : ps.length <= N.length := by have := congrArg List.length S.pre; rw [List.length_take] at this; omega
 obtain ⟨h1, tk, rfl, hk⟩ := x.done
 have noA : ∀ b : Addr, b ∉ (eI CX P w K mg base N qual scope f cd A outer s H E).ex := fun b z => absurd (show b ∈ ([] : List Addr) from z) (by simp)
 refine ⟨⟨e0.mod, S.kind, rfl, rfl, Nat.le_refl _, fun y z c h1 h2 => ?_, fun y hy => ?_, fun y c _ h => ?_, fun _ => hd, Around.frames_deeper e0.frames, .inr ⟨rfl, rfl⟩, fun b z => absurd z (noA b), e0.bs, e0.bsz, fun b _ _ => noA b, fun b z => absurd z (noA b), e0.funs, e0.frf⟩,
  rfl, e0.bare, Un.kept hk, ⟨_, x.toInCall.ns, fun i y v h1 h2 h3 => ?_⟩, fun y c h => ⟨_, x.cell y c h⟩, e0.hok.fresh (Nat.le_refl _), fun y c h => ?_, fun p hp => absurd (show p ∈ ([] : tzB) from hp) (by simp), e0.hok.kept hk, ?_⟩
 ·exact name_of_addr x.apart (PySem.mem_of_lookup h1) (PySem.mem_of_lookup h2)
 ·have hy : scope.names.lookup y = some .cell \/ scope.names.lookup y = some .free := hy
  rcases hy with hy | hy
  ·exact zf3 hy
  ·exact absurd rfl (S.nofree _ (PySem.mem_of_lookup hy))
 ·exact Nat.le_of_lt (x.above y c (PySem.mem_of_lookup h))
 ·have hi : i < vs.length := by
   unfold start at h2
   by_cases hi : i < vs.length
   ·exact hi
   ·rw [List.getElem?_append_right (by simpa using hi)] at h2
    rw [List.getElem?_replicate] at h2
    split at h2 <;> cases h2
  have ha : vs[i]? = some v := by
   unfold start at h2
   rw [List.getElem?_append_left (by simpa using hi), List.getElem?_map] at h2
   cases e : vs[i]? with
   | none => rw [e] at h2; cases h2
   | some a => rw [e] at h2; cases h2; rfl
  obtain ⟨u, hu, rv⟩ := r.get ha
  have hp : ps[i]? = some y := by
   rw [<- S.pre, List.getElem?_take_of_lt (by omega)]; exact h1
  have ndP : ps.Nodup := by rw [<- S.pre]; exact S.nd.sublist (List.take_sublist _ _)
  refine ⟨u, rv, ?_⟩
  rcases S.par y (List.mem_of_getElem? hp) with k | k
  ·exact .inl ⟨k, za7 ndP hp hu k⟩
  ·obtain ⟨c, e⟩ := zf3 (n := s.heap.objs.size + 1) k
   refine .inr ⟨.inl k, c, e, ?_⟩
   have q := x.cell y c e
   rw [za8 ndP hp hu (by show scope.names.lookup y ≠ _; rw [k]; decide)] at q
   exact q
 ·exact e0.hok.fresh (Nat.le_of_lt (x.above y c (PySem.mem_of_lookup h)))
 ·unfold start
  show _ = N.length
  rw [List.length_append, List.length_map, List.length_replicate]
  omega
theorem zq6 {CX : CXT} {P : Program} {w : World} {K : tz0} {mg : tzA} {base : Heap} {k : Nat} {f : Addr} {name qual : Str} {params : Arguments} {body : List Stmt} {scope : Scope} {dV kV doc pm cdv ct oc : Value} {an od : Option Addr}
  {osl : Array (Option Value)} {N ps : List Str} {sp : Sp} (lk : K.lookup f = some ⟨oc, od, .func (PySem.W.fnOf name qual params body scope dV kV doc pm an cdv ct), osl⟩) (hcd : PySem.W.codeIn K cdv qual = true) (S : FnScope N ps scope)
  (len : ∀ vs H Q E, sp vs H Q E -> vs.length = ps.length)
  (hbody : ∀ (A : Around) (outer : List Env) (s : Shared) (H : Hp) (vs : List V) (Q : VK) (E : XK), Room k (A.deeper (envOfC qual scope s.heap.objs.size f cdv)) -> sp vs H Q E ->
   ∃ t, PSs (eI CX P w K mg base N qual scope f cdv A outer s H E) body t /\ t { nx := fun _ H' => Q .non H', rt := Q } (start N vs) H) :
  FnOk P w K mg base CX (k + 1) f (PySem.W.fnOf name qual params body scope dV kV doc pm an cdv ct) ps sp := by
 refine ⟨len, fun A outer s H args us vs Q E hr e0 hb r hsp => ?_⟩
 have hl := len _ _ _ _ hsp
 have KX : K.In s.heap := e0.mod.kin.keeps fun b o e => (e0.bs b o e).1
 have lim : s.heap.NoLimit := e0.mod.nolimit.keeps fun b o e => (e0.bs b o e).1
 have hkind : ∀ y ∈ ps.zip us, scope.names.lookup y.1 = some .local \/ (scope.names.lookup y.1 = some .cell /\ ((cellsFrom (s.heap.objs.size + 1) scope.names []).lookup y.1).isSome = true) := fun ⟨n, v⟩ hy => by
  rcases S.par n (List.of_mem_zip hy).1 with q | q
  ·exact .inl q
  ·exact .inr ⟨q, PySem.W.cellsFrom_some _ _ _ (.inl q)⟩
 refine codeAny_call_function hr.depth (KX _ _ lk) rfl S.co S.gen rfl (PySem.W.codeRec_of KX hcd) (hb _ _ _ _ ?_)
 refine wpAny_newFunctionEnv_cells S.kind hkind fun env he s1 x => ?_
 subst he
 refine ⟨lim.keeps x.toInCall.keep, codeAny_func ?_⟩
 obtain ⟨t, ht, hq⟩ := hbody A outer s H vs Q E (hr.deeper _) hsp
 have I : Inv (eI CX P w K mg base N qual scope f cdv A outer s H E) [] (start N vs) H s1 := zv9 S hr.hd e0 hl r x
 refine wpAny_mono (ht [] s1 (start N vs) H _ I hq) (fun fl s' hs => ?_) fun e s' hs => hs
 have fin : ∀ {σ' : St} {H' : Hp} {v : V} {u : Value}, Inv (eI CX P w K mg base N qual scope f cdv A outer s H E) [] σ' H' s' -> cW v u -> Q v H' -> CE outer P w H s Q u s' :=
  fun {σ' H' v u} J rv q => ⟨v, H', J.os, J.bare, J.base, J.hok, rv, q⟩
 cases fl with
 | ret u =>
  obtain ⟨v, σ', H', J, rv, q⟩ := hs
  exact fin J rv q
 | next =>
  obtain ⟨σ', H', J, q⟩ := hs
  exact fin (v := V.non) (u := Value.none) J rfl q
 | brk =>
  obtain ⟨_, _, _, q⟩ := hs
  exact False.elim q
 | cont =>
  obtain ⟨_, _, _, q⟩ := hs
  exact False.elim q
section
variable {X : Cx} {x : Str} {p pos : Pos} {e : Expr} {es : List Expr} {t : TA} {id T : String} {r : List V -> Hp -> VK -> Prop}
noncomputable def tCB (r : List V -> Hp -> VK -> Prop) (t : TA) : TE := fun σ H Q => t σ H fun vs H1 => r vs H1 Q
theorem pP (hc : fY X (.builtin id) r) (hg : Gl X x) (hm : X.mg x = none) (hv : bootBuiltins x = some (.builtin id)) (ha : PA X (e :: es) t) (hn : x ≠ "__name__" := by decide) (hdb : (x == ("__debug__" : Str)) = false := by decide)
  (he : starEach (e :: es) X.env = (false, eval e X.env) :: starEach es X.env := by rfl) (hpl : (backTo pos (starEach es X.env)).any (·.1) = false := by rfl) : PE X (.Call (.Name x p) (e :: es) [] pos) (tCB r t) := by
 intro pins s σ H Q I h
 refine wpAny_Call_Name_kw (tK I hg hm hv ?_ hn hdb)
 exact PyProof.Rows.callWith_builtin1 (thn (ha pos pins s σ H _ I h) fun us s1 ⟨vs, H1, I1, r1, q1⟩ => hc pins s1 σ H1 vs us Q I1 r1 q1) he hpl
theorem zw0 (hc : fY X (.type T) r) (hg : Gl X x) (hm : X.mg x = none) (hv : bootBuiltins x = some (.type T)) (ha : PA X (e :: es) t) (hn : x ≠ "__name__" := by decide) (hdb : (x == ("__debug__" : Str)) = false := by decide)
  (he : starEach (e :: es) X.env = (false, eval e X.env) :: starEach es X.env := by rfl) (hpl : (backTo pos (starEach es X.env)).any (·.1) = false := by rfl) : PE X (.Call (.Name x p) (e :: es) [] pos) (tCB r t) := by
 intro pins s σ H Q I h
 refine wpAny_Call_Name_kw (tK I hg hm hv ?_ hn hdb)
 exact PyProof.Rows.callWith_type1 (thn (ha pos pins s σ H _ I h) fun us s1 ⟨vs, H1, I1, r1, q1⟩ => hc pins s1 σ H1 vs us Q I1 r1 q1) he hpl
end
end L2
namespace HT
open PySem PyProof.Rows
section
open PySem.SeqAt
open PySem.AutoSeq1 (wpAny_loadPart')
open PySem.MeetsSeq PySem.MeetsSeq2 PySem.MeetsSeq3
end
section
variable {prog : Program} {w : World} {A : Around} {E : Value -> Shared -> Prop} {s : Shared}
theorem cat_tup {t b : Addr} {vs ws : List Value} {Q : Value -> Shared -> Prop} (ht : IsTup s.heap t vs.toArray) (hb : IsTup s.heap b ws.toArray) (hv : vs ≠ [])
  (h1 : ws = [] -> Q (.ref t) s) (h2 : ws ≠ [] -> Q (.ref s.heap.objs.size) { s with heap := s.heap.push { cls := .type "tuple", data := .seq (vs ++ ws).toArray } })
  (hsz : vs.length + ws.length <= sizeLine) : wpAny (model prog w) A (binaryOp .Add (.ref t) (.ref b)) Q E s := by
 obtain ⟨⟨cls, dd, data, sl⟩, ho, hc, n, hd⟩ := id ht
 obtain ⟨⟨cls2, dd2, data2, sl2⟩, ho2, hc2, n2, hd2⟩ := id hb
 simp only at hc hd hc2 hd2
 subst hc hd hc2 hd2
 have e : vs.toArray ++ ws.toArray = (vs ++ ws).toArray := by simp
 by_cases hw : ws = []
 ·exact concat_meets ⟨_, ho, rfl⟩ ⟨_, ho2, rfl⟩ noFill_tuple_add seq_tuple_add PySem.F.slot_tuple_add PySem.F.entry_tuple_add (PySem.F.args_tuple_add_2 _ _)
   (tuple_addW1 t b vs.toArray ws.toArray n n2 dd dd2 sl sl2 (by simpa using hv) (by simp [hw])) ⟨ho, ho2, h1 hw⟩
 ·refine concat_meets ⟨_, ho, rfl⟩ ⟨_, ho2, rfl⟩ noFill_tuple_add seq_tuple_add PySem.F.slot_tuple_add PySem.F.entry_tuple_add (PySem.F.args_tuple_add_2 _ _)
   (tuple_addW2 t b vs.toArray ws.toArray n n2 dd dd2 sl sl2 (by simpa using hv) (by simpa using hw) (by rw [List.size_toArray, List.size_toArray]; exact hsz)) ⟨ho, ho2, ?_⟩
  rw [e]
  exact h2 hw
end
end HT
namespace L2
open PySem PySem.Spec PyProof.Rows
section
variable {X : Cx} {e : Expr} {te : TE} {lo hi : Option Expr} {tl th : TO} {pos p2 : Pos}
noncomputable def yv4 (K : tz0) : R2 := fun x y H Q => ∃ a b xs ys, x = .ref a /\ y = .ref b /\ SqT K H a xs /\ SqT K H b ys /\ xs ≠ [] /\ xs.length + ys.length <= sizeLine /\
 (ys = [] -> Q (.ref a) H) /\ (ys ≠ [] -> ∀ p, H p = none -> Q (.ref p) (upd H p (.tup (xs ++ ys))))
theorem cG.nil_iff {xs : List V} {us : List Value} (r : cG xs us) : us = [] ↔ xs = [] := by
 cases r with
 | nil => simp
 | cons _ _ => simp
theorem yj1 : OpR X (binaryOp .Add) (yv4 X.K) := by
 intro pins s σ H x y v u Q I rx ry h
 obtain ⟨a, b, xs, ys, rfl, rfl, ha, hb, hx, hz, q1, q2⟩ := h
 cases rx
 cases ry
 obtain ⟨its, r1, p1, _⟩ := I.tuple ha
 obtain ⟨its2, r2, p2, _⟩ := I.tuple hb
 refine HT.cat_tup p1 p2 (fun z => hx (r1.nil_iff.mp z)) (fun z => ⟨.ref a, H, I, rfl, q1 (r2.nil_iff.mp z)⟩) (fun z => ?_) (by rw [<- r1.length, <- r2.length]; exact hz)
 refine ⟨.ref s.heap.objs.size, _, I.laid (t' := s.toks) (o := .tup (xs ++ ys)) (fun b ob q => Heap.get?_push_of_some _ q) (Nat.le_refl _) ?_, rfl, q2 (fun w => z (r2.nil_iff.mpr w)) _ (I.hok.fresh (Nat.le_refl _))⟩
 exact ⟨by rw [List.length_append]; exact hz, _, r1.append r2, IsTup.new _ _⟩
end
noncomputable def ixN (n : Nat) (i : Int) : Option Nat := if 0 <= i then (if i < n then some i.toNat else none) else if -(n : Int) <= i then some (i + n).toNat else none
noncomputable def atI {α : Type} (xs : List α) (i : Int) : Option α := (ixN xs.length i).bind fun j => xs[j]?
theorem uY {n : Nat} {i : Int} {j : Nat} (h : ixN n i = some j) : seqIndex? i n = some j /\ j < n /\ -(n : Int) <= i /\ i < n := by
 unfold ixN at h
 by_cases h0 : 0 <= i
 ·rw [if_pos h0] at h
  by_cases h1 : i < n
  ·rw [if_pos h1] at h
   have e : i.toNat = j := Option.some.inj h
   exact ⟨by rw [seqIndex_of h0 h1, e], by omega, by omega, h1⟩
  ·rw [if_neg h1] at h; cases h
 ·rw [if_neg h0] at h
  by_cases h1 : -(n : Int) <= i
  ·rw [if_pos h1] at h
   have e : (i + n).toNat = j := Option.some.inj h
   exact ⟨by rw [seqIndex_neg (by omega) h1, e], by omega, h1, by omega⟩
  ·rw [if_neg h1] at h; cases h
theorem lI {α : Type} {xs : List α} {i : Int} {v : α} (h : atI xs i = some v) : ∃ j, seqIndex? i xs.length = some j /\ xs[j]? = some v /\ j < xs.length /\ -(xs.length : Int) <= i /\ i < xs.length := by
 unfold atI at h
 cases e : ixN xs.length i with
 | none => rw [e] at h; cases h
 | some j =>
  rw [e] at h
  obtain ⟨h1, h2, h3, h4⟩ := uY e
  exact ⟨j, h1, h, h2, h3, h4⟩
theorem zB {α : Type} {xs : List α} {j : Nat} {v : α} (h : xs[j]? = some v) : atI xs (j : Int) = some v := by
 have hj : j < xs.length := (List.getElem?_eq_some_iff.mp h).1
 have e : ixN xs.length (j : Int) = some j := by
  unfold ixN
  rw [if_pos (by omega), if_pos (by omega)]; simp
 unfold atI; rw [e]; exact h
theorem gZ {α : Type} (xs : List α) (v : α) : atI (xs ++ [v]) (-1) = some v := by
 have hl : (xs ++ [v]).length = xs.length + 1 := by simp
 have e : ixN (xs ++ [v]).length (-1) = some xs.length := by
  unfold ixN
  rw [hl, if_neg (by decide), if_pos (by omega)]
  congr 1
  omega
 unfold atI
 rw [e]
 show (xs ++ [v])[xs.length]? = some v
 simp
noncomputable def nZ (b : Expr) : Prop := ∀ o i, subscripted b false o i = operate [o, i] (getItem o i)
noncomputable def IxR (X : Cx) (r : R2) : Prop :=
 ∀ (value slice : Expr) (pins : tzB) (s : Shared) (σ : St) (H : Hp) (x y : V) (v u : Value) (Q : VK), Inv X pins σ H s -> cW x v -> cW y u -> r x y H Q ->
  subscripted slice false v u = operate [v, u] (getItem v u) -> wpAny (model X.prog X.w) X.A (subscriptTail value slice v u) (EP X pins σ Q) X.xe s
noncomputable def MtR (X : Cx) (id : String) (r : V -> List V -> Hp -> VK -> Prop) : Prop :=
 ∀ (pins : tzB) (s : Shared) (σ : St) (H : Hp) (x : V) (xs : List V) (v : Value) (us : List Value) (Q : VK), Inv X pins σ H s -> cW x v -> cG xs us -> r x xs H Q ->
  wpAny (model X.prog X.w) X.A (call (.builtin id) (v :: us)) (EP X pins σ Q) X.xe s
section
variable {X : Cx} {a b : Expr} {ta tb : TE} {pos : Pos}
theorem IxR.or {r r' : R2} (h : IxR X r) (h' : IxR X r') : IxR X (fun x y H Q => r x y H Q \/ r' x y H Q) := by
 intro value slice pins s σ H x y v u Q I rx ry q hs
 rcases q with q | q
 ·exact h value slice pins s σ H x y v u Q I rx ry q hs
 ·exact h' value slice pins s σ H x y v u Q I rx ry q hs
theorem zd4 {r : R2} (hr : IxR X r) (ha : PE X a ta) (hb : PE X b tb) (hs : nZ b) : PE X (.Subscript a b pos) (tOp r ta tb) := by
 intro pins s σ H Q I h
 exact Subscript_ (yc0 ha hb I h fun v u s2 x y H2 I2 rx ry q => hr a b pins s2 σ H2 x y v u Q I2 rx ry q (hs _ _))
noncomputable def ys0 (K : tz0) : R2 := fun x y H Q => ∃ p xs i v, x = .ref p /\ y = .int i /\ SqL K H p xs /\ atI xs i = some v /\ Q v H
noncomputable def ys1 (K : tz0) : R2 := fun x y H Q => ∃ p xs i v, x = .ref p /\ y = .int i /\ SqT K H p xs /\ atI xs i = some v /\ Q v H
noncomputable def ys2 : R2 := fun x y H Q => ∃ z i c, x = .str z /\ y = .int i /\ z.length <= sizeLine /\ atI z.cps.toList i = some c /\ Q (.str ⟨#[c]⟩) H
theorem zC : IxR X (ys0 X.K) := by
 intro value slice pins s σ H x y v u Q I rx ry h hs
 obtain ⟨p, xs, i, z, rfl, rfl, hq, he, q⟩ := h
 cases rx
 obtain ⟨t, rfl⟩ := ry
 obtain ⟨its, r, pl, hz⟩ := I.list hq
 obtain ⟨j, h1, h2, h3, h4, h5⟩ := lI he
 obtain ⟨w, ew, rw'⟩ := r.get h2
 have hl := r.length
 have hn := pO
 have fin : EP X pins σ Q w s := ⟨z, H, I, rw', q⟩
 by_cases h0 : 0 <= i
 ·have hj : i.toNat = j := by
   rw [seqIndex_of h0 h5] at h1
   exact Option.some.inj h1
  exact item_listR pl.isList h0 (by omega) (by rw [hj]; simpa using ew) fin hs
 ·have hj : (i + (its.toArray.size : Int)).toNat = j := by
   rw [seqIndex_neg (by omega) h4] at h1
   rw [List.size_toArray, <- hl]
   exact Option.some.inj h1
  exact subscriptTail_builtinR (x := w) pl.isList.typeIs slot_list_getitem.lookup
   (wpAny_getItem_list_neg (Q := fun r s' => r = w /\ EP X pins σ Q r s') pl.isList (by omega) (by rw [List.size_toArray] <;> omega) (by omega) (by rw [hj]; simpa using ew) ⟨rfl, fin⟩) hs
theorem yo4 : IxR X (ys1 X.K) := by
 intro value slice pins s σ H x y v u Q I rx ry h hs
 obtain ⟨p, xs, i, z, rfl, rfl, hq, he, q⟩ := h
 cases rx
 obtain ⟨t, rfl⟩ := ry
 obtain ⟨its, r, pl, hz⟩ := I.tuple hq
 obtain ⟨j, h1, h2, h3, h4, h5⟩ := lI he
 obtain ⟨w, ew, rw'⟩ := r.get h2
 have hl := r.length
 have hn := pO
 have fin : EP X pins σ Q w s := ⟨z, H, I, rw', q⟩
 exact subscriptTail_builtinR (x := w) pl.typeIs slot_tuple_getitem.lookup
  (getItem_tuple (j := j) (Q := fun r s' => r = w /\ EP X pins σ Q r s') pl (by omega) (by omega) (by rw [List.size_toArray, <- hl]; exact h1) (by simpa using ew) ⟨rfl, fin⟩) hs
theorem yo5 : IxR X ys2 := by
 intro value slice pins s σ H x y v u Q I rx ry h hs
 obtain ⟨z, i, c, rfl, rfl, hz, he, q⟩ := h
 obtain ⟨t, rfl⟩ := rx
 obtain ⟨t', rfl⟩ := ry
 obtain ⟨j, h1, h2, h3, h4, h5⟩ := lI he
 have hl : z.cps.toList.length = z.length := by simp [Str.length]
 rw [hl] at h1 h4 h5
 have hn := pO
 exact tail_any (typeIs_str s z t) slot_str_getitem.lookup (getItem_str (c := c) (by
  have e1 : decide (i < -(2 ^ 63 : Int)) = false := decide_eq_false (by omega)
  have e2 : decide (i >= 2 ^ 63) = false := decide_eq_false (by omega)
  rw [e1, e2, Bool.or_false]) (by rw [h1]; simpa using h2) ⟨.str ⟨#[c]⟩, H, I.tok _, ⟨_, rfl⟩, q⟩) hs
noncomputable def rIx (K : tz0) : R2 := fun x y H Q => ys0 K x y H Q \/ ys1 K x y H Q \/ ys2 x y H Q
theorem zw1 : IxR X (rIx X.K) := zC.or (yo4.or yo5)
theorem zq7 (its : List Value) (n j : Nat) (u : Value) : Obj.mapSeq (·.setIfInBounds j u) { cls := .type "list", data := .seq its.toArray n } = { cls := .type "list", data := .seq (its.set j u).toArray n } := by
 simp [Obj.mapSeq]
theorem Inv.lst {pins : tzB} {σ : St} {H : Hp} {s : Shared} {p : Addr} {xs : List V} (I : Inv X pins σ H s) (h : H p = some (.lst xs)) :
  ∃ (its : List Value) (n : Nat), cG xs its /\ s.heap.get? p = some { cls := .type "list", data := .seq its.toArray n } /\ xs.length <= sizeLine := by
 obtain ⟨z, its, n, r, e⟩ := I.hok p _ h
 exact ⟨its, n, r, e, z⟩
theorem Inv.lstUpd {pins : tzB} {σ : St} {H : Hp} {s : Shared} {p : Addr} {xs ys : List V} {its its' : List Value} {n n' : Nat} {f : Obj -> Obj} (I : Inv X pins σ H s) (h : H p = some (.lst xs))
  (ho : s.heap.get? p = some { cls := .type "list", data := .seq its.toArray n }) (hf : f { cls := .type "list", data := .seq its.toArray n } = { cls := .type "list", data := .seq its'.toArray n' }) (r : cG ys its') (hz : ys.length <= sizeLine) (t : Nat) :
  Inv X pins σ (upd H p (.lst ys)) { s with heap := s.heap.update p f, toks := t } := by
 have e : (s.heap.update p f).get? p = some { cls := .type "list", data := .seq its'.toArray n' } := by
  rw [Heap.get?_update_self f ho (by rw [hf] <;> rfl), hf]
 refine I.write (x := p) (e := p) (by rw [h]; trivial) (.inl rfl) (fun b u hb q => (Heap.get?_update_other _ _ (Ne.symm hb)).trans q) ⟨_, e⟩ ?_
 exact ⟨hz, its', n', r, e⟩
noncomputable def yv5 : V -> V -> V -> Hp -> (Hp -> Prop) -> Prop := fun o i v H Q => ∃ p xs k j, o = .ref p /\ i = .int k /\ H p = some (.lst xs) /\ ixN xs.length k = some j /\ Q (upd H p (.lst (xs.set j v)))
theorem yc6 : yr5 X yv5 := by
 intro pins s σ H o i v ov iv u Q I ro ri rv h
 obtain ⟨p, xs, k, j, rfl, rfl, hp, hj, q⟩ := h
 cases ro
 obtain ⟨t, rfl⟩ := ri
 obtain ⟨its, n, r, ho, hz⟩ := I.lst hp
 obtain ⟨h1, h2, h3, h4⟩ := uY hj
 have hl := r.length
 have hn := pO
 have I' : Inv X pins σ (upd H p (.lst (xs.set j v))) { s with heap := s.heap.update p (Obj.mapSeq (·.setIfInBounds j u)) } :=
  I.lstUpd hp ho (zq7 its n j u) (r.set rv j) (by rw [List.length_set]; exact hz) s.toks
 by_cases h0 : 0 <= k
 ·have hk : k.toNat = j := by
   rw [seqIndex_of h0 h4] at h1
   exact Option.some.inj h1
  exact PySem.W.ki_setAt ho h0 (by omega) (by rw [List.size_toArray, <- hl]; exact h4) (by rw [hk]; exact ⟨_, I', q⟩)
 ·have hk : (k + (its.toArray.size : Int)).toNat = j := by
   rw [seqIndex_neg (by omega) h3] at h1
   rw [List.size_toArray, <- hl]
   exact Option.some.inj h1
  exact PySem.W.ki_setBack ho (by omega) (by rw [List.size_toArray, <- hl]; exact h3) (by omega) (by rw [hk]; exact ⟨_, I', q⟩)
noncomputable def kK : V -> Bool
 | .non => true
 | .bl _ => true
 | .int _ => true
 | .str _ => true
 | _ => false
noncomputable def eqV : V -> V -> Bool
 | .non, .non => true
 | .bl a, .bl b => a == b
 | .bl a, .int b => (if a then 1 else 0) == b
 | .int a, .bl b => a == (if b then 1 else 0)
 | .int a, .int b => a == b
 | .str a, .str b => a == b
 | _, _ => false
theorem yo6 {A : Around} {s : Shared} {y x : V} {u v : Value} (ry : cW y u) (rx : cW x v) (fy : kK y = true) (fx : kK x = true) : SeqAt.EqAt A s u v (eqV y x) := by
 cases y with
 | non =>
  cases ry
  cases x with
  | non => cases rx; exact SeqAt.EqAt.same _
  | bl b => cases rx; exact SeqAt.EqAt.none_bool b
  | int b => obtain ⟨t, rfl⟩ := rx; exact SeqAt.EqAt.none_int b t
  | str b => obtain ⟨t, rfl⟩ := rx; exact SeqAt.EqAt.none_str b t
  | _ => exact absurd (show false = true from fx) Bool.false_ne_true
 | bl a =>
  cases ry
  cases x with
  | non => cases rx; exact SeqAt.EqAt.bool_none a
  | bl b => cases rx; exact SeqAt.EqAt.bool_bool a b
  | int b => obtain ⟨t, rfl⟩ := rx; exact SeqAt.EqAt.bool_int a b t
  | str b => obtain ⟨t, rfl⟩ := rx; exact SeqAt.EqAt.bool_str a b t
  | _ => exact absurd (show false = true from fx) Bool.false_ne_true
 | int a =>
  obtain ⟨t', rfl⟩ := ry
  cases x with
  | non => cases rx; exact SeqAt.EqAt.int_none a t'
  | bl b => cases rx; exact SeqAt.EqAt.int_bool a t' b
  | int b => obtain ⟨t, rfl⟩ := rx; exact SeqAt.EqAt.int_int a t' b t
  | str b => obtain ⟨t, rfl⟩ := rx; exact SeqAt.EqAt.int_str a t' b t
  | _ => exact absurd (show false = true from fx) Bool.false_ne_true
 | str a =>
  obtain ⟨t', rfl⟩ := ry
  cases x with
  | non => cases rx; exact SeqAt.EqAt.str_none a t'
  | bl b => cases rx; exact SeqAt.EqAt.str_bool a t' b
  | int b => obtain ⟨t, rfl⟩ := rx; exact SeqAt.EqAt.str_int a t' b t
  | str b => obtain ⟨t, rfl⟩ := rx; exact SeqAt.EqAt.str_str a t' b t
  | _ => exact absurd (show false = true from fx) Bool.false_ne_true
 | _ => exact absurd (show false = true from fy) Bool.false_ne_true
noncomputable def eqU (x : V) (u : Value) : Bool := match u with
 | .none => eqV .non x
 | .bool b => eqV (.bl b) x
 | .int i _ => eqV (.int i) x
 | .str z _ => eqV (.str z) x
 | _ => false
theorem zw2 {x y : V} {u : Value} (r : cW y u) (f : kK y = true) : eqU x u = eqV y x := by
 cases y with
 | non => cases r; rfl
 | bl b => cases r; rfl
 | int i => obtain ⟨t, rfl⟩ := r; rfl
 | str z => obtain ⟨t, rfl⟩ := r; rfl
 | _ => exact absurd (show false = true from f) Bool.false_ne_true
theorem zD {x : V} : ∀ {xs : List V} {us : List Value}, cG xs us -> xs.all kK = true -> us.any (eqU x) = xs.any fun y => eqV y x
 | _, _, .nil, _ => rfl
 | y :: xs, u :: us, .cons r t, f => by
  rw [List.all_cons, Bool.and_eq_true] at f
  rw [List.any_cons, List.any_cons, zw2 r f.1, zD t f.2]
theorem wE {A : Around} {s : Shared} {x : V} {v : Value} (rx : cW x v) (fx : kK x = true) : ∀ {xs : List V} {us : List Value}, cG xs us -> xs.all kK = true -> ∀ u ∈ us, SeqAt.EqAt A s u v (eqU x u)
 | _, _, .nil, _ => fun u hu => by cases hu
 | y :: xs, u :: us, .cons r t, f => fun u' hu => by
  rw [List.all_cons, Bool.and_eq_true] at f
  rcases List.mem_cons.mp hu with rfl | hu
  ·rw [zw2 r f.1]; exact yo6 r rx f.1 fx
  ·exact wE rx fx t f.2 u' hu
noncomputable def inV (x : V) (xs : List V) : Bool := xs.any fun y => eqV y x
noncomputable def rIn (K : tz0) (neg : Bool) : R2 := fun x y H Q => ∃ p xs, y = .ref p /\ (SqL K H p xs \/ SqT K H p xs) /\ kK x = true /\ xs.all kK = true /\ Q (.bl (if neg then !inV x xs else inV x xs)) H
theorem zw3 : OpR X (compareOp .In) (rIn X.K false) := by
 intro pins s σ H x y v u Q I rx ry h
 obtain ⟨p, xs, rfl, hq, fx, fs, q⟩ := h
 cases ry
 rcases hq with hq | hq
 ·obtain ⟨its, r, pl, hz⟩ := I.list hq
  refine SeqAt.in_listAt (eqU x) pl.isList (fun w hw => wE rx fx r fs w (by simpa using hw)) ⟨.bl _, H, I, rfl, ?_⟩
  rw [show its.toArray.any (eqU x) = its.any (eqU x) by simp, zD r fs]
  exact q
 ·obtain ⟨its, r, pl, hz⟩ := I.tuple hq
  refine SeqAt.in_tupleAt (eqU x) pl (fun w hw => wE rx fx r fs w (by simpa using hw)) ⟨.bl _, H, I, rfl, ?_⟩
  rw [show its.toArray.any (eqU x) = its.any (eqU x) by simp, zD r fs]
  exact q
theorem jN : fY X (.builtin "len") (fun xs H Q => ∃ p ys, xs = [.ref p] /\ (SqL X.K H p ys \/ SqT X.K H p ys) /\ Q (.int ys.length) H) := by
 intro pins s σ H xs us Q I r h
 obtain ⟨p, ys, rfl, hq, q⟩ := h
 obtain ⟨u, rfl, rx⟩ := qG r
 cases rx
 have hn := pO
 rcases hq with hq | hq
 ·obtain ⟨its, r', pl, hz⟩ := I.list hq
  have hlen := r'.length
  exact Calls.call_len_list pl.isList (by simp only [List.size_toArray] <;> omega) ⟨.int ys.length, H, I.tok _, ⟨s.toks + 1, by rw [List.size_toArray, hlen]⟩, q⟩
 ·obtain ⟨its, r', pl, hz⟩ := I.tuple hq
  have hlen := r'.length
  exact len_tuple pl (by simp only [List.size_toArray] <;> omega) ⟨.int ys.length, H, I.tok _, ⟨s.toks + 1, by rw [List.size_toArray, hlen]⟩, q⟩
theorem zf4 : fY X (.builtin "len") (fun xs H Q => ∃ z, xs = [.str z] /\ z.length <= sizeLine /\ Q (.int z.length) H) := by
 intro pins s σ H xs us Q I r h
 obtain ⟨z, rfl, hz, q⟩ := h
 obtain ⟨u, rfl, t, rfl⟩ := qG r
 have hn := pO
 exact len_str (by omega) ⟨.int z.length, H, I.tok _, ⟨_, rfl⟩, q⟩
theorem tG : fY X (.type "tuple") (fun xs H Q => ∃ p ys, xs = [.ref p] /\ ((SqL X.K H p ys /\ ∀ l, H l = none -> Q (.ref l) (upd H l (.tup ys))) \/ (SqT X.K H p ys /\ Q (.ref p) H))) := by
 intro pins s σ H xs us Q I r h
 obtain ⟨p, ys, rfl, h⟩ := h
 obtain ⟨u, rfl, rx⟩ := qG r
 cases rx
 rcases h with ⟨hq, q⟩ | ⟨hq, q⟩
 ·obtain ⟨its, r', pl, hz⟩ := I.list hq
  have hlen := r'.length
  refine call_tuple_list pl.isList (fun h' kp => ?_) (by simp only [List.size_toArray] <;> omega)
  have I1 : Inv X pins σ H { s with heap := h' } := I.kept (t' := s.toks) kp
  have I2 : Inv X pins σ (upd H h'.objs.size (.tup ys)) { s with heap := h'.push { cls := .type "tuple", data := .seq its.toArray } } :=
   I1.laid (t' := s.toks) (fun b o e => Heap.get?_push_of_some _ e) (Nat.le_refl _) (show fM X.prog X.w _ _ _ (.tup ys) from ⟨hz, its, r', IsTup.new _ _⟩)
  exact ⟨.ref h'.objs.size, _, I2, rfl, q _ (I1.hok.fresh (Nat.le_refl _))⟩
 ·obtain ⟨its, r', pl, hz⟩ := I.tuple hq
  exact call_tuple_same pl ⟨.ref p, H, I, rfl, q⟩
noncomputable def tyV (K : tz0) (T : String) (x : V) (H : Hp) : Prop := match x with
 | .str _ => T = "str"
 | .int _ => T = "int"
 | .ref p => (T = "list" /\ ∃ xs, SqL K H p xs) \/ (T = "tuple" /\ ∃ o, K.lookup p = some o /\ o.cls = .type "tuple" /\ o.dict = none) \/
   (T = "dict" /\ ((∃ kvs, H p = some (.dK kvs)) \/ ∃ kvs, H p = some (.dT kvs))) \/ (T = "set" /\ ∃ S n, H p = some (.set S n))
 | _ => False
theorem zw4 {pins : tzB} {σ : St} {H : Hp} {s : Shared} {T : String} {x : V} {v : Value} (I : Inv X pins σ H s) (r : cW x v) (ty : tyV X.K T x H) :
  s.TypeIs v T /\ ∀ a, v = .ref a -> ∃ ob, s.heap.get? a = some ob /\ ob.dict = none := by
 cases x with
 | str z =>
  obtain ⟨t, rfl⟩ := r
  cases (show T = "str" from ty)
  exact ⟨typeIs_str s z t, fun _ e => nomatch e⟩
 | int i =>
  obtain ⟨t, rfl⟩ := r
  cases (show T = "int" from ty)
  exact ⟨typeIs_int s i t, fun _ e => nomatch e⟩
 | ref p =>
  cases r
  rcases ty with ⟨rfl, xs, hq⟩ | ⟨rfl, o, hk, hc, hd⟩ | ⟨rfl, hk⟩ | ⟨rfl, S, n, hk⟩
  ·obtain ⟨its, _, pl, _⟩ := I.list hq
   refine ⟨pl.isList.typeIs, fun a e => ?_⟩
   cases e
   obtain ⟨o, n, e, c, hd, _⟩ := pl
   exact ⟨o, e, hd⟩
  ·refine ⟨⟨o, I.kIn p o hk, hc⟩, fun a e => ?_⟩
   cases e
   exact ⟨o, I.kIn _ o hk, hd⟩
  ·have z : ∃ o, s.heap.get? p = some o /\ o.ExactDict := by
    rcases hk with ⟨kvs, hk⟩ | ⟨kvs, hk⟩
    ·obtain ⟨_, _, _, _, o, _, _, e, ex, _⟩ := I.hok p _ hk
     exact ⟨o, e, ex⟩
    ·obtain ⟨_, _, _, _, o, _, _, e, ex, _⟩ := I.hok p _ hk
     exact ⟨o, e, ex⟩
   obtain ⟨o, e, ex⟩ := z
   refine ⟨⟨o, e, ex.1⟩, fun a e2 => ?_⟩
   cases e2
   exact ⟨o, e, ex.2.1⟩
  ·obtain ⟨o, _, _, _, e, ex, _⟩ := I.hok p _ hk
   refine ⟨⟨o, e, ex.1⟩, fun a e2 => ?_⟩
   cases e2
   exact ⟨o, e, ex.2.1⟩
 | _ => exact False.elim ty
noncomputable def yy4 (K : tz0) (T : String) (r : V -> List V -> Hp -> VK -> Prop) (to : TE) : TE := fun σ H Q => to σ H fun x H1 => tyV K T x H1 /\ r x [] H1 Q
noncomputable def tBM (K : tz0) (T : String) (r : V -> List V -> Hp -> VK -> Prop) (to : TE) (t : TA) : TE := fun σ H Q => to σ H fun x H1 => tyV K T x H1 /\ t σ H1 fun xs H2 => r x xs H2 Q
variable {o e : Expr} {es : List Expr} {to : TE} {t : TA} {name : Str} {apos cpos : Pos} {T id : String} {r : V -> List V -> Hp -> VK -> Prop}
theorem yo7 (pa : PlainAttrs T) (slot : Slot T name id) (hty : typeOf (.builtin id) = pure (.type "method_descriptor")) (hm : MtR X id r) (ho : PE X o to)
  (hbase : attributeBase o name X.env (eval o X.env) = eval o X.env := by rfl) (hline : (apos.endLine == cpos.line) = true := by rfl) : PE X (.Call (.Attribute o name apos) [] [] cpos) (yy4 X.K T r to) := by
 intro pins s σ H Q I h
 refine wpAny_Call_method0_late hbase hline (thn (ho pins s σ H _ I h) fun v s1 ⟨x, H1, I1, r1, ty, q1⟩ => ?_)
 obtain ⟨h1, h2⟩ := zw4 I1 r1 ty
 exact ⟨T, id, pa, slot, hty, h1, h2, Calls.callWith_builtin rfl (PySem.evalArgs_none (hm pins s1 σ H1 x [] v [] Q I1 r1 .nil q1))⟩
theorem yg9 (pa : PlainAttrs T) (slot : Slot T name id) (hty : typeOf (.builtin id) = pure (.type "method_descriptor")) (hm : MtR X id r) (ho : PE X o to) (ha : PA X (e :: es) t)
  (hbase : attributeBase o name X.env (eval o X.env) = eval o X.env := by rfl)
  (hfew : ((backTo cpos (starEach (e :: es) X.env)).all (fun x => !x.1) && (backToKw cpos (keywordEach [] X.env)).all (fun x => x.1.isSome)
   && decide ((e :: es).length + ([] : List Keyword).length + (if ([] : List Keyword).isEmpty then 0 else 1) < 30)) = true := by rfl)
  (hline : (apos.endLine == cpos.line) = true := by rfl) (hs : starEach (e :: es) X.env = (false, eval e X.env) :: starEach es X.env := by rfl) (hplain : (backTo cpos (starEach es X.env)).any (·.1) = false := by rfl) :
  PE X (.Call (.Attribute o name apos) (e :: es) [] cpos) (tBM X.K T r to t) := by
 intro pins s σ H Q I h
 refine wpAny_Call_method_late hbase hfew hline rfl (thn (ho pins s σ H _ I h) fun v s1 ⟨x, H1, I1, r1, ty, q1⟩ => ?_)
 obtain ⟨h1, h2⟩ := zw4 I1 r1 ty
 refine ⟨T, id, pa, slot, hty, h1, h2, ?_⟩
 have hA := ha cpos pins s1 σ H1 _ I1 q1
 rw [hs] at hA |-
 refine Calls.callWith_builtin (by show (false || (backTo cpos (starEach es X.env)).any (·.1)) = false; rw [hplain] <;> rfl) (Calls.evalArgs_plain ?_)
 exact thn hA fun us s2 ⟨vs, H2, I2, r2, q2⟩ => hm pins s2 σ H2 x vs v us Q I2 r1 r2 q2
end
noncomputable def MtM (X : Cx) (id : String) (r : V -> List V -> Hp -> VK -> Prop) : Prop :=
 ∀ (pins : tzB) (s : Shared) (σ : St) (H : Hp) (x : V) (xs : List V) (v : Value) (us : List Value) (Q : VK), Inv X pins σ H s -> cW x v -> cG xs us -> r x xs H Q ->
  wpAny (model X.prog X.w) X.A (call (.builtin id) (v :: us)) (EP X pins σ Q) X.xe s
theorem cG.one : ∀ {x : V} {us : List Value}, cG [x] us -> ∃ u, us = [u] /\ cW x u
 | _, _, .cons r .nil => ⟨_, rfl, r⟩
theorem cG.zero : ∀ {us : List Value}, cG [] us -> us = []
 | _, .nil => rfl
theorem cG.dropLast {xs : List V} {us : List Value} (h : cG xs us) : cG xs.dropLast us.dropLast := by
 induction h with
 | nil => exact .nil
 | cons r t ih =>
  cases t with
  | nil => exact .nil
  | cons q t' => exact .cons r ih
theorem zq8 {α : Type} (l : List α) : l.eraseIdx (l.length - 1) = l.dropLast := by
 induction l with
 | nil => rfl
 | cons a r ih =>
  cases r with
  | nil => rfl
  | cons b r =>
   have e : (a :: b :: r).length - 1 = ((b :: r).length - 1) + 1 := by
    have h1 : (a :: b :: r).length = r.length + 2 := rfl
    have h2 : (b :: r).length = r.length + 1 := rfl
    omega
   rw [e, List.eraseIdx_cons_succ, ih]
   all_goals rfl
section
variable {X : Cx} {pins : tzB} {σ : St} {H : Hp} {s : Shared} {l b : Addr} {xs ys zs : List V}
theorem Inv.lset {its its' : List Value} {n : Nat} {f : Array Value -> Array Value} {t' : Nat} (I : Inv X pins σ H s) (hH : H l = some (.lst xs))
  (e : s.heap.get? l = some { cls := .type "list", data := .seq its.toArray n }) (hf : f its.toArray = its'.toArray) (hv : cG ys its') (hz : ys.length <= sizeLine) :
  Inv X pins σ (upd H l (.lst ys)) { s with heap := s.heap.update l (Obj.mapSeq f), toks := t' } := by
 have q := PySem.IsL.update e f
 rw [hf] at q
 refine I.write (x := l) (e := l) (by rw [hH]; exact trivial) (.inl rfl) (fun b' u hb hu => (Heap.get?_update_other s.heap (Obj.mapSeq f) (Ne.symm hb)).trans hu) ⟨_, q⟩ ?_
 exact ⟨hz, its', _, hv, q⟩
theorem Inv.lnew {its : List Value} {t' : Nat} (I : Inv X pins σ H s) (hv : cG ys its) (hz : ys.length <= sizeLine) :
  Inv X pins σ (upd H s.heap.objs.size (.lst ys)) { s with heap := s.heap.push { cls := .type "list", data := .seq its.toArray }, toks := t' } :=
 I.laid (fun _ _ q => Heap.get?_push_of_some _ q) (Nat.le_refl _) ⟨hz, its, 0, hv, Heap.get?_push_size _ rfl⟩
theorem Inv.fresh (I : Inv X pins σ H s) : H s.heap.objs.size = none := I.hok.fresh (Nat.le_refl _)
theorem Inv.lstM (I : Inv X pins σ H s) (hH : H l = some (.lst xs)) : xs.length <= sizeLine /\ ∃ (its : List Value) (n : Nat), cG xs its /\ xs.length = its.length /\ s.heap.get? l = some { cls := .type "list", data := .seq its.toArray n } := by
 obtain ⟨z, its, n, r, e⟩ := I.hok l _ hH
 exact ⟨z, its, n, r, r.length, e⟩
end
section
variable {X : Cx}
noncomputable def ym4 : V -> List V -> Hp -> VK -> Prop := fun x vs H Q => ∃ l xs y, x = .ref l /\ vs = [y] /\ H l = some (.lst xs) /\ xs.length < sizeLine /\ Q .non (upd H l (.lst (xs ++ [y])))
theorem za9 : MtM X "list.append" ym4 := by
 intro pins s σ H x vs v us Q I rx rv h
 obtain ⟨l, xs, y, rfl, rfl, hH, hz, q⟩ := h
 cases rx
 obtain ⟨u, rfl, ru⟩ := rv.one
 obtain ⟨z, its, n, r, hl, e⟩ := I.lstM hH
 refine call_meets F.slot_list_append ⟨_, e, rfl⟩ F.entry_list_append (F.args_list_append_2 _ _) (PySem.list_append l its.toArray n u (by rw [List.size_toArray]; omega)) ⟨e, ?_⟩
 refine ⟨.non, _, I.lset (its' := its ++ [u]) hH e (by simp) (r.append (.cons ru .nil)) ?_, rfl, q⟩
 rw [List.length_append, List.length_singleton]
 omega
noncomputable def yy5 : V -> List V -> Hp -> VK -> Prop := fun x vs H Q => ∃ l xs y, x = .ref l /\ vs = [] /\ H l = some (.lst xs) /\ xs[xs.length - 1]? = some y /\ Q y (upd H l (.lst xs.dropLast))
theorem yo8 : MtM X "list.pop" yy5 := by
 intro pins s σ H x vs v us Q I rx rv h
 obtain ⟨l, xs, y, rfl, rfl, hH, hy, q⟩ := h
 cases rx
 have hus := rv.zero
 subst hus
 obtain ⟨z, its, n, r, hl, e⟩ := I.lstM hH
 obtain ⟨u, hu, ru⟩ := r.get hy
 have hy' : its.toArray[its.toArray.size - 1]? = some u := by
  show its.toArray[its.length - 1]? = some u
  rw [<- Array.getElem?_toList, <- hl]
  exact hu
 refine call_meets F.slot_list_pop ⟨_, e, rfl⟩ F.entry_list_pop (F.args_list_pop_1 _) (MeetsSeq.list_pop_last l its.toArray n u hy' (by rw [List.size_toArray]; omega)) ⟨e, ?_⟩
 refine ⟨y, _, I.lset (its' := its.dropLast) hH e ?_ r.dropLast ?_, ru, q⟩
 ·show its.toArray.eraseIdxIfInBounds (its.toArray.size - 1) = its.dropLast.toArray
  rw [List.size_toArray, List.eraseIdxIfInBounds_toArray, zq8]
 ·rw [List.length_dropLast]
  omega
end
end L2
namespace Att
open PySem PySem.W PySem.Calls PyProof.Rows
theorem xJ {P : Params} {h : Heap} : ∀ (ns : List Int) (vs : List Value), WellAll P h vs (ns.map WData.int) -> IntsAre vs ns := by
 intro ns
 induction ns with
 | nil =>
  intro vs w
  rw [List.map_nil] at w
  cases w
  exact .nil
 | cons n ns ih =>
  intro vs w
  rw [List.map_cons] at w
  cases w with
  | cons a b =>
   cases a
   exact .cons _ _ (ih _ b)
theorem zw5 {l : OpenLaw} {n : Nat} (hn : l.most = some n) {P : Params} {h : Heap} {args : List WData} {vals : List Value}
  (hpre : l.row.toRowW.claim.pre args = true) (hwl : WellAll P h vals args) :
  ∃ a vs ns, vals = [Value.ref a] /\ args = [WData.list (ns.map WData.int)] /\ h.get? a = some { cls := .type "list", data := .seq vs.toArray } /\ IntsAre vs ns /\ ns.length <= n := by
 have hsh : WShape.hasAll [] args [.list .int] = true := (pre_splitW hpre).1
 have hc : l.pre.holds [] { args := args } = true := (pre_splitW hpre).2
 obtain ⟨d, r, rfl, h1, h2⟩ := hasAllW_cons hsh
 obtain rfl := hasAllW_nil h2
 obtain ⟨xs, rfl, h3⟩ := hasW_list h1
 obtain ⟨ns, rfl⟩ := items_int h3
 have hlen : ns.length <= n := by
  unfold OpenLaw.pre at hc
  have h4 : (WTm.not (.lt (.lit (.int (n : Int))) (.len (.arg 0)))).holds [] { args := [.list (ns.map .int)] } = true := by
   have h4 := (holds_andW hc).1
   rw [hn] at h4
   exact h4
  have h5 := condW_of h4 (w_not (w_lt w_lit (w_len_list (w_arg rfl))))
  rw [List.length_map] at h5
  refine Nat.le_of_not_lt fun q => ?_
  have q' : (n : Int) < ((ns.length : Nat) : Int) := by omega
  first
   | (rw [decide_eq_true q'] at h5; exact absurd h5 (by decide))
   | (simp at h5; omega)
 cases hwl with
 | cons w1 w2 =>
  cases w2
  cases w1 with
  | list ho hall => exact ⟨_, _, ns, rfl, rfl, ho, xJ ns _ hall, hlen⟩
theorem zw6 (l : OpenLaw) (args : List WData) : l.row.toRowW.claim.post args (.bool true) args = true :=
 postW_of (r := l.row.toRowW) (X := (true == true))
  (show WShape.has [] (.bool true) .bool = true by first | rfl | decide | simp [WShape.has, WShape.arms, WShape.armsAll])
  (show (WTm.eq .res (.lit (.bool true))).value [] { args := args, res := some (.bool true), after := args } = some (.bool (true == true)) from w_eq_bool (w_res rfl) w_lit) rfl
theorem attach_call {l : OpenLaw} {n : Nat} {q : Program} {loose : List Str} {XP : (tzA) -> Heap -> Prop} {YP : World -> Heap -> Prop} {d : DefRec}
  (hn : l.most = some n) (hdf : d.params.defaults = [])
  (call : ∀ (w : World) (s₀ s₁ : Shared) (mg mb : tzA) (fa : Addr) (o : Obj) (pm cd doc : Value) (a : Addr) (vs : List Value) (ns : List Int),
   Ground q loose [] XP w s₀ mg mb s₁.heap -> YP w s₁.heap ->
   s₁.heap.get? fa = some o -> o.data = .func (docDef d.name d.params d.body d.scope pm cd doc) -> s₁.heap.CodeRec cd d.name -> mg d.name = some (.ref fa) ->
   s₁.heap.get? a = some { cls := .type "list", data := .seq vs.toArray } -> IntsAre vs ns -> ns.length <= n -> s₁.gens = #[] ->
   codeAny (model l.prog w) callerA (.call (.ref fa) ⟨[.ref a], []⟩) (fun r s' => r = .ok (.ret (.bool true)) /\ OldK s₁.heap s'.heap /\ s'.os = s₁.os /\ AllBare s'.gens) s₁) :
  WalkO q loose XP YP l.row.toRowW d [] (fun f vs => PySem.call f vs) := by
 intro w s₀ s₁ mg mb G Y fa o pm cd doc dV kV ho hd hcd hD hmg hg args vals as hpre hlay hrd hwl hlo
 obtain rfl : dV = .none := Dflts.none hD hdf
 obtain rfl : kV = .none := Dflts.noKw hD
 obtain ⟨a, vs, ns, rfl, rfl, hobj, hints, hlen⟩ := zw5 hn hpre hwl
 refine enter_call (codeAny_mono (call w s₀ s₁ mg mb fa o pm cd doc a vs ns G Y ho (fd_plain hd) hcd hmg hobj hints hlen hg) fun r s' hq => ?_)
 obtain ⟨rfl, h2, h3, h4⟩ := hq
 exact ⟨.inl ⟨.bool true, .bool true, [], rfl, fun _ => rfl, .bool true, zw6 l _, fun _ => ⟨List.Pairwise.nil, fun _ hm => (nomatch hm)⟩⟩, h2, h3, h4⟩
end Att
namespace L2
open PySem PySem.Spec PyProof.Rows
theorem zb0 : ∀ {vs : List Value} {ns : List Int}, IntsAre vs ns -> cG (ns.map V.int) vs
 | _, _, .nil => .nil
 | _, _, .cons n t h => .cons ⟨t, rfl⟩ (zb0 h)
noncomputable def yg5 (H : Hp) : Prop := ∀ b, H b = none \/ ∃ o xs, H b = some (.frz o (.lst xs))
theorem yc7 {P : Program} {w : World} {K : tz0} {mg mb : tzA} {CX : CXT} {k : Nat} {fa a : Addr} {fd : FuncData} {x : Str} {sp : Sp} {s₁ : Shared} {vs : List Value} {ns : List Int}
  (KX : K.In s₁.heap) (hns : s₁.heap.Ns mainGlobals mg) (hb : s₁.heap.Ns builtinsNs mb) (hbb : ∀ x : Str, x ≠ "__name__" -> mb x = bootBuiltins x) (hlim : s₁.heap.NoLimit) (hg : s₁.gens = #[])
  (ha : s₁.heap.get? a = some { cls := .type "list", data := .seq vs.toArray }) (hi : IntsAre vs ns) (hl : ns.length <= sizeLine) (hr : Room k callerA)
  (F : ∀ base : Heap, K.In base -> base.Ns mainGlobals mg -> FnOk P w K mg base CX k fa fd [x] sp) (hbind : ∀ (s : Shared) (u : Value), BindsTo s fd ⟨[u], []⟩ [(x, u)])
  (hsp : ∀ H : Hp, yg5 H -> SqL K H a (ns.map V.int) -> sp [.ref a] H (fun v _ => v = .bl true) fun _ _ _ => False)
  (hCX : ∀ H e s', CX [] H s₁ (fun _ _ _ => False) e s' -> False) :
  codeAny (model P w) callerA (.call (.ref fa) ⟨[.ref a], []⟩) (fun r s' => r = .ok (.ret (.bool true)) /\ OldK s₁.heap s'.heap /\ s'.os = s₁.os /\ AllBare s'.gens) s₁ := by
 have rv := zb0 hi
 have lenV := hi.length
 have core : ∀ H : Hp, yg5 H -> SqL K H a (ns.map V.int) -> HOk P w H s₁.heap -> (∀ b, H b ≠ none -> b = a) -> (H a ≠ none -> K.lookup a = none) ->
   codeAny (model P w) callerA (.call (.ref fa) ⟨[.ref a], []⟩) (fun r s' => r = .ok (.ret (.bool true)) /\ OldK s₁.heap s'.heap /\ s'.os = s₁.os /\ AllBare s'.gens) s₁ := by
  intro H hO hS hok hA hK
  have base_of : ∀ {b : Addr} {o : Obj}, s₁.heap.get? b = some o -> H b = none -> (sS s₁.heap H).get? b = some o := fun e n => yb7 e n
  have noA : ∀ {b : Addr} {o : Obj} {es : Array DictEntry} {ep : Nat}, s₁.heap.get? b = some o -> o.data = .dict es ep -> H b = none := fun {b o es ep} e d => by
   cases q : H b with
   | none => rfl
   | some u =>
    have e' : b = a := hA b (by rw [q]; simp)
    subst e'
    rw [ha] at e; cases e
    have d' : Data.seq vs.toArray _ = Data.dict es ep := d
    cases d'
  have nsK : ∀ {b : Addr} {m : tzA}, s₁.heap.Ns b m -> (sS s₁.heap H).Ns b m := fun {b m} ⟨o, es, ep, e, d, r⟩ => ⟨o, es, ep, base_of e (noA e d), d, r⟩
  have hKb : K.In (sS s₁.heap H) := fun b o e => base_of (KX b o e) (by
   cases q : H b with
   | none => rfl
   | some u =>
    have e' : b = a := hA b (by rw [q]; simp)
    subst e'
    rw [hK (by rw [q]; simp)] at e; cases e)
  have hM : Mod K mg (sS s₁.heap H) := ⟨hKb, nsK hns, ⟨mb, nsK hb, hbb⟩, let ⟨mc, h1, h2⟩ := hlim; ⟨mc, nsK h1, h2⟩⟩
  have e0 : Env0 P w K mg (sS s₁.heap H) callerA [] s₁ H := ⟨rfl, hM, fun b o e => yi4 e, Nat.le_of_eq (zu4 _ _), trivial, fun b hb => absurd (show b ∈ ([] : List Addr) from hb) (by simp), hok, .of_eq hg⟩
  refine codeAny_mono ((F _ hKb (nsK hns)).run callerA [] s₁ H ⟨[.ref a], []⟩ [.ref a] [.ref a] _ _ hr e0 (hbind s₁ (.ref a)) (.cons rfl .nil) (hsp H hO hS)) fun r s' h => ?_
  cases r with
  | error e => exact (hCX H e s' h).elim
  | ok fl =>
   cases fl with
   | next => exact False.elim h
   | brk => exact False.elim h
   | cont => exact False.elim h
   | ret u =>
    obtain ⟨v, H', os, bare, un, hok', r', q⟩ := h
    have q' : v = .bl true := q
    subst q'
    obtain rfl : u = Value.bool true := r'
    refine ⟨rfl, OldK.of_keep fun b o e => ?_, os, bare⟩
    cases q : H b with
    | none => exact un.keep b o e q (by intro z; exact absurd (show b ∈ ([] : List Addr) from z) (by simp)) (by simp)
    | some u =>
     rcases hO b with z | ⟨ob, xs, z⟩
     ·rw [q] at z; cases z
     ·have z2 := un.frzs b ob _ z
      obtain ⟨e1, _⟩ := hok b _ z
      obtain ⟨e2, _⟩ := hok' b _ z2
      rw [e] at e1; cases e1
      exact e2
 cases hk : K.lookup a with
 | some o =>
  have e := KX a o hk
  rw [ha] at e
  cases e
  refine core (fun _ => none) (fun _ => .inl rfl) (.inr ⟨_, vs.toArray, _, hk, rfl, rfl, rfl, by rw [List.size_toArray, lenV]; exact hl, by simpa using rv⟩) (fun b u z => by have z' : (none : Option HO) = some u := z; cases z') (fun b z => absurd rfl z) fun z => absurd rfl z
 | none =>
  refine core (fun b => if b = a then some (.frz { cls := .type "list", data := .seq vs.toArray } (.lst (ns.map V.int))) else none) (fun b => ?_) (.inl (.inr ⟨{ cls := .type "list", data := .seq vs.toArray }, if_pos rfl⟩)) (fun b u z => ?_) (fun b z => ?_) fun _ => hk
  ·by_cases hb : b = a
   ·exact .inr ⟨_, _, if_pos hb⟩
   ·exact .inl (if_neg hb)
  ·by_cases hb : b = a
   ·have z' := (if_pos hb).symm.trans z
    cases z'
    subst hb
    exact ⟨ha, by rw [List.length_map]; exact hl, vs, _, rv, ha⟩
   ·have z' := (if_neg hb).symm.trans z
    cases z'
  ·by_cases hb : b = a
   ·exact hb
   ·exact absurd (if_neg hb) z
theorem yj2 {l : PySem.W.OpenLaw} {n k : Nat} {q : Program} {loose : List Str} {XP : (tzA) -> Heap -> Prop} {YP : World -> Heap -> Prop} {d : DefRec} {K : Params -> tz0} {CX : World -> CXT} {sp : World -> Sp} {x : Str}
  (hn : l.most = some n) (hn2 : n <= sizeLine) (hdf : d.params.defaults = []) (hr : Room k callerA)
  (hY : ∀ (w : World) (h : Heap), YP w h -> (K w.params).In h)
  (F : ∀ (w : World) (mg : tzA) (fa : Addr) (h : Heap), (K w.params).In h -> h.Ns mainGlobals mg -> mg d.name = some (.ref fa) ->
   ∃ fd : FuncData, (∀ (s : Shared) (u : Value), BindsTo s fd ⟨[u], []⟩ [(x, u)]) /\
    ∀ base : Heap, (K w.params).In base -> base.Ns mainGlobals mg -> FnOk l.prog w (K w.params) mg base (CX w) k fa fd [x] (sp w))
  (hsp : ∀ (w : World) (H : Hp) (a : Addr) (ns : List Int), ns.length <= n -> yg5 H -> SqL (K w.params) H a (ns.map V.int) -> sp w [.ref a] H (fun v _ => v = .bl true) fun _ _ _ => False)
  (hCX : ∀ (w : World) (H : Hp) (s : Shared) (e : Value) (s' : Shared), CX w [] H s (fun _ _ _ => False) e s' -> False) :
  PySem.W.WalkO q loose XP YP l.row.toRowW d [] (fun f vs => PySem.call f vs) := by
 refine Att.attach_call hn hdf fun w s₀ s₁ mg mb fa o pm cd doc a vs ns G Y ho hd hcd hmg hobj hints hlen hg => ?_
 have KX := hY w _ Y
 obtain ⟨fd, hb, hF⟩ := F w mg fa _ KX G.T.g hmg
 exact yc7 KX G.T.g G.T.b G.T.builtins G.T.nolimit hg hobj hints (Nat.le_trans hlen hn2) hr hF hb (fun H hO hS => hsp w H a ns hlen hO hS) fun H e s' => hCX w H s₁ e s'
noncomputable def oA (s : Stmt) (j : Nat) : Stmt := match s with
 | .ClassDef _ _ _ body _ _ _ _ _ _ _ => body.getD j (.Pass ⟨0, 0, 0, 0⟩)
 | _ => .Pass ⟨0, 0, 0, 0⟩
noncomputable def cJ (s : Stmt) : Arguments := match s with
 | .FunctionDef _ a _ _ _ _ _ _ _ _ => a
 | _ => { posonlyargs := [], args := [], vararg := none, kwonlyargs := [], kw_defaults := [], kwarg := none, defaults := [] }
noncomputable def bR (s : Stmt) : List Stmt := match s with
 | .FunctionDef _ _ b _ _ _ _ _ _ _ => b
 | _ => []
noncomputable def aM (s : Stmt) : Scope := match s with
 | .FunctionDef _ _ _ _ _ _ sc _ _ _ => sc
 | _ => { kind := .function, names := [], isGenerator := false, isCoroutine := false }
noncomputable abbrev CX0 : CXT := fun _ _ _ _ _ _ => False
noncomputable abbrev E0 : XK := fun _ _ _ => False
theorem xK {X : Cx} : nG CX0 X E0 := fun _ _ _ _ _ _ _ h => h.elim
structure Fun (K : tz0) (x qual : Str) (st : Stmt) (f : Addr) (fd : FuncData) : Prop where
 ex : ∃ (oc : Value) (od : Option Addr) (kV doc pm : Value) (an : Option Addr) (cdv ct : Value) (osl : Array (Option Value)),
  fd = PySem.W.fnOf x qual (cJ st) (bR st) (aM st) .none kV doc pm an cdv ct /\ K.lookup f = some ⟨oc, od, .func fd, osl⟩ /\ PySem.W.codeIn K cdv qual = true
 kp : PySem.W.keepIn K (.ref f) = true
section
variable {P : Program} {w : World} {K : tz0} {mg : tzA} {base : Heap}
theorem Fun.ok {x qual : Str} {st : Stmt} {f : Addr} {fd : FuncData} {N ps : List Str} {k : Nat} {sp : Sp} (F : Fun K x qual st f fd) (S : FnScope N ps (aM st)) (len : ∀ vs H Q E, sp vs H Q E -> vs.length = ps.length)
  (hbody : ∀ (cdv : Value) (A : Around) (outer : List Env) (s : Shared) (H : Hp) (vs : List V) (Q : VK) (E : XK), Room k (A.deeper (envOfC qual (aM st) s.heap.objs.size f cdv)) -> sp vs H Q E ->
   ∃ t, PSs (eI CX0 P w K mg base N qual (aM st) f cdv A outer s H E).nox (bR st) t /\ t { nx := fun _ H' => Q .non H', rt := Q } (start N vs) H) : FnOk P w K mg base CX0 (k + 1) f fd ps sp := by
 obtain ⟨oc, od, kV, doc, pm, an, cdv, ct, osl, rfl, lk, hcd⟩ := F.ex
 refine zq6 lk hcd S len fun A outer s H vs Q E hr hsp => ?_
 obtain ⟨t, h, q⟩ := hbody cdv A outer s H vs Q E hr hsp
 exact ⟨t, h.nox, q⟩
theorem Fun.binds {x qual : Str} {st : Stmt} {f : Addr} {fd : FuncData} {ps : List Str} (F : Fun K x qual st f fd)
  (h : ∀ (kV doc pm : Value) (an : Option Addr) (cdv ct : Value) (us : List Value), us.length = ps.length -> bindArgs (PySem.W.fnOf x qual (cJ st) (bR st) (aM st) .none kV doc pm an cdv ct) ⟨us, []⟩ = pure (ps.zip us)) : lQ K fd ps [] := by
 obtain ⟨oc, od, kV, doc, pm, an, cdv, ct, osl, rfl, lk, hcd⟩ := F.ex
 exact .all (h kV doc pm an cdv ct)
theorem hJ {x qual : Str} {st : Stmt} {f : Addr} {oc : Value} {od an : Option Addr} {osl : Array (Option Value)} {kV doc pm cdv ct : Value} (l : K.lookup f = some ⟨oc, od, .func (PySem.W.fnOf x qual (cJ st) (bR st) (aM st) .none kV doc pm an cdv ct), osl⟩)
  (c : PySem.W.codeIn K cdv qual = true) (k : PySem.W.keepIn K (.ref f) = true) : Fun K x qual st f (PySem.W.fnOf x qual (cJ st) (bR st) (aM st) .none kV doc pm an cdv ct) := ⟨⟨oc, od, kV, doc, pm, an, cdv, ct, osl, rfl, l, c⟩, k⟩
end
theorem qH {n : Nat} (h : n <= 1000) : n < sizeLine := Nat.lt_of_le_of_lt h (by decide)
section
variable {X : Cx}
theorem pv (i : Nat) {x : Str} {pos : Pos} (hN : X.N[i]? = some x := by rfl) (hv : Vis X.env.scope x := by first | exact Or.inl rfl | exact Or.inr (Or.inl rfl) | exact Or.inr (Or.inr rfl)) (hd : (x == ("__debug__" : Str)) = false := by decide)
  (hcd : (x == ("__classdict__" : Str)) = false := by decide) : PE X (.Name x pos) (yr3 i) := pM hN hv hd hcd
end
theorem yw0 {c A B : Prop} [Decidable c] (h1 : c -> A) (h2 : ¬ c -> B) : if c then A else B := by
 by_cases h : c
 ·rw [if_pos h]
  exact h1 h
 ·rw [if_neg h]
  exact h2 h
noncomputable def zu0 (H H' : Hp) : Prop := ∀ b o, H b = some o -> H' b = some o
theorem zu0.free {H H' : Hp} (e : zu0 H H') {l : Addr} (h : H' l = Option.none) : H l = Option.none := by
 cases q : H l with
 | none => rfl
 | some o =>
  rw [e l o q] at h
  cases h
structure M1 (X : Cx) (o : Expr) (m : Str) (apos : Pos) (e : Expr) (cpos : Pos) : Prop where
 base : attributeBase o m X.env (eval o X.env) = eval o X.env
 few : ((backTo cpos (starEach [e] X.env)).all (fun x => !x.1) && (backToKw cpos (keywordEach [] X.env)).all (fun x => x.1.isSome)
  && decide (([e] : List Expr).length + ([] : List Keyword).length + (if ([] : List Keyword).isEmpty then 0 else 1) < 30)) = true
 line : (apos.endLine == cpos.line) = true
 trees : backTo cpos (starEach [e] X.env) = [(false, eval e X.env)]
structure M2 (X : Cx) (o : Expr) (m : Str) (apos : Pos) (e f : Expr) (cpos : Pos) : Prop where
 base : attributeBase o m X.env (eval o X.env) = eval o X.env
 few : ((backTo cpos (starEach [e, f] X.env)).all (fun x => !x.1) && (backToKw cpos (keywordEach [] X.env)).all (fun x => x.1.isSome)
  && decide (([e, f] : List Expr).length + ([] : List Keyword).length + (if ([] : List Keyword).isEmpty then 0 else 1) < 30)) = true
 line : (apos.endLine == cpos.line) = true
 trees : backTo cpos (starEach [e, f] X.env) = [(false, eval e X.env), (false, eval f X.env)]
structure Dn (K : tz0) (mg : tzA) (x : Str) (st : Stmt) (ps : List Str) (f : Addr) (fd : FuncData) : Prop where
 F : Fun K x x st f fd
 b : lQ K fd ps []
 m : mg x = some (.ref f)
section
variable {X : Cx} {x : Str} {st : Stmt} {ps : List Str} {f : Addr} {fd : FuncData} {k : Nat} {sp : Sp} {p pos : Pos} {e : Expr} {es : List Expr} {t : TA}
theorem zq9 (D : Dn X.K X.mg x st ps f fd) (G : FnOk X.prog X.w X.K X.mg X.base CX0 k f fd ps sp) (hr : Room k X.A) (hg : Gl X x) (ha : PA X (e :: es) t)
  (hdb : (x == ("__debug__" : Str)) = false := by decide) (he : starEach (e :: es) X.env = (false, eval e X.env) :: starEach es X.env := by rfl) (hpl : (backTo pos (starEach es X.env)).any (·.1) = false := by rfl) :
  PE X (.Call (.Name x p) (e :: es) [] pos) (ze1 sp [] E0 t) := yi9 G hr hg D.m D.F.kp D.b .nil xK ha hdb he hpl
theorem yo9 (D : Dn X.K X.mg x st ps f fd) (G : FnOk X.prog X.w X.K X.mg X.base CX0 k f fd ps sp) (hr : Room k X.A) (hg : Gl X x)
  (hdb : (x == ("__debug__" : Str)) = false := by decide) : PE X (.Call (.Name x p) [] [] pos) (ze1 sp [] E0 zt9) := yc4 G hr hg D.m D.F.kp D.b .nil xK hdb
end
theorem yc8 {H : Hp} {p : Addr} (h : H p = none) (o : HO) : zu0 H (upd H p o) := fun b u q => by rw [cM (lH q h)]; exact q
theorem zd5 {n : Nat} (h : n <= 1000) : n <= sizeLine := Nat.le_of_lt (qH h)
noncomputable def rW (H : Hp) : V -> Option String
 | .non => some "NoneType"
 | .bl _ => some "bool"
 | .int _ => some "int"
 | .str _ => some "str"
 | .ref a => match H a with
  | some (.lst _) => some "list"
  | some (.frz _ (.lst _)) => some "list"
  | some (.tup _) => some "tuple"
  | some (.dK _) => some "dict"
  | _ => none
 | _ => none
noncomputable def yM (t c : String) : Bool := decide (t = c) || (decide (t = "bool") && decide (c = "int"))
noncomputable def kinds : List String := ["NoneType", "bool", "int", "str", "list", "tuple", "dict"]
theorem zf5 (K : tz0) : ∀ t ∈ kinds, ∀ c ∈ ["bool", "int", "str", "list", "tuple", "dict"], PySem.W.kitOne K (.type t) (.type c) = some (yM t c) := by
 intro t ht c hc
 simp only [kinds, List.mem_cons, List.not_mem_nil, or_false] at ht hc
 rcases ht with rfl | rfl | rfl | rfl | rfl | rfl | rfl <;> rcases hc with rfl | rfl | rfl | rfl | rfl | rfl <;> rfl
theorem zw7 {K : tz0} {H : Hp} {x : V} {t : String} (h : rW H x = some t) : TyOf K H x (.type t) /\ t ∈ kinds := by
 cases x with
 | non => cases h; exact ⟨.non, by decide⟩
 | bl b => cases h; exact ⟨.bl b, by decide⟩
 | int i => cases h; exact ⟨.int i, by decide⟩
 | str x => cases h; exact ⟨.str x, by decide⟩
 | ref a =>
  have h' : (match H a with
   | some (.lst _) => some "list"
   | some (.frz _ (.lst _)) => some "list"
   | some (.tup _) => some "tuple"
   | some (.dK _) => some "dict"
   | _ => none) = some t := h
  cases e : H a with
  | none => rw [e] at h'; cases h'
  | some o =>
   rw [e] at h'
   cases o with
   | lst xs => cases h'; exact ⟨.lst e, by decide⟩
   | tup xs => cases h'; exact ⟨.tup e, by decide⟩
   | dK kvs => cases h'; exact ⟨.dK e, by decide⟩
   | frz ob u =>
    cases u with
    | lst xs => cases h'; exact ⟨.frz e, by decide⟩
    | _ => cases h'
   | _ => cases h'
 | _ => cases h
section
variable {X : Cx}
theorem yc9 : fY X (.builtin "isinstance") (fun xs H Q => ∃ x c t, xs = [x, .ty c] /\ rW H x = some t /\ c ∈ ["bool", "int", "str", "list", "tuple", "dict"] /\ Q (.bl (yM t c)) H) := by
 intro pins s σ H xs us Q I r h
 obtain ⟨x, c, t, rfl, ht, hc, q⟩ := h
 obtain ⟨u, v, rfl, rx, rc⟩ := zq1 r
 cases (show v = Value.type c from rc)
 obtain ⟨ty, hk⟩ := zw7 (K := X.K) ht
 exact zv8 I rx ty (zf5 X.K t hk c hc) fun tk => ⟨.bl (yM t c), H, I.tok tk, rfl, q⟩
end
theorem sA {env : Env} : ∀ (names : List (Str × NameKind)) (cs : List (Str × Addr)),
  (∀ y ∈ names, y.2 = .free -> ∃ c, env.cells.lookup y.1 = some c) -> (∀ x c, cs.lookup x = some c -> env.cells.lookup x = some c) ->
  ∃ cl, (forIn names cs fun (y : Str × NameKind) (r : List (Str × Addr)) =>
    (if (y.2 == .free) = true then (do let a <- cellOf env y.1; pure (ForInStep.yield ((y.1, a) :: r))) else pure (ForInStep.yield r) : Sem (ForInStep (List (Str × Addr))))) = pure cl /\
   (∀ x c, cl.lookup x = some c -> env.cells.lookup x = some c) /\ (∀ x c, cs.lookup x = some c -> ∃ c', cl.lookup x = some c') /\ (∀ y ∈ names, y.2 = .free -> ∃ c, cl.lookup y.1 = some c)
 | [], cs, _, hc => ⟨cs, rfl, hc, fun x c h => ⟨c, h⟩, fun y hy => absurd hy (List.not_mem_nil)⟩
 | (n, k) :: r, cs, hn, hc => by
  have hr : ∀ y ∈ r, y.2 = .free -> ∃ c, env.cells.lookup y.1 = some c := fun y hy => hn y (List.mem_cons_of_mem _ hy)
  by_cases hk : k = .free
  ·subst hk
   obtain ⟨c, e⟩ := hn (n, .free) List.mem_cons_self rfl
   have hc' : ∀ x c', ((n, c) :: cs).lookup x = some c' -> env.cells.lookup x = some c' := fun x c' h => by
    rw [List.lookup_cons] at h
    cases hx : x == n with
    | true =>
     rw [hx] at h
     have e1 : x = n := by simpa using hx
     have e2 : c = c' := Option.some.inj h
     rw [e1, <- e2]; exact e
    | false => rw [hx] at h; exact hc x c' h
   obtain ⟨cl, h1, h2, h3, h4⟩ := sA (env := env) r ((n, c) :: cs) hr hc'
   refine ⟨cl, ?_, h2, fun x c' h => ?_, fun y hy hf => ?_⟩
   ·rw [List.forIn_cons]
    have e0 : cellOf env n = pure c := by unfold cellOf; rw [e]
    simp only [e0]
    exact h1
   ·cases hx : x == n with
    | true =>
     have e1 : x = n := by simpa using hx
     exact h3 x c (by rw [List.lookup_cons, hx])
    | false => exact h3 x c' (by rw [List.lookup_cons, hx]; exact h)
   ·rcases List.mem_cons.mp hy with e1 | hy
    ·rw [e1]; exact h3 n c (by rw [List.lookup_cons]; simp)
    ·exact h4 y hy hf
  ·obtain ⟨cl, h1, h2, h3, h4⟩ := sA (env := env) r cs hr hc
   refine ⟨cl, ?_, h2, h3, fun y hy hf => ?_⟩
   ·rw [List.forIn_cons]
    have e0 : (k == NameKind.free) = false := by simpa using hk
    simp only [e0]
    exact h1
   ·rcases List.mem_cons.mp hy with e1 | hy
    ·rw [e1] at hf; exact absurd hf hk
    ·exact h4 y hy hf
theorem zr0 {env : Env} {scope : Scope} (h : ∀ y ∈ scope.names, y.2 = .free -> ∃ c, env.cells.lookup y.1 = some c) :
  ∃ cl, closureFor scope env = pure cl /\ (∀ x c, cl.lookup x = some c -> env.cells.lookup x = some c) /\ (∀ y ∈ scope.names, y.2 = .free -> ∃ c, cl.lookup y.1 = some c) := by
 obtain ⟨cl, h1, h2, _, h4⟩ := sA (env := env) scope.names [] h (fun x c e => by simp at e)
 refine ⟨cl, ?_, h2, h4⟩
 have e : ((forIn scope.names [] fun (y : Str × NameKind) (r : List (Str × Addr)) =>
    (if (y.2 == .free) = true then (do let a <- cellOf env y.1; pure (ForInStep.yield ((y.1, a) :: r))) else pure (ForInStep.yield r) : Sem (ForInStep (List (Str × Addr))))) >>= fun s => pure s) = pure cl := by rw [h1]; rfl
 exact e
structure CScope (sc : Scope) (NX N : List Str) (pick : List (Option Nat)) (scope : Scope) : Prop where
 kind : scope.kind = .function
 nocell : ∀ y ∈ scope.names, y.2 ≠ .cell
 names : ∀ y ∈ scope.names, y.2 = .local -> scope.names.lookup y.1 = some .local
 frees : ∀ y ∈ scope.names, y.2 = .free -> sc.names.lookup y.1 = some .cell \/ sc.names.lookup y.1 = some .free
 pk : ∀ p ∈ N.zip pick, ∀ j ∈ p.2, NX[j]? = some p.1 /\ scope.names.lookup p.1 = some .free
 nd : N.Nodup
 len : pick.length = N.length
noncomputable def oZ (pick : List (Option Nat)) (σ : St) : St := pick.map fun o => o.bind fun j => (σ[j]?).join
noncomputable def cxB (X : Cx) (N : List Str) (scope : Scope) (cl : List (Str × Addr)) (fp : List Addr) (s : Shared) (H : Hp) : Cx where
 prog := X.prog
 w := X.w
 K := X.K
 mg := X.mg
 base := X.base
 A := X.A
 N := N
 s₀ := s
 H₀ := H
 env := compEnvC scope cl s.heap.objs.size X.env
 outer := X.stack
 stack := X.stack
 ex := fp
 fn := fun _ => false
 calm := X.calm
 pn := []
 xe := fun _ _ => False
noncomputable def PTs (X : Cx) (ifs : List Expr) (t : TT) : Prop :=
 ∀ (pins : tzB) (s : Shared) (σ : St) (H : Hp) (Q : Bool -> Hp -> Prop), Inv X pins σ H s -> t σ H Q ->
  wpAny (model X.prog X.w) X.A (forIn ifs true fun c r => if r = true then do let ok <- isTrue c X.env (eval c X.env); pure (ForInStep.yield ok) else pure (ForInStep.yield r)) (TP X pins σ Q) X.xe s
noncomputable def yy6 : TT := fun _ H Q => Q true H
theorem yp0 {X : Cx} : PTs X [] yy6 := fun pins s σ H Q I h => wpAny_tests_nil ⟨H, I, h⟩
section
variable {prog : Program} {w : World} {A : Around} {R : Result -> Shared -> Prop} {s : Shared}
theorem zw8 {elt target iter : Expr} {ifs : List Expr} {scope : Scope} {pos : Pos} {it acc : Value} {env : Env} (I : Nat -> Shared -> Prop)
  (turn : ∀ n s, I n s -> wpAny (model prog w) A (pyNext it) (fun r s1 => match r with
   | none => R (.ok .next) s1
   | some v => wpAny (model prog w) A (letOwnedTupleGo target it v) (fun _ s1 => wpAny (model prog w) A (assign target env v) (fun _ s2 =>
     wpAny (model prog w) A (forIn ifs true fun c r => if r = true then do let ok <- isTrue c env (eval c env); pure (ForInStep.yield ok) else pure (ForInStep.yield r)) (fun ok s3 =>
      if ok = true then wpAny (model prog w) A (eval elt env) (fun x s4 =>
       wpAny (model prog w) A (call (.builtin "list.append") [acc, x]) (fun _ s5 => ∃ m, m < n /\ I m s5) (fun _ _ => False) s4) (fun _ _ => False) s3
      else ∃ m, m < n /\ I m s3) (fun _ _ => False) s2) (fun _ _ => False) s1) (fun _ _ => False) s1) (fun _ _ => False) s)
  (n : Nat) (h : I n s) : codeAny (model prog w) A (.compLoop (.ListComp elt [⟨target, iter, ifs, 0⟩] scope pos) 0 it acc env) R s := by
 refine codeAny_loop rfl I (fun n s hI => ?_) n h
 show wpAny _ A ((compTurn (.ListComp elt [⟨target, iter, ifs, 0⟩] scope pos) 0 it acc env).onRaise (fun x => do noteFrame x env; theTreesLotGoes x)) _ _ s
 refine wpAny_noted ?_
 rw [compTurn_list]
 refine wpAny_bind (wpAny_standAt (wpAny_bind (wpAny_mono (turn n s hI) (fun r s1 h1 => ?_) fun _ _ z => z.elim)))
 cases r with
 | none => exact wpAny_pure h1
 | some v =>
  refine wpAny_bind (wpAny_mono h1 (fun _ s1 h1 => wpAny_bind (wpAny_mono h1 (fun _ s2 h2 => wpAny_bind (wpAny_mono h2 (fun ok s3 h3 => ?_) fun _ _ z => z.elim)) fun _ _ z => z.elim)) fun _ _ z => z.elim)
  cases ok with
  | false => exact wpAny_pure ⟨rfl, h3⟩
  | true =>
   exact wpAny_bind (wpAny_bind (wpAny_mono h3 (fun x s4 h4 => wpAny_bind (wpAny_mono h4 (fun _ s5 h5 => wpAny_pure (wpAny_pure ⟨rfl, h5⟩)) fun _ _ z => z.elim)) fun _ _ z => z.elim))
end
noncomputable def ys3 (pick : List (Option Nat)) (wi : TI) (g : TG) (tt : TT) (te : TE) (σ : St) (H : Hp) (Q : Addr -> Hp -> Prop) : Prop := wi σ H fun J H1 => ∀ D, H1 D = none ->
 ∃ W : Nat -> Nat -> St -> Hp -> Prop, (∃ m, W 0 m (oZ pick σ) (upd H1 D (.lst []))) /\ ∀ i m σ' H', W i m σ' H' ->
  (J.stop i H' /\ Q D H') \/ (J.go i H' /\ ∀ x H2, J.yld i H' x H2 -> g x σ' H2 fun σ3 H3 => tt σ3 H3 fun b H4 =>
   if b = true then te σ3 H4 fun y H5 => ∃ ys, H5 D = some (.lst ys) /\ ys.length < sizeLine /\ ∃ m', m' < m /\ W (i + 1) m' σ3 (upd H5 D (.lst (ys ++ [y]))) else ∃ m', m' < m /\ W (i + 1) m' σ3 H4)
noncomputable def yv6 (pick : List (Option Nat)) (wi : TI) (g : TG) (tt : TT) (te : TE) : TE := fun σ H Q => ys3 pick wi g tt te σ H fun D H' => Q (.ref D) H'
section
variable {X : Cx} {sc : Scope} {NX N : List Str} {pick : List (Option Nat)} {elt tg iter : Expr} {ifs : List Expr} {scope : Scope} {pos : Pos} {wi : TI} {g : TG} {tt : TT} {te : TE}
theorem iR {env : Env} : ∀ {names : List (Str × NameKind)} {x : Str} {k : NameKind}, (∀ y ∈ names, y.2 ≠ .cell) ->
  (names.map fun (n, k) => if (k == NameKind.free && env.scope.kind == .function && env.kindOf n == some .cell) then (n, NameKind.cell) else (n, k)).lookup x = some k -> (k = .cell \/ k = .free) -> (x, NameKind.free) ∈ names
 | [], _, _, _, h, _ => by simp at h
 | (n, k0) :: r, x, k, hn, h, hk => by
  have hr : ∀ y ∈ r, y.2 ≠ .cell := fun y hy => hn y (List.mem_cons_of_mem _ hy)
  have h' : List.lookup x ((if (k0 == NameKind.free && env.scope.kind == .function && env.kindOf n == some .cell) = true then (n, NameKind.cell) else (n, k0)) :: (r.map fun (n, k) => if (k == NameKind.free && env.scope.kind == .function && env.kindOf n == some .cell) then (n, NameKind.cell) else (n, k))) = some k := h
  by_cases hc : (k0 == NameKind.free && env.scope.kind == .function && env.kindOf n == some .cell) = true
  ·rw [if_pos hc, List.lookup_cons] at h'
   cases hx : x == n with
   | true =>
    have e1 : x = n := by simpa using hx
    have e2 : k0 = .free := by
     simp only [Bool.and_eq_true, beq_iff_eq] at hc
     exact hc.1.1
    rw [e1, e2]; exact List.mem_cons_self
   | false => rw [hx] at h'; exact List.mem_cons_of_mem _ (iR hr h' hk)
  ·rw [if_neg hc, List.lookup_cons] at h'
   cases hx : x == n with
   | true =>
    rw [hx] at h'
    have e1 : x = n := by simpa using hx
    have e2 : k0 = k := Option.some.inj h'
    have e3 : k0 = .free := by
     rcases hk with z | z
     ·exact absurd (e2.trans z) (hn (n, k0) List.mem_cons_self)
     ·exact e2.trans z
    rw [e1, e3]; exact List.mem_cons_self
   | false => rw [hx] at h'; exact List.mem_cons_of_mem _ (iR hr h' hk)
theorem qI {env : Env} : ∀ {names : List (Str × NameKind)} {x : Str}, names.lookup x = some .free ->
  (names.map fun (n, k) => if (k == NameKind.free && env.scope.kind == .function && env.kindOf n == some .cell) then (n, NameKind.cell) else (n, k)).lookup x = some .cell \/
  (names.map fun (n, k) => if (k == NameKind.free && env.scope.kind == .function && env.kindOf n == some .cell) then (n, NameKind.cell) else (n, k)).lookup x = some .free
 | [], _, h => by simp at h
 | (n, k0) :: r, x, h => by
  have ih := @qI env r x
  show List.lookup x ((if (k0 == NameKind.free && env.scope.kind == .function && env.kindOf n == some .cell) = true then (n, NameKind.cell) else (n, k0)) :: _) = _ \/ List.lookup x ((if (k0 == NameKind.free && env.scope.kind == .function && env.kindOf n == some .cell) = true then (n, NameKind.cell) else (n, k0)) :: _) = _
  rw [List.lookup_cons] at h
  cases hx : x == n with
  | true =>
   rw [hx] at h
   have e : k0 = .free := Option.some.inj h
   subst e
   by_cases hc : (NameKind.free == NameKind.free && env.scope.kind == .function && env.kindOf n == some .cell) = true
   ·rw [if_pos hc]; left; rw [List.lookup_cons, hx]
   ·rw [if_neg hc]; right; rw [List.lookup_cons, hx]
  | false =>
   rw [hx] at h
   rcases ih h with z | z
   ·left
    by_cases hc : (k0 == NameKind.free && env.scope.kind == .function && env.kindOf n == some .cell) = true
    ·rw [if_pos hc, List.lookup_cons, hx]; exact z
    ·rw [if_neg hc, List.lookup_cons, hx]; exact z
   ·right
    by_cases hc : (k0 == NameKind.free && env.scope.kind == .function && env.kindOf n == some .cell) = true
    ·rw [if_pos hc, List.lookup_cons, hx]; exact z
    ·rw [if_neg hc, List.lookup_cons, hx]; exact z
theorem zw9 {pins : tzB} {σ : St} {H : Hp} {s : Shared} {cl : List (Str × Addr)} {fp : List Addr} {h' : Heap} {tk : Nat} (S : CScope sc NX N pick scope) (hsc : X.env.scope = sc) (hNX : X.N = NX)
  (I : Inv X pins σ H s) (hf : ∀ b ∈ fp, pY X pins H b) (ho : ∀ b ∈ fp, ∃ o, s.heap.get? b = some o)
  (c1 : ∀ x c, cl.lookup x = some c -> X.env.cells.lookup x = some c) (c2 : ∀ y ∈ scope.names, y.2 = .free -> ∃ c, cl.lookup y.1 = some c)
  (hns : h'.Ns s.heap.objs.size fun _ => none) (hk : ∀ b o, s.heap.get? b = some o -> h'.get? b = some o) :
  Inv (cxB X N scope cl fp s H) [] (oZ pick σ) H { s with heap := h', toks := tk } := by
 have lt : ∀ b ∈ fp, b < s.heap.objs.size := fun b hb => by obtain ⟨o, e⟩ := ho b hb; exact Heap.lt_size e
 refine ⟨⟨I.ok.mod, S.kind, I.ok.glob, I.ok.blt, Nat.le_refl _, fun x y c h1 h2 => I.ok.inj x y c (c1 x c h1) (c1 y c h2), fun x hx => ?_, fun x c z => absurd z (by simp [cxB]), I.ok.hd, I.ok.frames, .inl rfl,
  fun b hb => ⟨Nat.ne_of_lt (lt b hb), fun x c e => (hf b hb).2.2.2.2.1 x c (c1 x c e)⟩, I.bs, Nat.le_trans I.ok.bsz I.sz, fun b o e hb => ?_, fun b hb z => ?_, I.stack, I.stkFree⟩,
  rfl, I.bare, Un.kept hk, ⟨_, hns, fun i x v h1 h2 h3 => ?_⟩, fun x c e => ?_, I.hok.fresh (Nat.le_refl _), fun x c e => I.freeC x c (c1 x c e), fun p hp => absurd (show p ∈ ([] : tzB) from hp) (by simp), I.hok.kept hk, ?_⟩
 ·have hx' : (relabel scope X.env).names.lookup x = some .cell \/ (relabel scope X.env).names.lookup x = some .free := hx
  have hm : (x, NameKind.free) ∈ scope.names := by
   rcases hx' with z | z
   ·exact iR S.nocell z (.inl rfl)
   ·exact iR S.nocell z (.inr rfl)
  exact c2 _ hm rfl
 ·rcases (hf b hb).2.2.2.1 with z | z
  ·exact I.ok.noex b o e z
  ·exact absurd (Nat.lt_of_lt_of_le (Heap.lt_size e) (Nat.le_trans I.ok.bsz z)) (Nat.lt_irrefl _)
 ·rcases List.mem_cons.mp (I.stkSub b z) with z | z
  ·exact (hf b hb).2.1 z
  ·exact (hf b hb).2.2.1 z
 ·
  have hN' : N[i]? = some x := h1
  have h2' : (oZ pick σ)[i]? = some (some v) := h2
  unfold oZ at h2'
  rw [List.getElem?_map] at h2'
  cases ep : pick[i]? with
  | none => rw [ep] at h2'; cases h2'
  | some o =>
   rw [ep] at h2'
   cases o with
   | none => cases h2'
   | some j =>
    have h4 : (σ[j]?).join = some v := Option.some.inj h2'
    have h5 : σ[j]? = some (some v) := by
     cases e : σ[j]? with
     | none => rw [e] at h4; cases h4
     | some q => rw [e] at h4; exact congrArg some h4
    have hz : (x, some j) ∈ N.zip pick := by
     refine List.mem_of_getElem? (i := i) ?_
     rw [List.getElem?_zip_eq_some]; exact ⟨hN', ep⟩
    obtain ⟨h6, h7⟩ := S.pk _ hz j rfl
    have hfr : (x, NameKind.free) ∈ scope.names := PySem.mem_of_lookup h7
    have hcf := S.frees _ hfr rfl
    have hcf' : X.env.kindOf x = some .cell \/ X.env.kindOf x = some .free := by
     show X.env.scope.names.lookup x = _ \/ X.env.scope.names.lookup x = _
     rw [hsc]; exact hcf
    obtain ⟨m, hn, hl⟩ := I.loc
    obtain ⟨u, ru, lk⟩ := hl j x v (by rw [hNX]; exact h6) h5 (.inr hcf')
    refine ⟨u, ru, .inr ⟨qI h7, ?_⟩⟩
    obtain ⟨c, ec⟩ := c2 _ hfr rfl
    refine ⟨c, ec, ?_⟩
    rcases lk with ⟨k1, _⟩ | ⟨_, c', ec', hcell⟩
    ·rcases hcf' with z | z
     ·rw [k1] at z; cases z
     ·rw [k1] at z; cases z
    ·have e' := c1 x c ec
     rw [ec'] at e'
     cases e'
     obtain ⟨o, e1, e2⟩ := hcell
     exact ⟨o, hk _ _ e1, e2⟩
 ·obtain ⟨v, o, e1, e2⟩ := I.cell x c (c1 x c e)
  exact ⟨v, o, hk _ _ e1, e2⟩
 ·show (oZ pick σ).length = N.length
  unfold oZ
  rw [List.length_map]; exact S.len
theorem zr1 {pins : tzB} {σ σ' : St} {H H' : Hp} {s s' : Shared} {cl : List (Str × Addr)} {fp : List Addr} (I : Inv X pins σ H s) (hf : ∀ b ∈ fp, pY X pins H b)
  (J : Inv (cxB X N scope cl fp s H) [] σ' H' s') : Inv X pins σ H' s' :=
 I.call' (ch := fp) J.os J.base J.hok J.bare fun b hb => ⟨(hf b hb).2.2.2.1, (hf b hb).2.1, (hf b hb).2.2.2.2.1, (hf b hb).2.2.2.2.2⟩
theorem zr2 {pins : tzB} {σ : St} {H2 : Hp} {s2 : Shared} {cl : List (Str × Addr)} {J : It} {fp : List Addr} {it : Addr} {tn : Nat -> Heap -> Prop} {RR : Value -> Addr -> Result -> Shared -> Prop} {E : Value -> Shared -> Prop} {Q : Addr -> Hp -> Prop}
  (S : CScope sc NX N pick scope) (hsc : X.env.scope = sc) (hNX : X.N = NX) (hc : X.calm = true)
  (hg : ∀ cl fp s H, PG (cxB X N scope cl fp s H) tg g) (ht : ∀ cl fp s H, PTs (cxB X N scope cl fp s H) ifs tt) (he : ∀ cl fp s H, PE (cxB X N scope cl fp s H) elt te)
  (I2 : Inv X pins σ H2 s2) (T : Turn X.prog X.w X.K tg J fp it tn) (st2 : tn 0 s2.heap) (f2 : ∀ b ∈ fp, pY X pins H2 b)
  (c1 : ∀ x c, cl.lookup x = some c -> X.env.cells.lookup x = some c) (c2 : ∀ y ∈ scope.names, y.2 = .free -> ∃ c, cl.lookup y.1 = some c)
  (q : ∀ D, H2 D = none -> ∃ W : Nat -> Nat -> St -> Hp -> Prop, (∃ m, W 0 m (oZ pick σ) (upd H2 D (.lst []))) /\ ∀ i m σ' H', W i m σ' H' ->
   (J.stop i H' /\ Q D H') \/ (J.go i H' /\ ∀ x H2, J.yld i H' x H2 -> g x σ' H2 fun σ3 H3 => tt σ3 H3 fun b H4 =>
    if b = true then te σ3 H4 fun y H5 => ∃ ys, H5 D = some (.lst ys) /\ ys.length < sizeLine /\ ∃ m', m' < m /\ W (i + 1) m' σ3 (upd H5 D (.lst (ys ++ [y]))) else ∃ m', m' < m /\ W (i + 1) m' σ3 H4))
  (fin : ∀ D C H' s', Inv X pins σ H' s' -> H' C = none -> X.s₀.heap.objs.size <= C -> C ≠ X.env.locals -> (∀ x c, X.env.cells.lookup x = some c -> c ≠ C) -> (∀ p ∈ X.pn ++ pins, p.1 ≠ C) -> (∃ m, s'.heap.Ns C m) -> Q D H' -> RR (.ref D) C (.ok .next) s') :
  wpAny (model X.prog X.w) X.A (newList []) (fun acc s3 => wpAny (model X.prog X.w) X.A (newFunctionEnv scope X.env.globals cl [] X.env.qual none .none (some X.env)) (fun cenv s4 =>
   codeAny (model X.prog X.w) X.A (.compStart (.ListComp elt [⟨tg, iter, ifs, 0⟩] scope pos) 0 (.ref it) acc { cenv with scope := relabel scope X.env }) (RR acc cenv.locals) s4) E s3) E s2 := by
 have hD : H2 s2.heap.objs.size = none := I2.hok.fresh (Nat.le_refl _)
 obtain ⟨W, ⟨m0, w0⟩, turn⟩ := q _ hD
 refine wpAny_newObj_type (wpAny_newFunctionEnv S.nocell (by intro y hy; simp at hy) (fun h1 hns hsb => ?_) S.kind)
 have I3 : Inv X pins σ (upd H2 s2.heap.objs.size (.lst [])) { s2 with heap := s2.heap.push { cls := .type "list", dict := none, data := .seq ([] : List Value).toArray } } :=
  I2.lnew (t' := s2.toks) (its := []) (ys := []) .nil (Nat.zero_le _)
 have ne : ∀ b ∈ fp, b ≠ s2.heap.objs.size := fun b hb z => by
  obtain ⟨o, e, _⟩ := T.obj _ _ st2 b hb
  exact absurd (Heap.lt_size e) (by rw [z]; exact Nat.lt_irrefl _)
 have f3 : ∀ b ∈ fp, pY X pins (upd H2 s2.heap.objs.size (.lst [])) b := fun b hb => ⟨by rw [cM (ne b hb)]; exact (f2 b hb).1, (f2 b hb).2⟩
 have ho3 : ∀ b ∈ fp, ∀ o, s2.heap.get? b = some o -> (s2.heap.push { cls := .type "list", dict := none, data := .seq ([] : List Value).toArray }).get? b = some o := fun b _ o e => Heap.get?_push_of_some _ e
 have st3 := T.keep _ _ _ st2 ho3
 generalize hH3 : s2.heap.push { cls := .type "list", dict := none, data := .seq ([] : List Value).toArray } = H3 at hns hsb I3 ho3 st3 |-
 dsimp only at hns hsb |-
 have hk : ∀ b o, H3.get? b = some o -> h1.get? b = some o := fun b o e => hsb.extBut b o (Nat.ne_of_lt (Heap.lt_size e)) (Heap.get?_push_of_some _ e)
 have B0 : Inv (cxB X N scope cl fp { s2 with heap := H3 } (upd H2 s2.heap.objs.size (.lst []))) [] (oZ pick σ) (upd H2 s2.heap.objs.size (.lst [])) { s2 with heap := h1, toks := s2.toks + ([] : List (Str × Value)).length } :=
  zw9 (s := { s2 with heap := H3 }) S hsc hNX I3 f3 (fun b hb => by obtain ⟨o, e, _⟩ := T.obj _ _ st3 b hb; exact ⟨o, e⟩) c1 c2 hns hk
 have st4 : tn 0 h1 := T.keep _ _ _ st3 fun b _ o e => hk b o e
 have fpY : ∀ {H' : Hp}, (∀ b ∈ fp, H' b = none) -> ∀ b ∈ fp, pY (cxB X N scope cl fp { s2 with heap := H3 } (upd H2 s2.heap.objs.size (.lst []))) [] H' b := fun hn b hb =>
  ⟨hn b hb, (B0.ok.exf b hb).1, B0.ok.exfs b hb, .inl hb, (B0.ok.exf b hb).2, fun p hp => absurd (show p ∈ ([] : tzB) from hp) (by simp)⟩
 have loop : ∀ s4 : Shared, s4 = { s2 with heap := h1, toks := s2.toks + ([] : List (Str × Value)).length } ->
   codeAny (model X.prog X.w) X.A (.compLoop (.ListComp elt [⟨tg, iter, ifs, 0⟩] scope pos) 0 (.ref it) (.ref s2.heap.objs.size) (compEnvC scope cl H3.objs.size X.env)) (RR (.ref s2.heap.objs.size) H3.objs.size) s4 := by
  rintro s4 rfl
  refine zw8 (fun n s' => ∃ i σ' H', Inv (cxB X N scope cl fp { s2 with heap := H3 } (upd H2 s2.heap.objs.size (.lst []))) [] σ' H' s' /\ tn i s'.heap /\ (∀ b ∈ fp, H' b = none) /\ W i n σ' H') ?_ m0
   ⟨0, _, _, B0, st4, fun b hb => (f3 b hb).1, w0⟩
  rintro n s5 ⟨i, σ5, H5, I5, st5, fr5, w5⟩
  rcases turn i n σ5 H5 w5 with ⟨stop, qn⟩ | ⟨go, step⟩
  ·refine thn (T.done (cxB X N scope cl fp { s2 with heap := H3 } (upd H2 s2.heap.objs.size (.lst []))) rfl rfl rfl hc i [] s5 σ5 H5 _ I5 (fpY fr5) st5 stop) fun r s6 ⟨hr, I6⟩ => ?_
   subst hr
   obtain ⟨m, hm, _⟩ := I6.loc
   have sz : X.s₀.heap.objs.size <= H3.objs.size := I3.sz
   refine fin _ _ H5 s6 (zr1 I3 f3 I6) I6.free sz (Nat.ne_of_gt I3.lt) (fun x c e z => ?_) (fun p hp z => ?_) ⟨m, hm⟩ qn
   ·obtain ⟨v, z2⟩ := I3.cell x c e
    exact absurd z2.lt (by rw [z]; exact Nat.lt_irrefl _)
   ·exact absurd (Heap.lt_size (I3.pin p hp).1) (by rw [z]; exact Nat.lt_irrefl _)
  ·refine thn (T.item (cxB X N scope cl fp { s2 with heap := H3 } (upd H2 s2.heap.objs.size (.lst []))) rfl rfl rfl hc i [] s5 σ5 H5 _ I5 (fpY fr5) st5 go) fun r s6 ⟨u, hr, h6⟩ => ?_
   subst hr
   refine thn h6 fun _ s7 ⟨x, H7, I7, r7, y7, st7, fr7⟩ => ?_
   have I7' := I7.pinned (fpY fr7) (T.obj _ _ st7)
   have back : ∀ {σ8 : St} {H8 : Hp} {s8 : Shared}, Inv (cxB X N scope cl fp { s2 with heap := H3 } (upd H2 s2.heap.objs.size (.lst []))) ([] ++ rV fp s7.heap) σ8 H8 s8 ->
     tn (i + 1) s8.heap /\ ∀ b ∈ fp, H8 b = none := fun {σ8 H8 s8} I8 => by
    refine ⟨T.keep _ _ _ st7 fun b hb o e => (I8.pin (b, o) (List.mem_append_right _ (List.mem_append_right _ (pD hb e)))).1, fun b hb => ?_⟩
    obtain ⟨o, e, d⟩ := T.obj _ _ st7 b hb
    exact (I8.pin (b, o) (List.mem_append_right _ (List.mem_append_right _ (pD hb e)))).2.1
   refine thn (hg _ _ _ _ _ s7 σ5 H7 x u _ I7' r7 (step x H7 y7)) fun _ s8 ⟨σ8, H8, I8, q8⟩ => ?_
   refine thn (ht _ _ _ _ _ s8 σ8 H8 _ I8 q8) fun ok s9 ⟨H9, I9, q9⟩ => ?_
   cases ok with
   | false =>
    rw [if_neg (by decide)] at q9 |-
    obtain ⟨m', hm, w9⟩ := q9
    obtain ⟨b1, b2⟩ := back I9
    exact ⟨m', hm, i + 1, σ8, H9, I9.unpinned, b1, b2, w9⟩
   | true =>
    rw [if_pos rfl] at q9 |-
    refine thn (he _ _ _ _ _ s9 σ8 H9 _ I9 q9) fun v s10 ⟨y, H10, I10, ry, ys, hys, hlen, m', hm, w10⟩ => ?_
    have ap := za9 (X := cxB X N scope cl fp { s2 with heap := H3 } (upd H2 s2.heap.objs.size (.lst []))) ([] ++ rV fp s7.heap) s10 σ8 H10 (.ref s2.heap.objs.size) [y] (.ref s2.heap.objs.size) [v]
     (fun z H' => z = .non /\ H' = upd H10 s2.heap.objs.size (.lst (ys ++ [y]))) I10 rfl (.cons ry .nil) ⟨_, ys, y, rfl, rfl, hys, hlen, rfl, rfl⟩
    refine thn ap fun z s11 ⟨z', H11, I11, _, _, e11⟩ => ?_
    subst e11
    obtain ⟨b1, b2⟩ := back I11
    exact ⟨m', hm, i + 1, σ8, _, I11.unpinned, b1, b2, w10⟩
 exact codeAny_compStart_list (loop _ rfl) (T.self _ _ _ _ _ st4 (loop _ rfl))
theorem yj3 (S : CScope sc NX N pick scope) (hsc : X.env.scope = sc) (hNX : X.N = NX) (hc : X.calm = true) (hi : PI X tg iter wi)
  (hg : ∀ cl fp s H, PG (cxB X N scope cl fp s H) tg g) (ht : ∀ cl fp s H, PTs (cxB X N scope cl fp s H) ifs tt) (he : ∀ cl fp s H, PE (cxB X N scope cl fp s H) elt te)
  (hs : ∀ x, foldedSetIterable iter X.env x = pure x := by intro _; rfl) : PE X (.ListComp elt [⟨tg, iter, ifs, 0⟩] scope pos) (yv6 pick wi g tt te) := by
 intro pins s σ H Q I h
 rw [eval_ListComp]
 have hfr : ∀ y ∈ scope.names, y.2 = .free -> ∃ c, X.env.cells.lookup y.1 = some c := fun y hy hf => I.ok.has y.1 (by
  show X.env.scope.names.lookup y.1 = _ \/ X.env.scope.names.lookup y.1 = _
  rw [hsc]; exact S.frees y hy hf)
 obtain ⟨cl, hcl, c1, c2⟩ := zr0 hfr
 refine wpAny_comprehension_free (use := none) rfl hs hcl S.kind S.names (thn (hi pins s σ H _ I h) fun v s1 h1 => thn h1 fun itv s2 h2 => ?_)
 obtain ⟨it, fp, tn, J, H2, e, I2, T, st2, f2, q⟩ := h2
 subst e
 refine zr2 (RR := fun acc C => compPost (model X.prog X.w) X.A X.xe none (EP X pins σ Q) acc C) (Q := fun D H' => Q (.ref D) H') S hsc hNX hc hg ht he I2 T st2 f2 c1 c2 q ?_
 intro D C H' s' I' n1 n2 n3 n4 n5 ⟨m, hm⟩ q'
 exact ⟨m, hm, fun h' hb => ⟨.ref D, H', I'.turned (t' := s'.toks) (it := C) (fun b o hbc e => (hb.2 b hbc).trans e) n1 n3 (.inr n2) n4 n5, rfl, q'⟩⟩
end
section
variable {X : Cx} {tg : Expr}
theorem zf6 : ∀ {ys : List Str} {us : List Value}, cG (ys.map V.str) us -> StrsAre us ys
 | [], _, .nil => .nil
 | y :: ys, _, .cons r t => by
  obtain ⟨k, rfl⟩ := r
  exact .cons y k (zf6 t)
theorem yj4 : MtR X "str.join" (fun x xs H Q => ∃ (z : Str) (a : Addr) (ys : List Str), x = .str z /\ xs = [.ref a] /\ SqL X.K H a (ys.map V.str) /\ z.length <= 16 /\ (ys.map (·.length)).sum + ys.length <= 1048576 /\ Q (.str (Txt.join z ys)) H) := by
 intro pins s σ H x xs v us Q I rx r h
 obtain ⟨z, a, ys, rfl, rfl, hq, hz, hw, q⟩ := h
 obtain ⟨t, rfl⟩ := rx
 obtain ⟨u, rfl, ru⟩ := qG r
 cases (show u = Value.ref a from ru)
 obtain ⟨its, rv, p, hl⟩ := I.list hq
 exact join_listW p.isList (by simpa using zf6 rv) hz hw fun t' k => ⟨.str _, H, I.tok k, ⟨_, rfl⟩, q⟩
end
mutual
inductive Dp (K : tz0) (H : Hp) : V -> PyData -> Prop
 | non : Dp K H .non .none
 | bl (b : Bool) : Dp K H (.bl b) (.bool b)
 | int (i : Int) : Dp K H (.int i) (.int i)
 | str (x : Str) : Dp K H (.str x) (.str x)
 | lst {a : Addr} {xs : List V} {ds : List PyData} : SqL K H a xs -> DpAll K H xs ds -> Dp K H (.ref a) (.list ds)
 | tup {a : Addr} {xs : List V} {ds : List PyData} : SqT K H a xs -> DpAll K H xs ds -> Dp K H (.ref a) (.tuple ds)
inductive DpAll (K : tz0) (H : Hp) : List V -> List PyData -> Prop
 | nil : DpAll K H [] []
 | cons {v : V} {vs : List V} {d : PyData} {ds : List PyData} : Dp K H v d -> DpAll K H vs ds -> DpAll K H (v :: vs) (d :: ds)
end
section
variable {X : Cx} {pins : tzB} {σ : St} {H : Hp} {s : Shared}
mutual
theorem Dp.reads (I : Inv X pins σ H s) : ∀ {v : V} {d : PyData} {u : Value}, Dp X.K H v d -> cW v u -> ∃ as, Reads s.heap u d as
 | _, _, u, .non, r => by cases (show u = Value.none from r); exact ⟨_, .none⟩
 | _, _, u, .bl b, r => by cases (show u = Value.bool b from r); exact ⟨_, .bool b⟩
 | _, _, u, .int i, r => by obtain ⟨t, rfl⟩ := r; exact ⟨_, .int i t⟩
 | _, _, u, .str x, r => by obtain ⟨t, rfl⟩ := r; exact ⟨_, .str x t⟩
 | _, _, u, .lst (a := a) h hs, r => by
  cases (show u = Value.ref a from r)
  obtain ⟨its, rv, p, hz⟩ := I.list h
  obtain ⟨as, ra⟩ := DpAll.reads I hs rv
  obtain ⟨o, e, c, n, d⟩ := p.isList
  exact ⟨_, .list e c d (by simpa using ra)⟩
 | _, _, u, .tup (a := a) h hs, r => by
  cases (show u = Value.ref a from r)
  obtain ⟨its, rv, p, hz⟩ := I.tuple h
  obtain ⟨as, ra⟩ := DpAll.reads I hs rv
  obtain ⟨o, e, c, n, d⟩ := p
  exact ⟨_, .tuple e c d (by simpa using ra)⟩
theorem DpAll.reads (I : Inv X pins σ H s) : ∀ {vs : List V} {ds : List PyData} {us : List Value}, DpAll X.K H vs ds -> cG vs us -> ∃ as, ReadsAll s.heap us ds as
 | _, _, _, .nil, .nil => ⟨_, .nil⟩
 | _, _, _, .cons h hs, .cons r rs => by
  obtain ⟨as, ra⟩ := Dp.reads I h r
  obtain ⟨bs, rb⟩ := DpAll.reads I hs rs
  exact ⟨_, .cons ra rb⟩
end
end
section
variable {X : Cx}
noncomputable def ys4 (K : tz0) (neg : Bool) : R2 := fun x y H Q => ∃ d e, Dp K H x d /\ Dp K H y e /\ d.canLay0 = true /\ e.canLay0 = true /\ d.depth <= 60 /\ Q (.bl (if neg then !PyData.eqv d e else PyData.eqv d e)) H
theorem yp1 (hu : X.A.units + 64 < cLine) : OpR X (compareOp .Eq) (ys4 X.K false) := by
 intro pins s σ H x y v u Q I rx ry h
 obtain ⟨d, e, hx, hy, cx, cy, dz, q⟩ := h
 obtain ⟨as, ra⟩ := hx.reads I rx
 obtain ⟨bs, rb⟩ := hy.reads I ry
 exact SeqAt.compareEq_reads ra rb cx cy (by have := Nat.min_le_left d.depth e.depth; omega) ⟨.bl _, H, I, rfl, q⟩
theorem yp2 (hu : X.A.units + 64 < cLine) : OpR X (compareOp .NotEq) (ys4 X.K true) := by
 intro pins s σ H x y v u Q I rx ry h
 obtain ⟨d, e, hx, hy, cx, cy, dz, q⟩ := h
 obtain ⟨as, ra⟩ := hx.reads I rx
 obtain ⟨bs, rb⟩ := hy.reads I ry
 exact SeqAt.compareNe_reads ra rb cx cy (by have := Nat.min_le_left d.depth e.depth; omega) ⟨.bl _, H, I, rfl, q⟩
end
section
variable {prog : Program} {w : World} {A : Around} {E : Value -> Shared -> Prop} {s : Shared} {env : Env}
theorem zl3 {l : Addr} {items : Array Value} {elts : List Expr} {k : Nat} {pos : Pos} {Q : Unit -> Shared -> Prop} (hh : A.handled = none) (hl : s.heap.IsList l items) (hn : (assignEach elts env).length = items.size)
  (hstar : (assignEach elts env).findIdx? (·.1) = none) (h : ∀ h', Heap.ExtBut s.heap.objs.size s.heap h' -> wpAny (model prog w) A (assignInOrder ((assignEach elts env).map (·.2)) items.toList) Q E { s with heap := h' }) :
  wpAny (model prog w) A (assign (.Tuple elts k pos) env (.ref l)) Q E s := by
 rw [assign_Tuple]
 refine wpAny_bind (wpAny_standAt ?_)
 unfold unpack
 rw [hn, hstar]
 exact wpAny_bind (wpAny_holding (PySem.W.kun_itemsOf hh hl h))
end
section
variable {X : Cx} {pos : Pos}
noncomputable def ys5 (K : tz0) (n : Nat) (t : TGs) : TG := fun v σ H Q => ∃ a xs, v = .ref a /\ SqL K H a xs /\ xs.length = n /\ t xs σ H Q
theorem yp3 {es : List Expr} {k : Nat} {t : TGs} {n : Nat} (hc : X.calm = true) (h : PGs X es t)
  (hn : (assignEach es X.env).length = n := by rfl) (hst : (assignEach es X.env).findIdx? (·.1) = none := by rfl) : PG X (.Tuple es k pos) (ys5 X.K n t) := by
 intro pins s σ H v u Q I r hw
 obtain ⟨a, xs, e1, hq, hl, hw⟩ := hw
 subst e1
 cases r
 obtain ⟨its, rv, ht, hz⟩ := I.list hq
 refine zl3 (I.ok.hd hc) ht.isList (by simp [hn, <- hl, rv.length]) hst fun h' hx => ?_
 have I1 : Inv X pins σ H { s with heap := h' } := I.kept (t' := s.toks) fun b o e => hx b o (Nat.ne_of_lt (Heap.lt_size e)) e
 exact h pins _ σ H xs _ Q I1 (by simpa using rv) hw
end
inductive AreC : List Expr -> List V -> Prop
 | nil : AreC [] []
 | int {i : Int} {j : Nat} {pos : Pos} {es : List Expr} {vs : List V} : AreC es vs -> AreC (.Constant (.int i) j pos :: es) (.int i :: vs)
 | str {x : Str} {j : Nat} {pos : Pos} {es : List Expr} {vs : List V} : AreC es vs -> AreC (.Constant (.str x) j pos :: es) (.str x :: vs)
 | bl {b : Bool} {j : Nat} {pos : Pos} {es : List Expr} {vs : List V} : AreC es vs -> AreC (.Constant (.bool b) j pos :: es) (.bl b :: vs)
 | non {j : Nat} {pos : Pos} {es : List Expr} {vs : List V} : AreC es vs -> AreC (.Constant .none j pos :: es) (.non :: vs)
noncomputable def yN (vs : List V) : TA := fun _ H Q => Q vs H
theorem zx0 {X : Cx} {es : List Expr} {vs : List V} (h : AreC es vs) : PA X es (yN vs) := by
 induction h with
 | nil => exact mW
 | int _ ih => exact fun pos pins s σ H Q I q => gG (t := yN _) iK ih rfl pos pins s σ H Q I q
 | str _ ih => exact fun pos pins s σ H Q I q => gG (t := yN _) zu7 ih rfl pos pins s σ H Q I q
 | bl _ ih => exact fun pos pins s σ H Q I q => gG (t := yN _) yg7 ih rfl pos pins s σ H Q I q
 | non _ ih => exact fun pos pins s σ H Q I q => gG (t := yN _) zu6 ih rfl pos pins s σ H Q I q
set_option genInjectivity true in
inductive D where
 | non | bl (b : Bool) | int (i : Int) | str (x : Str) | ty (n : String)
 | tup (xs : List D) | con (xs : List D) | lst (o : Bool) (xs : List D) | dic (o : Bool) (ks : List Key) (vs : List D) | obj (o : Bool) (C : Str) (ns : List Str) (vs : List D)
mutual
noncomputable def D.imm : D -> Bool
 | .tup xs => D.imms xs
 | .con xs => D.imms xs
 | .lst o xs => !o && D.imms xs
 | .dic o _ vs => !o && D.imms vs
 | .obj o _ _ vs => !o && D.imms vs
 | _ => true
noncomputable def D.imms : List D -> Bool
 | [] => true
 | d :: ds => d.imm && D.imms ds
end
noncomputable def kd : HO -> Bool
 | .lst _ => true
 | .tup _ => true
 | .dK _ => true
 | .ins _ _ _ => true
 | .frz _ _ => true
 | _ => false
noncomputable def tf : HO -> Bool
 | .tup _ => true
 | .frz _ _ => true
 | _ => false
theorem mH {o : HO} (h : tf o = true) : kd o = true := by cases o <;> first | rfl | cases h
noncomputable def SqF (K : tz0) (H : Hp) (a : Addr) (xs : List V) : Prop := (∃ o, H a = some (.frz o (.lst xs))) \/
 ∃ (o : Obj) (its : Array Value) (n : Nat), K.lookup a = some o /\ o.cls = .type "list" /\ o.dict = none /\ o.data = .seq its n /\ its.size <= sizeLine /\ cG xs its.toList
mutual
inductive Rep (K : tz0) (U : tz9) (H : Hp) : V -> D -> List Addr -> Prop
 | non : Rep K U H .non .non []
 | bl (b : Bool) : Rep K U H (.bl b) (.bl b) []
 | int (i : Int) : Rep K U H (.int i) (.int i) []
 | str (x : Str) : Rep K U H (.str x) (.str x) []
 | ty (n : String) : Rep K U H (.ty n) (.ty n) []
 | tup {a : Addr} {vs : List V} {ds : List D} : SqT K H a vs -> Reps K U H vs ds [] -> Rep K U H (.ref a) (.tup ds) []
 | con {a : Addr} {vs : List V} {ds : List D} : SqF K H a vs -> Reps K U H vs ds [] -> Rep K U H (.ref a) (.con ds) []
 | lst {a : Addr} {vs : List V} {ds : List D} {fp : List Addr} : H a = some (.lst vs) -> Reps K U H vs ds fp -> Rep K U H (.ref a) (.lst true ds) (a :: fp)
 | lstF {a : Addr} {o : Obj} {vs : List V} {ds : List D} : H a = some (.frz o (.lst vs)) -> Reps K U H vs ds [] -> Rep K U H (.ref a) (.lst false ds) []
 | dic {a : Addr} {kvs : List (Key × V)} {ks : List Key} {ds : List D} {fp : List Addr} : H a = some (.dK kvs) -> kvs.map (·.1) = ks -> Reps K U H (kvs.map (·.2)) ds fp -> Rep K U H (.ref a) (.dic true ks ds) (a :: fp)
 | dicF {a : Addr} {o : Obj} {kvs : List (Key × V)} {ks : List Key} {ds : List D} : H a = some (.frz o (.dK kvs)) -> kvs.map (·.1) = ks -> Reps K U H (kvs.map (·.2)) ds [] -> Rep K U H (.ref a) (.dic false ks ds) []
 | obj {a dx : Addr} {C : Str} {fs : List (Str × V)} {ns : List Str} {ds : List D} {fp : List Addr} : H a = some (.ins (U C) dx fs) -> fs.map (·.1) = ns -> Reps K U H (fs.map (·.2)) ds fp -> Rep K U H (.ref a) (.obj true C ns ds) (a :: fp)
 | objF {a dx : Addr} {o : Obj} {C : Str} {fs : List (Str × V)} {ns : List Str} {ds : List D} : H a = some (.frz o (.ins (U C) dx fs)) -> fs.map (·.1) = ns -> Reps K U H (fs.map (·.2)) ds [] -> Rep K U H (.ref a) (.obj false C ns ds) []
inductive Reps (K : tz0) (U : tz9) (H : Hp) : List V -> List D -> List Addr -> Prop
 | nil : Reps K U H [] [] []
 | cons {v : V} {vs : List V} {d : D} {ds : List D} {f g : List Addr} : Rep K U H v d f -> Reps K U H vs ds g -> Reps K U H (v :: vs) (d :: ds) (f ++ g)
end
section
variable {K : tz0} {U : tz9} {H H' : Hp}
theorem SqT.tf (t : ∀ a o, H a = some o -> tf o = true -> H' a = some o) {a : Addr} {xs : List V} (h : SqT K H a xs) : SqT K H' a xs := by
 rcases h with (h | ⟨o, h⟩) | h
 ·exact .inl (.inl (t _ _ h rfl))
 ·exact .inl (.inr ⟨o, t _ _ h rfl⟩)
 ·exact .inr h
theorem SqF.tf (t : ∀ a o, H a = some o -> tf o = true -> H' a = some o) {a : Addr} {xs : List V} (h : SqF K H a xs) : SqF K H' a xs := h.elim (fun ⟨o, h⟩ => .inl ⟨o, t _ _ h rfl⟩) .inr
theorem SqF.l {a : Addr} {xs : List V} (h : SqF K H a xs) : SqL K H a xs := h.elim (fun ⟨o, h⟩ => .inl (.inr ⟨o, h⟩)) .inr
theorem hV {P : Addr -> Prop} : ∀ a ∈ ([] : List Addr), P a := fun _ h => nomatch h
theorem Reps.move (t : ∀ a o, H a = some o -> tf o = true -> H' a = some o) {vs : List V} {ds : List D} {fp : List Addr} (h : Reps K U H vs ds fp) : (∀ a ∈ fp, H' a = H a) -> Reps K U H' vs ds fp :=
 Reps.rec (motive_1 := fun v d fp _ => (∀ a ∈ fp, H' a = H a) -> Rep K U H' v d fp) (motive_2 := fun vs ds fp _ => (∀ a ∈ fp, H' a = H a) -> Reps K U H' vs ds fp)
  (fun _ => .non) (fun b _ => .bl b) (fun b _ => .int b) (fun b _ => .str b) (fun b _ => .ty b) (fun h _ ih _ => .tup (h.tf t) (ih hV)) (fun h _ ih _ => .con (h.tf t) (ih hV))
  (fun h _ ih k => .lst ((k _ List.mem_cons_self).trans h) (ih fun a ha => k a (List.mem_cons_of_mem _ ha))) (fun h _ ih _ => .lstF (t _ _ h rfl) (ih hV))
  (fun h e _ ih k => .dic ((k _ List.mem_cons_self).trans h) e (ih fun a ha => k a (List.mem_cons_of_mem _ ha))) (fun h e _ ih _ => .dicF (t _ _ h rfl) e (ih hV))
  (fun h e _ ih k => .obj ((k _ List.mem_cons_self).trans h) e (ih fun a ha => k a (List.mem_cons_of_mem _ ha))) (fun h e _ ih _ => .objF (t _ _ h rfl) e (ih hV))
  (fun _ => .nil) (fun _ _ i1 i2 k => .cons (i1 fun a ha => k a (List.mem_append_left _ ha)) (i2 fun a ha => k a (List.mem_append_right _ ha))) h
theorem Reps.nil_fp {vs : List V} {fp : List Addr} (h : Reps K U H vs [] fp) : vs = [] /\ fp = [] := by cases h; exact ⟨rfl, rfl⟩
theorem Reps.one_inv {vs : List V} {d : D} {fp : List Addr} (r : Reps K U H vs [d] fp) : ∃ v, vs = [v] /\ Rep K U H v d fp := by
 cases r with
 | cons h hs =>
  obtain ⟨rfl, rfl⟩ := hs.nil_fp
  exact ⟨_, rfl, by rw [List.append_nil]; exact h⟩
theorem Reps.one {v : V} {d : D} {f : List Addr} (h : Rep K U H v d f) : Reps K U H [v] [d] f := by have := Reps.cons h (Reps.nil (K := K) (U := U) (H := H)); rwa [List.append_nil] at this
theorem Rep.move (t : ∀ a o, H a = some o -> tf o = true -> H' a = some o) {v : V} {d : D} {fp : List Addr} (h : Rep K U H v d fp) (k : ∀ a ∈ fp, H' a = H a) : Rep K U H' v d fp := by
 obtain ⟨u, e, r⟩ := ((Reps.one h).move t k).one_inv
 cases e; exact r
theorem Reps.own {vs : List V} {ds : List D} {fp : List Addr} (h : Reps K U H vs ds fp) : ∀ a ∈ fp, ∃ o, H a = some o /\ kd o = true /\ tf o = false :=
 Reps.rec (motive_1 := fun _ _ fp _ => ∀ a ∈ fp, ∃ o, H a = some o /\ kd o = true /\ tf o = false) (motive_2 := fun _ _ fp _ => ∀ a ∈ fp, ∃ o, H a = some o /\ kd o = true /\ tf o = false)
  hV (fun _ => hV) (fun _ => hV) (fun _ => hV) (fun _ => hV) (fun _ _ _ => hV) (fun _ _ _ => hV)
  (fun h _ ih a ha => (List.mem_cons.mp ha).elim (fun e => e ▸ ⟨_, h, rfl, rfl⟩) (ih a)) (fun _ _ _ => hV)
  (fun h _ _ ih a ha => (List.mem_cons.mp ha).elim (fun e => e ▸ ⟨_, h, rfl, rfl⟩) (ih a)) (fun _ _ _ _ => hV)
  (fun h _ _ ih a ha => (List.mem_cons.mp ha).elim (fun e => e ▸ ⟨_, h, rfl, rfl⟩) (ih a)) (fun _ _ _ _ => hV)
  hV (fun _ _ i1 i2 a ha => (List.mem_append.mp ha).elim (i1 a) (i2 a)) h
theorem Rep.own {v : V} {d : D} {fp : List Addr} (h : Rep K U H v d fp) : ∀ a ∈ fp, ∃ o, H a = some o /\ kd o = true /\ tf o = false := (Reps.one h).own
theorem Rep.imm {v : V} {d : D} {fp : List Addr} (h : Rep K U H v d fp) (e : d.imm = true) : fp = [] := by
 cases h <;> first | rfl | exact nomatch e
theorem Reps.imm : ∀ {vs : List V} {ds : List D} {fp : List Addr}, Reps K U H vs ds fp -> D.imms ds = true -> fp = []
 | _, _, _, .nil, _ => rfl
 | _, _, _, .cons h hs, e => by
  rw [D.imms, Bool.and_eq_true] at e
  rw [h.imm e.1, Reps.imm hs e.2]; rfl
theorem Reps.length : ∀ {vs : List V} {ds : List D} {fp : List Addr}, Reps K U H vs ds fp -> vs.length = ds.length
 | _, _, _, .nil => rfl
 | _, _, _, .cons _ hs => by rw [List.length_cons, List.length_cons, Reps.length hs]
theorem Reps.get : ∀ {vs : List V} {ds : List D} {fp : List Addr} {i : Nat} {d : D}, Reps K U H vs ds fp -> ds[i]? = some d -> ∃ v f, vs[i]? = some v /\ Rep K U H v d f /\ ∀ a ∈ f, a ∈ fp
 | _, _, _, _, _, .nil, e => by simp at e
 | _, _, _, 0, _, .cons h _, e => by simp at e; subst e; exact ⟨_, _, rfl, h, fun a ha => List.mem_append_left _ ha⟩
 | _, _, _, i + 1, _, .cons _ hs, e => by
  obtain ⟨v, f, h1, h2, h3⟩ := Reps.get (i := i) hs (by simpa using e)
  exact ⟨v, f, by simpa using h1, h2, fun a ha => List.mem_append_right _ (h3 a ha)⟩
theorem Reps.append : ∀ {vs : List V} {ds : List D} {f : List Addr} {us : List V} {es : List D} {g : List Addr}, Reps K U H vs ds f -> Reps K U H us es g -> Reps K U H (vs ++ us) (ds ++ es) (f ++ g)
 | _, _, _, _, _, _, .nil, r => r
 | _, _, _, _, _, _, .cons h hs, r => by rw [List.append_assoc]; exact .cons h (Reps.append hs r)
theorem Reps.split : ∀ {vs : List V} {d : D} {ds : List D} {fp : List Addr}, Reps K U H vs (d :: ds) fp -> ∃ v us f g, vs = v :: us /\ Rep K U H v d f /\ Reps K U H us ds g /\ fp = f ++ g
 | _, _, _, _, .cons h hs => ⟨_, _, _, _, rfl, h, hs, rfl⟩
theorem Reps.nilp : ∀ {vs : List V} {ds : List D}, Reps K U H vs ds [] -> Paired (fun v d => Rep K U H v d []) vs ds := by
 intro vs ds h
 generalize e : ([] : List Addr) = fp at h
 induction h using Reps.rec (motive_1 := fun _ _ _ _ => True) with
 | nil => exact .nil
 | cons h hs _ ih =>
  obtain ⟨e1, e2⟩ := List.append_eq_nil_iff.mp e.symm
  subst e1; subst e2
  exact .cons h (ih rfl)
 | _ => trivial
theorem Reps.ofp : ∀ {vs : List V} {ds : List D}, Paired (fun v d => Rep K U H v d []) vs ds -> Reps K U H vs ds []
 | _, _, .nil => .nil
 | _, _, .cons h hs => .cons (f := []) (g := []) h (Reps.ofp hs)
end
theorem Paired.app {α β : Type} {R : α -> β -> Prop} : ∀ {l₁ : List α} {l₂ : List β} {m₁ : List α} {m₂ : List β}, Paired R l₁ l₂ -> Paired R m₁ m₂ -> Paired R (l₁ ++ m₁) (l₂ ++ m₂)
 | _, _, _, _, .nil, r => r
 | _, _, _, _, .cons h t, r => .cons h (Paired.app t r)
structure SameK (H H' : Hp) : Prop where
 keep : ∀ a o, H a = some o -> kd o = true -> H' a = some o
 grow : ∀ a, H' a = none -> H a = none
theorem SameK.refl (H : Hp) : SameK H H := ⟨fun _ _ h _ => h, fun _ h => h⟩
theorem SameK.trans {H H1 H2 : Hp} (a : SameK H H1) (b : SameK H1 H2) : SameK H H2 := ⟨fun c o h k => b.keep c o (a.keep c o h k) k, fun c h => a.grow c (b.grow c h)⟩
theorem SameK.of {H H' : Hp} (h : zu0 H H') : SameK H H' := ⟨fun a o e _ => h a o e, fun a e => h.free e⟩
theorem SameK.new {H : Hp} {p : Addr} (h : H p = none) (o : HO) : SameK H (upd H p o) := .of (yc8 h o)
section
variable {K : tz0} {U : tz9} {H H' : Hp}
theorem Rep.same (e : SameK H H') {v : V} {d : D} {fp : List Addr} (r : Rep K U H v d fp) : Rep K U H' v d fp :=
 r.move (fun a o h t => e.keep a o h (mH t)) fun a ha => by obtain ⟨o, h, k, _⟩ := r.own a ha; rw [h]; exact e.keep a o h k
theorem Reps.same (e : SameK H H') {v : List V} {d : List D} {fp : List Addr} (r : Reps K U H v d fp) : Reps K U H' v d fp :=
 r.move (fun a o h t => e.keep a o h (mH t)) fun a ha => by obtain ⟨o, h, k, _⟩ := r.own a ha; rw [h]; exact e.keep a o h k
end
theorem PE.imp {X : Cx} {e : Expr} {t t' : TE} (h : PE X e t) (k : ∀ σ H Q, t' σ H Q -> t σ H Q) : PE X e t' := fun pins s σ H Q I q => h pins s σ H Q I (k σ H Q q)
theorem PT.imp {X : Cx} {e : Expr} {t t' : TT} (h : PT X e t) (k : ∀ σ H Q, t' σ H Q -> t σ H Q) : PT X e t' := fun pins s σ H Q I q => h pins s σ H Q I (k σ H Q q)
theorem PW.imp {X : Cx} {e : Expr} {t t' : TT} (h : PW X e t) (k : ∀ σ H Q, t' σ H Q -> t σ H Q) : PW X e t' := fun wh pins s σ H Q I q => h wh pins s σ H Q I (k σ H Q q)
theorem PA.imp {X : Cx} {e : List Expr} {t t' : TA} (h : PA X e t) (k : ∀ σ H Q, t' σ H Q -> t σ H Q) : PA X e t' := fun pos pins s σ H Q I q => h pos pins s σ H Q I (k σ H Q q)
theorem PS.imp {X : Cx} {st : Stmt} {t t' : TS} (h : PS X st t) (k : ∀ D σ H, t' D σ H -> t D σ H) : PS X st t' := fun pins s σ H D I q => h pins s σ H D I (k D σ H q)
theorem PSs.imp {X : Cx} {st : List Stmt} {t t' : TS} (h : PSs X st t) (k : ∀ D σ H, t' D σ H -> t D σ H) : PSs X st t' := fun pins s σ H D I q => h pins s σ H D I (k D σ H q)
noncomputable abbrev PSt := List (Option D)
noncomputable abbrev _root_.tz7 := List D -> Option (D × List D)
noncomputable abbrev _root_.tz8 := PSt -> Option (D × PSt)
noncomputable abbrev _root_.tz3 := PSt -> Option (List D)
noncomputable abbrev _root_.tz4 := PSt -> Option Bool
noncomputable abbrev _root_.tz6 := List D -> Option D
noncomputable abbrev _root_.tz2 := PSt -> Option D
noncomputable abbrev _root_.tz5 := PSt -> Bool
noncomputable def WS (K : tz0) (U : tz9) (H : Hp) (σ : St) (ps : PSt) : Prop := ∀ (i : Nat) (d : D), ps[i]? = some (some d) -> ∃ v fp, σ[i]? = some (some v) /\ Rep K U H v d fp
theorem WS.same {K : tz0} {U : tz9} {H H' : Hp} {σ : St} {ps : PSt} (w : WS K U H σ ps) (e : SameK H H') : WS K U H' σ ps := fun i d h => by
 obtain ⟨v, fp, h1, h2⟩ := w i d h
 exact ⟨v, fp, h1, h2.same e⟩
noncomputable def kW (K : tz0) (U : tz9) (H : Hp) (d : D) (Q : VK) : Prop := ∀ v H' fv, SameK H H' -> (∀ a ∈ fv, H a = none) -> fv.Nodup -> Rep K U H' v d fv -> Q v H'
noncomputable def ys6 (K : tz0) (U : tz9) (H : Hp) (d : D) (Q : VK) : Prop := ∀ v H' fp, SameK H H' -> Rep K U H' v d fp -> Q v H'
noncomputable def tV (K : tz0) (U : tz9) (f : tz2) : TE := fun σ H Q => ∃ ps d, WS K U H σ ps /\ f ps = some d /\ ys6 K U H d Q
noncomputable def tP (K : tz0) (U : tz9) (f : tz2) : TE := fun σ H Q => ∃ ps d, WS K U H σ ps /\ f ps = some d /\ kW K U H d Q
noncomputable def tQ (K : tz0) (U : tz9) (f : tz4) : TT := fun σ H Q => ∃ ps b, WS K U H σ ps /\ f ps = some b /\ ∀ H', SameK H H' -> Q b H'
noncomputable def tVA (K : tz0) (U : tz9) (f : tz3) : TA := fun σ H Q => ∃ ps ds, WS K U H σ ps /\ f ps = some ds /\ ∀ vs H' fp, SameK H H' -> Reps K U H' vs ds fp -> Q vs H'
noncomputable def tPA (K : tz0) (U : tz9) (f : tz3) : TA := fun σ H Q => ∃ ps ds, WS K U H σ ps /\ f ps = some ds /\ ∀ vs H' fv, SameK H H' -> (∀ a ∈ fv, H a = none) -> fv.Nodup -> Reps K U H' vs ds fv -> Q vs H'
noncomputable abbrev QV (X : Cx) (U : tz9) (e : Expr) (f : tz2) : Prop := PE X e (tV X.K U f)
noncomputable abbrev QP (X : Cx) (U : tz9) (e : Expr) (f : tz2) : Prop := PE X e (tP X.K U f)
noncomputable abbrev QT (X : Cx) (U : tz9) (e : Expr) (f : tz4) : Prop := PT X e (tQ X.K U f)
noncomputable abbrev QW (X : Cx) (U : tz9) (e : Expr) (f : tz4) : Prop := PW X e (tQ X.K U f)
noncomputable abbrev QVA (X : Cx) (U : tz9) (es : List Expr) (f : tz3) : Prop := PA X es (tVA X.K U f)
noncomputable abbrev QPA (X : Cx) (U : tz9) (es : List Expr) (f : tz3) : Prop := PA X es (tPA X.K U f)
theorem kW.see {K : tz0} {U : tz9} {H : Hp} {d : D} {Q : VK} (h : ys6 K U H d Q) : kW K U H d Q := fun v H' fv s _ _ r => h v H' fv s r
theorem kW.after {K : tz0} {U : tz9} {H H1 : Hp} {d : D} {Q : VK} (h : kW K U H d Q) (s : SameK H H1) : kW K U H1 d Q :=
 fun v H' fv s' n nd r => h v H' fv (s.trans s') (fun a ha => s.grow a (n a ha)) nd r
theorem kW.now {K : tz0} {U : tz9} {H : Hp} {d : D} {Q : VK} {v : V} (h : kW K U H d Q) (r : Rep K U H v d []) : Q v H := h v H [] (.refl H) (fun _ h => absurd h (by simp)) List.nodup_nil r
theorem kW.at {K : tz0} {U : tz9} {H : Hp} {d : D} {Q : VK} {p : Addr} {o : HO} {fv : List Addr} (h : kW K U H d Q) (hp : H p = none) (hn : ∀ a ∈ fv, H a = none) (nd : fv.Nodup) (r : Rep K U (upd H p o) (.ref p) d fv) : Q (.ref p) (upd H p o) :=
 h _ _ fv (.new hp o) hn nd r
section
variable {X : Cx} {U : tz9} {e a b : Expr} {f fa fb : tz2}
theorem QP.v (h : QP X U e f) : QV X U e f := h.imp fun _ _ _ ⟨ps, d, w, e, q⟩ => ⟨ps, d, w, e, .see q⟩
noncomputable def aX (f : tz2) : tz2 := fun ps => (f ps).bind fun d => if d.imm = true then some d else none
theorem QV.p (h : QV X U e f) : QP X U e (aX f) := h.imp fun σ H Q hh_ => by
 obtain ⟨ps, d, w, e, q⟩ := hh_
 unfold aX at e
 cases e1 : f ps with
 | none => rw [e1] at e; cases e
 | some d1 =>
  rw [e1] at e
  by_cases hi : d1.imm = true
  ·have e2 : d1 = d := by simpa [hi] using e
   subst e2
   refine ⟨ps, d1, w, e1, fun v H' fp s r => ?_⟩
   have := r.imm hi; subst this
   exact q v H' [] s (fun _ h => absurd h (by simp)) List.nodup_nil r
  ·simp [hi] at e
noncomputable def aA (i : Nat) : tz2 := fun ps => (ps[i]?).join
theorem aC (i : Nat) {x : Str} {pos : Pos} (hN : X.N[i]? = some x := by rfl) (hv : Vis X.env.scope x := by first | exact Or.inl rfl | exact Or.inr (Or.inl rfl) | exact Or.inr (Or.inr rfl)) (hd : (x == ("__debug__" : Str)) = false := by decide)
  (hcd : (x == ("__classdict__" : Str)) = false := by decide) : QV X U (.Name x pos) (aA i) := (pM hN hv hd hcd).imp fun σ H Q hh_ => by
 obtain ⟨ps, d, w, e, q⟩ := hh_
 have e' : ps[i]? = some (some d) := by
  unfold aA at e
  cases q : ps[i]? with
  | none => rw [q] at e; cases e
  | some o => rw [q] at e; exact congrArg some e
 obtain ⟨v, fp, h1, h2⟩ := w i d e'
 exact ⟨v, h1, q v H fp (.refl H) h2⟩
noncomputable def fC (d : D) : tz2 := fun _ => some d
theorem aH {i j pos} : QP X U (.Constant (.int i) j pos) (fC (.int i)) := iK.imp fun σ H Q ⟨ps, d, w, e, q⟩ => by cases e; exact q _ H [] (.refl H) (fun _ h => absurd h (by simp)) List.nodup_nil (.int i)
theorem cC {x j pos} : QP X U (.Constant (.str x) j pos) (fC (.str x)) := zu7.imp fun σ H Q ⟨ps, d, w, e, q⟩ => by cases e; exact q _ H [] (.refl H) (fun _ h => absurd h (by simp)) List.nodup_nil (.str x)
theorem iW {b j pos} : QP X U (.Constant (.bool b) j pos) (fC (.bl b)) := yg7.imp fun σ H Q ⟨ps, d, w, e, q⟩ => by cases e; exact q _ H [] (.refl H) (fun _ h => absurd h (by simp)) List.nodup_nil (.bl b)
theorem tM {j pos} : QP X U (.Constant .none j pos) (fC .non) := zu6.imp fun σ H Q ⟨ps, d, w, e, q⟩ => by cases e; exact q _ H [] (.refl H) (fun _ h => absurd h (by simp)) List.nodup_nil .non
theorem zE {x : Str} {v : V} {u : Value} {d : D} {pos : Pos} (hg : Gl X x) (hm : X.mg x = some u) (r : cW v u) (hd : ∀ H, Rep X.K U H v d []) (hdb : (x == ("__debug__" : Str)) = false := by decide) : QP X U (.Name x pos) (fC d) :=
 (yi5 hg hm r hdb).imp fun σ H Q ⟨ps, d, w, e, q⟩ => by cases e; exact q _ H [] (.refl H) (fun _ h => absurd h (by simp)) List.nodup_nil (hd H)
theorem zr3 {x : Str} {n : String} {pos : Pos} (hg : Gl X x) (hm : X.mg x = none) (hv : bootBuiltins x = some (.type n)) (hn : x ≠ "__name__" := by decide) (hd : (x == ("__debug__" : Str)) = false := by decide) : QP X U (.Name x pos) (fC (.ty n)) :=
 (yi6 (v := .ty n) hg hm hv rfl hn hd).imp fun σ H Q ⟨ps, d, w, e, q⟩ => by cases e; exact q _ H [] (.refl H) (fun _ h => absurd h (by simp)) List.nodup_nil (.ty n)
noncomputable def f2 (g : D -> D -> Option D) (fa fb : tz2) : tz2 := fun ps => (fa ps).bind fun x => (fb ps).bind fun y => g x y
noncomputable def POp (K : tz0) (U : tz9) (g : D -> D -> Option D) : R2 := fun x y H Q => ∃ dx dy d fx fy, Rep K U H x dx fx /\ Rep K U H y dy fy /\ g dx dy = some d /\ kW K U H d Q
theorem zF {g : D -> D -> Option D} {fa fb : tz2} {ps : PSt} {d : D} (h : f2 g fa fb ps = some d) : ∃ x y, fa ps = some x /\ fb ps = some y /\ g x y = some d := by
 unfold f2 at h
 cases e1 : fa ps with
 | none => rw [e1] at h; cases h
 | some x =>
  rw [e1] at h
  cases e2 : fb ps with
  | none => rw [e2] at h; cases h
  | some y => rw [e2] at h; exact ⟨x, y, rfl, rfl, h⟩
theorem zf7 {r : R2} {g : D -> D -> Option D} {σ : St} {H : Hp} {Q : VK} (hr : ∀ x y H Q, POp X.K U g x y H Q -> r x y H Q) (h : tP X.K U (f2 g fa fb) σ H Q) : tOp r (tV X.K U fa) (tV X.K U fb) σ H Q := by
 obtain ⟨ps, d, w, e, q⟩ := h
 obtain ⟨x, y, e1, e2, e3⟩ := zF e
 exact ⟨ps, x, w, e1, fun v H1 fp s1 r1 => ⟨ps, y, w.same s1, e2, fun u H2 fq s2 r2 => hr _ _ _ _ ⟨x, y, d, fp, fq, r1.same s2, r2, e3, q.after (s1.trans s2)⟩⟩⟩
theorem bS {op : Operator} {g : D -> D -> Option D} {pos : Pos} (ho : OpR X (binaryOp op) (POp X.K U g)) (ha : QV X U a fa) (hb : QV X U b fb) : QP X U (.BinOp a op b pos) (f2 g fa fb) :=
 (gM ho ha hb).imp fun _ _ _ h => zf7 (fun _ _ _ _ h => h) h
theorem rL {op : CmpOp} {g : D -> D -> Option D} {pos : Pos} (ho : OpR X (compareOp op) (POp X.K U g)) (ha : QV X U a fa) (hb : QV X U b fb) (hm : behindInMarks op b = false) : QP X U (.Compare a [op] [b] pos) (f2 g fa fb) :=
 (zm7 ho ha hb hm).imp fun _ _ _ h => zf7 (fun _ _ _ _ h => h) h
noncomputable def dB : D -> Option Bool
 | .bl b => some b
 | _ => none
noncomputable def fB (f : tz2) : tz4 := fun ps => (f ps).bind dB
theorem yj5 {f : tz2} {ps : PSt} {b : Bool} (h : fB f ps = some b) : f ps = some (.bl b) := by
 unfold fB at h
 cases e : f ps with
 | none => rw [e] at h; cases h
 | some d => rw [e] at h; cases d <;> first | (cases h; rfl) | cases h
theorem Rep.is_bl {K : tz0} {H : Hp} {v : V} {b : Bool} {fp : List Addr} (r : Rep K U H v (.bl b) fp) : v = .bl b := by cases r; rfl
theorem Rep.is_int {K : tz0} {H : Hp} {v : V} {b : Int} {fp : List Addr} (r : Rep K U H v (.int b) fp) : v = .int b := by cases r; rfl
theorem Rep.is_str {K : tz0} {H : Hp} {v : V} {b : Str} {fp : List Addr} (r : Rep K U H v (.str b) fp) : v = .str b := by cases r; rfl
theorem cB {op : CmpOp} {g : D -> D -> Option D} {pos : Pos} (ho : OpR X (compareOp op) (POp X.K U g)) (ha : QV X U a fa) (hb : QV X U b fb) (hm : behindInMarks op b = false) : QT X U (.Compare a [op] [b] pos) (fB (f2 g fa fb)) :=
 (zm8 ho ha hb hm).imp fun σ H Q ⟨ps, c, w, e, q⟩ => zf7 (Q := fun x H' => ∃ k, x = .bl k /\ Q k H') (fun _ _ _ _ h => h) ⟨ps, _, w, yj5 e, fun v H' fv s _ _ r => ⟨c, r.is_bl, q H' s⟩⟩
noncomputable def cF : D -> Option Bool
 | .non => some false
 | .bl b => some b
 | .int i => some (i != 0)
 | .str y => if y.length <= sizeLine then some ((y.length : Int) != 0) else none
 | .lst _ xs => some (!xs.isEmpty)
 | .tup xs => some (!xs.isEmpty)
 | .con xs => some (!xs.isEmpty)
 | _ => none
theorem mX {K : tz0} {H : Hp} {vs : List V} {ds : List D} {fp : List Addr} (r : Reps K U H vs ds fp) : ds.isEmpty = vs.isEmpty := by cases r <;> rfl
theorem zn2 {K : tz0} {H : Hp} {v : V} {d : D} {fp : List Addr} {b : Bool} (r : Rep K U H v d fp) (h : cF d = some b) : yg4 K v H b := by
 cases r with
 | non => cases h; rfl
 | bl b => cases h; rfl
 | int i => cases h; rfl
 | str x =>
  rw [cF] at h
  split at h
  ·cases h; exact ⟨by assumption, rfl⟩
  ·cases h
 | tup s rs => cases h; exact .inr (.inl ⟨_, s, by rw [mX rs]⟩)
 | con s rs => cases h; exact .inl ⟨_, s.l, by rw [mX rs]⟩
 | lst s rs => cases h; exact .inl ⟨_, .inl (.inl s), by rw [mX rs]⟩
 | lstF s rs => cases h; exact .inl ⟨_, .inl (.inr ⟨_, s⟩), by rw [mX rs]⟩
 | _ => cases h
noncomputable def fT (f : tz2) : tz4 := fun ps => (f ps).bind cF
theorem yj6 {f : tz2} {ps : PSt} {b : Bool} (h : fT f ps = some b) : ∃ d, f ps = some d /\ cF d = some b := by
 unfold fT at h
 cases e : f ps with
 | none => rw [e] at h; cases h
 | some d => rw [e] at h; exact ⟨d, rfl, h⟩
theorem fG (ha : QV X U a fa) (he : ∀ whole, isTrue a X.env whole = (do let v <- whole; standAt a.pos; holding [v] (truthy v)) := by intro _; rfl) : QT X U a (fT fa) :=
 (zf1 ha he).imp fun σ H Q hh_ => by
  obtain ⟨ps, c, w, e, q⟩ := hh_
  obtain ⟨d, e1, e2⟩ := yj6 e
  exact ⟨ps, d, w, e1, fun v H' fp s r => ⟨c, zn2 r e2, q H' s⟩⟩
noncomputable def cE (f g : tz4) : tz4 := fun ps => (f ps).bind fun c => if c = true then g ps else some false
noncomputable def dS (f g : tz4) : tz4 := fun ps => (f ps).bind fun c => if c = true then some true else g ps
noncomputable def cX (f : tz4) : tz4 := fun ps => (f ps).map (!·)
variable {pos : Pos} {rest : List Expr} {ta tb : tz4}
theorem iI (ha : QT X U a ta) : QW X U (.BoolOp .And [a] pos) ta := yi7 ha
theorem rM (ha : QT X U a ta) : QW X U (.BoolOp .Or [a] pos) ta := ym9 ha
theorem iX (ha : QT X U a ta) (hb : QW X U (.BoolOp .And (b :: rest) pos) tb) : QW X U (.BoolOp .And (a :: b :: rest) pos) (cE ta tb) :=
 (yn0 ha hb).imp fun σ H Q hh_ => by
  obtain ⟨ps, c, w, e, q⟩ := hh_
  unfold cE at e
  cases e1 : ta ps with
  | none => rw [e1] at e; cases e
  | some k =>
   rw [e1] at e
   refine ⟨ps, k, w, e1, fun H1 s1 => ?_⟩
   cases k with
   | true => rw [if_pos rfl]; exact ⟨ps, c, w.same s1, by simpa using e, fun H2 s2 => q H2 (s1.trans s2)⟩
   | false =>
    rw [if_neg Bool.false_ne_true]
    have : c = false := by simpa using e.symm
    subst this; exact q H1 s1
theorem uZ (ha : QT X U a ta) (hb : QW X U (.BoolOp .Or (b :: rest) pos) tb) : QW X U (.BoolOp .Or (a :: b :: rest) pos) (dS ta tb) :=
 (yt1 ha hb).imp fun σ H Q hh_ => by
  obtain ⟨ps, c, w, e, q⟩ := hh_
  unfold dS at e
  cases e1 : ta ps with
  | none => rw [e1] at e; cases e
  | some k =>
   rw [e1] at e
   refine ⟨ps, k, w, e1, fun H1 s1 => ?_⟩
   cases k with
   | true =>
    rw [if_pos rfl]
    have : c = true := by simpa using e.symm
    subst this; exact q H1 s1
   | false => rw [if_neg Bool.false_ne_true]; exact ⟨ps, c, w.same s1, by simpa using e, fun H2 s2 => q H2 (s1.trans s2)⟩
theorem kQ (h : QW X U a ta) : QT X U a ta := PW.pt h
theorem lW (ha : QT X U a ta) : QT X U (.UnaryOp .Not a pos) (cX ta) :=
 (zu8 ha).imp fun σ H Q hh_ => by
  obtain ⟨ps, c, w, e, q⟩ := hh_
  unfold cX at e
  cases e1 : ta ps with
  | none => rw [e1] at e; cases e
  | some k =>
   rw [e1] at e
   have : c = !k := by simpa using e.symm
   subst this
   exact ⟨ps, k, w, e1, fun H1 s1 => q H1 s1⟩
noncomputable def sT (f g : tz2) : tz2 := fun ps => (f ps).bind fun c => match c with
 | .bl true => g ps
 | .bl false => some (.bl false)
 | _ => none
noncomputable def fOr (f g : tz2) : tz2 := fun ps => (f ps).bind fun c => match c with
 | .bl true => some (.bl true)
 | .bl false => g ps
 | _ => none
theorem yh0 {d : D} {α : Type} {x y : Option α} {z : α} (h : (match d with | .bl true => x | .bl false => y | _ => none) = some z) : ∃ b, d = .bl b /\ (if b = true then x else y) = some z := by
 cases d with
 | bl b => cases b <;> exact ⟨_, rfl, h⟩
 | _ => cases h
theorem xL {op} (h : QP X U a fa) : QP X U (.BoolOp op [a] pos) fa := yn1 h
theorem zf8 (ha : QP X U a fa) (hb : QP X U (.BoolOp .And (b :: rest) pos) fb) : QP X U (.BoolOp .And (a :: b :: rest) pos) (sT fa fb) :=
 (yn2 ha hb).imp fun σ H Q hh_ => by
  obtain ⟨ps, d, w, e, q⟩ := hh_
  unfold sT at e
  cases e1 : fa ps with
  | none => rw [e1] at e; cases e
  | some k =>
   rw [e1] at e
   obtain ⟨c, rfl, e2⟩ := yh0 (x := fb ps) (y := some (.bl false)) e
   refine ⟨ps, _, w, e1, fun v H1 fv s1 _ _ r1 => ⟨c, r1.is_bl, ?_⟩⟩
   cases c with
   | true => rw [if_pos rfl] at e2 |-; exact ⟨ps, d, w.same s1, e2, q.after s1⟩
   | false =>
    rw [if_neg Bool.false_ne_true] at e2 |-
    cases e2; exact (q.after s1).now (.bl false)
theorem zr4 (ha : QP X U a fa) (hb : QP X U (.BoolOp .Or (b :: rest) pos) fb) : QP X U (.BoolOp .Or (a :: b :: rest) pos) (fOr fa fb) :=
 (yt2 ha hb).imp fun σ H Q hh_ => by
  obtain ⟨ps, d, w, e, q⟩ := hh_
  unfold fOr at e
  cases e1 : fa ps with
  | none => rw [e1] at e; cases e
  | some k =>
   rw [e1] at e
   obtain ⟨c, rfl, e2⟩ := yh0 (d := k) (x := some (D.bl true)) (y := fb ps) (z := d) e
   refine ⟨ps, _, w, e1, fun v H1 fv s1 _ _ r1 => ⟨c, r1.is_bl, ?_⟩⟩
   cases c with
   | true => rw [if_pos rfl] at e2 |-; cases e2; exact (q.after s1).now (.bl true)
   | false => rw [if_neg Bool.false_ne_true] at e2 |-; exact ⟨ps, d, w.same s1, e2, q.after s1⟩
noncomputable def eQ (f : tz2) : tz2 := fun ps => (f ps).bind fun c => match c with
 | .int i => some (.int (-i))
 | _ => none
theorem mY (ha : QV X U a fa) : QP X U (.UnaryOp .USub a pos) (eQ fa) :=
 (yt3 yn7 ha).imp fun σ H Q hh_ => by
  obtain ⟨ps, d, w, e, q⟩ := hh_
  unfold eQ at e
  cases e1 : fa ps with
  | none => rw [e1] at e; cases e
  | some k =>
   rw [e1] at e
   cases k with
   | int i => cases e; exact ⟨ps, _, w, e1, fun v H1 fp s1 r1 => ⟨i, r1.is_int, (q.after s1).now (.int _)⟩⟩
   | _ => cases e
end
section
variable {X : Cx} {U : tz9}
theorem Inv.lstR {pins : tzB} {σ : St} {H : Hp} {s : Shared} {l : Addr} {xs : List V} (I : Inv X pins σ H s) (h : Rd H l (.lst xs)) :
  xs.length <= sizeLine /\ ∃ (its : List Value) (n : Nat), cG xs its /\ xs.length = its.length /\ s.heap.get? l = some { cls := .type "list", data := .seq its.toArray n } := by
 obtain ⟨z, its, n, r, e⟩ := h.ok I.hok
 exact ⟨z, its, n, r, r.length, e⟩
theorem yj7 : OpR X (binaryOp .Add) (fun x y H Q => ∃ l b xs zs, x = .ref l /\ y = .ref b /\ Rd H l (.lst xs) /\ Rd H b (.lst zs) /\ xs.length + zs.length <= sizeLine /\ ∀ p, H p = none -> Q (.ref p) (upd H p (.lst (xs ++ zs)))) := by
 intro pins s σ H x y v u Q I rx ry h
 obtain ⟨l, b, xs, zs, rfl, rfl, hH, hB, hz, q⟩ := h
 cases rx
 cases ry
 obtain ⟨z, its, n, r, hl, e⟩ := I.lstR hH
 obtain ⟨z2, its2, n2, r2, hl2, e2⟩ := I.lstR hB
 refine PySem.P.add_list e e2 ?_ (by rw [List.size_toArray, List.size_toArray]; omega)
 have ea : its.toArray ++ its2.toArray = (its ++ its2).toArray := by simp
 rw [ea]
 exact ⟨.ref _, _, I.lnew (t' := s.toks) (r.append r2) (by rw [List.length_append]; omega), rfl, q _ I.fresh⟩
theorem yd0 : OpR X (binaryOp .Add) (fun x y H Q => ∃ a b ys, x = .ref a /\ y = .ref b /\ SqT X.K H a [] /\ SqT X.K H b ys /\ Q (.ref b) H) := by
 intro pins s σ H x y v u Q I rx ry h
 obtain ⟨a, b, ys, rfl, rfl, ha, hb, q⟩ := h
 cases rx
 cases ry
 obtain ⟨its, r1, p1, _⟩ := I.tuple ha
 obtain ⟨its2, r2, p2, _⟩ := I.tuple hb
 cases r1
 obtain ⟨⟨cls, dd, data, sl⟩, ho, hc, n, hd⟩ := id p1
 obtain ⟨⟨cls2, dd2, data2, sl2⟩, ho2, hc2, n2, hd2⟩ := id p2
 simp only at hc hd hc2 hd2
 subst hc hd hc2 hd2
 exact concat_meets ⟨_, ho, rfl⟩ ⟨_, ho2, rfl⟩ noFill_tuple_add seq_tuple_add PySem.F.slot_tuple_add PySem.F.entry_tuple_add (PySem.F.args_tuple_add_2 _ _)
   (tuple_addW0 a b _ _ n n2 dd dd2 sl sl2 rfl) ⟨ho, ho2, ⟨.ref b, H, I, rfl, q⟩⟩
theorem Rep.lst_inv {K : tz0} {H : Hp} {v : V} {o : Bool} {ds : List D} {fp : List Addr} (r : Rep K U H v (.lst o ds) fp) : ∃ a vs g, v = .ref a /\ Rd H a (.lst vs) /\ Reps K U H vs ds g /\ g.Sublist fp := by
 cases r with
 | lst h hs => exact ⟨_, _, _, rfl, .inl h, hs, List.sublist_cons_self _ _⟩
 | lstF h hs => exact ⟨_, _, _, rfl, .inr ⟨_, h⟩, hs, .refl _⟩
theorem Rep.lstT_inv {K : tz0} {H : Hp} {v : V} {ds : List D} {fp : List Addr} (r : Rep K U H v (.lst true ds) fp) : ∃ a vs g, v = .ref a /\ H a = some (.lst vs) /\ Reps K U H vs ds g /\ fp = a :: g := by
 cases r with
 | lst h hs => exact ⟨_, _, _, rfl, h, hs, rfl⟩
theorem Rep.objT_inv {K : tz0} {H : Hp} {v : V} {C : Str} {ns : List Str} {ds : List D} {fp : List Addr} (r : Rep K U H v (.obj true C ns ds) fp) : ∃ a dx fs g, v = .ref a /\ H a = some (.ins (U C) dx fs) /\ fs.map (·.1) = ns /\ Reps K U H (fs.map (·.2)) ds g /\ fp = a :: g := by
 cases r with
 | obj h e hs => exact ⟨_, _, _, _, rfl, h, e, hs, rfl⟩
theorem Rep.tup_inv {K : tz0} {H : Hp} {v : V} {ds : List D} {fp : List Addr} (r : Rep K U H v (.tup ds) fp) : ∃ a vs, v = .ref a /\ SqT K H a vs /\ Reps K U H vs ds [] := by
 cases r with
 | tup h hs => exact ⟨_, _, rfl, h, hs⟩
theorem Reps.pair {K : tz0} {H : Hp} {vs : List V} {ds : List D} {fp : List Addr} (r : Reps K U H vs ds fp) (h : D.imms ds = true) : Paired (fun v d => Rep K U H v d []) vs ds := by
 have e := r.imm h
 subst e
 exact r.nilp
theorem Rep.con_inv {K : tz0} {H : Hp} {v : V} {ds : List D} {fp : List Addr} (r : Rep K U H v (.con ds) fp) : ∃ a vs, v = .ref a /\ SqF K H a vs /\ Reps K U H vs ds [] := by
 cases r with
 | con h hs => exact ⟨_, _, rfl, h, hs⟩
theorem yj8 {K : tz0} {H : Hp} {vs : List V} {ds : List D} {Q : VK} {p : Addr} (hp : H p = none) (r : Paired (fun v d => Rep K U H v d []) vs ds) (q : kW K U H (.lst true ds) Q) : Q (.ref p) (upd H p (.lst vs)) :=
 q.at hp (fv := [p]) (fun a ha => by simp at ha; subst ha; exact hp) (by simp) (.lst eE ((Reps.ofp r).same (.new hp _)))
theorem zG {K : tz0} {H : Hp} {vs : List V} {ds : List D} {Q : VK} {p : Addr} (hp : H p = none) (r : Paired (fun v d => Rep K U H v d []) vs ds) (q : kW K U H (.tup ds) Q) : Q (.ref p) (upd H p (.tup vs)) :=
 q.at hp (fv := []) (fun a ha => by simp at ha) (by simp) (.tup (.inl (.inl eE)) ((Reps.ofp r).same (.new hp _)))
noncomputable def bG : D -> D -> Option D
 | .int i, .int j => some (.int (i + j))
 | .str x, .str y => if x.length + y.length <= sizeLine then some (.str (x ++ y)) else none
 | .lst _ xs, .lst _ ys => if (D.imms xs && D.imms ys && decide (xs.length + ys.length <= sizeLine)) = true then some (.lst true (xs ++ ys)) else none
 | .tup xs, .tup ys => if xs.length + ys.length <= sizeLine then some (.tup (xs ++ ys)) else none
 | _, _ => none
theorem bind_some {α β : Type} {o : Option α} {g : α -> Option β} {z : β} (h : o.bind g = some z) : ∃ x, o = some x /\ g x = some z := by
 cases o with
 | none => cases h
 | some x => exact ⟨x, rfl, h⟩
theorem cN {α : Type} {c : Prop} [Decidable c] {x : Option α} {z : α} (h : (if c then x else none) = some z) : c /\ x = some z := by
 by_cases k : c
 ·rw [if_pos k] at h; exact ⟨k, h⟩
 ·rw [if_neg k] at h; cases h
theorem fQ : OpR X (binaryOp .Add) (POp X.K U bG) := by
 rintro pins s σ H x y v u Q I rx ry ⟨dx, dy, d, fx, fy, r1, r2, e, q⟩
 unfold bG at e
 split at e
 ·rename_i i j
  cases e; exact rK pins s σ H x y v u Q I rx ry ⟨i, j, r1.is_int, r2.is_int, q.now (.int _)⟩
 ·rename_i i j
  obtain ⟨hc, e⟩ := cN e
  cases e; exact zq0 pins s σ H x y v u Q I rx ry ⟨i, j, r1.is_str, r2.is_str, hc, q.now (.str _)⟩
 ·rename_i o xs o' ys
  obtain ⟨hc, e⟩ := cN e
  simp only [Bool.and_eq_true, decide_eq_true_eq] at hc
  cases e
  obtain ⟨a, vs, g, rfl, h1, s1, _⟩ := r1.lst_inv
  obtain ⟨b, us, g', rfl, h2, s2, _⟩ := r2.lst_inv
  exact yj7 pins s σ H _ _ v u Q I rx ry ⟨a, b, vs, us, rfl, rfl, h1, h2, by rw [s1.length, s2.length]; exact hc.2, fun p hp => yj8 hp (Paired.app (s1.pair hc.1.1) (s2.pair hc.1.2)) q⟩
 ·rename_i xs ys
  obtain ⟨hc, e⟩ := cN e
  cases e
  obtain ⟨a, vs, rfl, h1, s1⟩ := r1.tup_inv
  obtain ⟨b, us, rfl, h2, s2⟩ := r2.tup_inv
  have l1 := s1.length; have l2 := s2.length
  cases vs with
  | nil =>
   cases s1
   exact yd0 pins s σ H _ _ v u Q I rx ry ⟨a, b, us, rfl, rfl, h1, h2, q.now (.tup h2 s2)⟩
  | cons w ws =>
   refine yj1 pins s σ H _ _ v u Q I rx ry ⟨a, b, _, us, rfl, rfl, h1, h2, by simp, by omega, fun z => ?_, fun z p hp => zG hp (Paired.app s1.nilp s2.nilp) q⟩
   subst z
   cases s2
   rw [List.append_nil] at q
   exact q.now (.tup h1 s1)
 ·cases e
noncomputable def dII (C : Int -> Int -> Bool) (g : Int -> Int -> D) : D -> D -> Option D
 | .int i, .int j => if C i j = true then some (g i j) else none
 | _, _ => none
theorem zf9 {C : Int -> Int -> Bool} {g : Int -> Int -> D} {x y d : D} (h : dII C g x y = some d) : ∃ i j, x = .int i /\ y = .int j /\ C i j = true /\ d = g i j := by
 unfold dII at h
 split at h
 ·obtain ⟨hc, h⟩ := cN h
  cases h; exact ⟨_, _, rfl, rfl, hc, rfl⟩
 ·cases h
noncomputable def fI : D -> D -> Option D
 | .int i, .int j => some (.int (i - j))
 | _, _ => none
theorem sB : OpR X (binaryOp .Sub) (POp X.K U fI) := by
 rintro pins s σ H x y v u Q I rx ry ⟨dx, dy, d, fx, fy, r1, r2, e, q⟩
 unfold fI at e
 split at e
 ·rename_i i j
  cases e; exact yn5 pins s σ H x y v u Q I rx ry ⟨i, j, r1.is_int, r2.is_int, q.now (.int _)⟩
 ·cases e
noncomputable def uM (i j : Int) : Bool := (decide (-(2 ^ 64) < i) && decide (i < 2 ^ 64)) || (decide (-(2 ^ 64) < j) && decide (j < 2 ^ 64))
noncomputable def iN : D -> D -> Option D
 | .int i, .int j => if uM i j = true then some (.int (i * j)) else none
 | .str x, .int n => if (decide (x.length <= 1) && decide (-(2 ^ 63) <= n) && decide (n <= 16777216)) = true then some (.str (Txt.mul x n)) else none
 | _, _ => none
theorem zr5 : OpR X (binaryOp .Mult) (fun x y H Q => ∃ z n, x = .str z /\ y = .int n /\ MulOk z n /\ Q (.str (Txt.mul z n)) H) := by
 rintro pins s σ H x y v u Q I rx ry ⟨z, n, e1, e2, ok, q⟩
 subst e1 e2
 obtain ⟨t, rfl⟩ := rx
 obtain ⟨t', rfl⟩ := ry
 exact SB.mul ok fun t' k => ⟨.str _, H, I.tok k, ⟨_, rfl⟩, q⟩
theorem qJ : OpR X (binaryOp .Mult) (POp X.K U iN) := by
 rintro pins s σ H x y v u Q I rx ry ⟨dx, dy, d, fx, fy, r1, r2, e, q⟩
 unfold iN at e
 split at e
 ·rename_i i j
  obtain ⟨hc, e⟩ := cN e
  cases e
  refine mV pins s σ H x y v u Q I rx ry ⟨i, j, r1.is_int, r2.is_int, ?_, q.now (.int _)⟩
  unfold uM at hc
  simp only [Bool.or_eq_true, Bool.and_eq_true, decide_eq_true_eq] at hc
  exact hc
 ·rename_i z n
  obtain ⟨hc, e⟩ := cN e
  simp only [Bool.and_eq_true, decide_eq_true_eq] at hc
  cases e
  exact zr5 pins s σ H _ _ v u Q I rx ry ⟨z, n, r1.is_str, r2.is_int, mulOk_of 1 16777216 hc.1.1 (by omega) hc.1.2 (by decide) (by decide), q.now (.str _)⟩
 ·cases e
noncomputable def eB : D -> D -> Option D := dII (fun _ j => decide (0 < j)) fun i j => .int (i % j)
theorem gY : OpR X (binaryOp .Mod) (POp X.K U eB) := by
 rintro pins s σ H x y v u Q I rx ry ⟨dx, dy, d, fx, fy, r1, r2, e, q⟩
 obtain ⟨i, j, rfl, rfl, hc, rfl⟩ := zf9 e
 exact xF pins s σ H x y v u Q I rx ry ⟨i, j, r1.is_int, r2.is_int, of_decide_eq_true hc, q.now (.int _)⟩
noncomputable def gJ : D -> D -> Option D := dII (fun _ j => decide (0 < j) && decide (j < 1073741824)) fun i j => .int (i / j)
theorem mC : OpR X (binaryOp .FloorDiv) (POp X.K U gJ) := by
 rintro pins s σ H x y v u Q I rx ry ⟨dx, dy, d, fx, fy, r1, r2, e, q⟩
 obtain ⟨i, j, rfl, rfl, hc, rfl⟩ := zf9 e
 simp only [Bool.and_eq_true, decide_eq_true_eq] at hc
 exact zm3 pins s σ H x y v u Q I rx ry ⟨i, j, r1.is_int, r2.is_int, hc, q.now (.int _)⟩
noncomputable def D.ints : List D -> Option (List Int)
 | [] => some []
 | .int i :: ds => (D.ints ds).map (i :: ·)
 | _ :: _ => none
theorem zH {K : tz0} {H : Hp} : ∀ {vs : List V} {ds : List D} {fp : List Addr} {ns : List Int}, Reps K U H vs ds fp -> D.ints ds = some ns -> vs = ns.map V.int
 | _, _, _, _, .nil, e => by cases e; rfl
 | _, d :: ds, _, ns, .cons h hs, e => by
  cases d with
  | int i =>
   rw [D.ints] at e
   cases e1 : D.ints ds with
   | none => rw [e1] at e; cases e
   | some ms => rw [e1] at e; cases e; rw [h.is_int, zH hs e1]; rfl
  | _ => cases e
noncomputable def dLt : D -> D -> Option D
 | .int i, .int j => some (.bl (decide (i < j)))
 | _, _ => none
theorem oW (hu : X.A.units < cLine) : OpR X (compareOp .Lt) (POp X.K U dLt) := by
 rintro pins s σ H x y v u Q I rx ry ⟨dx, dy, d, fx, fy, r1, r2, e, q⟩
 unfold dLt at e
 split at e
 ·rename_i i j
  cases e; exact yt4 pins s σ H x y v u Q I rx ry ⟨i, j, r1.is_int, r2.is_int, q.now (.bl _)⟩
 ·cases e
noncomputable def dLe : D -> D -> Option D
 | .int i, .int j => some (.bl (decide (i <= j)))
 | _, _ => none
theorem zr6 : OpR X (compareOp .LtE) (POp X.K U dLe) := by
 rintro pins s σ H x y v u Q I rx ry ⟨dx, dy, d, fx, fy, r1, r2, e, q⟩
 unfold dLe at e
 split at e
 ·rename_i i j
  cases e; exact yt5 pins s σ H x y v u Q I rx ry ⟨i, j, r1.is_int, r2.is_int, q.now (.bl _)⟩
 ·cases e
noncomputable def dGt : D -> D -> Option D
 | .int i, .int j => some (.bl (decide (j < i)))
 | _, _ => none
theorem wH : OpR X (compareOp .Gt) (POp X.K U dGt) := by
 rintro pins s σ H x y v u Q I rx ry ⟨dx, dy, d, fx, fy, r1, r2, e, q⟩
 unfold dGt at e
 split at e
 ·rename_i i j
  cases e; exact yt6 pins s σ H x y v u Q I rx ry ⟨i, j, r1.is_int, r2.is_int, q.now (.bl _)⟩
 ·cases e
noncomputable def dGe : D -> D -> Option D
 | .int i, .int j => some (.bl (decide (j <= i)))
 | _, _ => none
theorem wI : OpR X (compareOp .GtE) (POp X.K U dGe) := by
 rintro pins s σ H x y v u Q I rx ry ⟨dx, dy, d, fx, fy, r1, r2, e, q⟩
 unfold dGe at e
 split at e
 ·rename_i i j
  cases e; exact yt7 pins s σ H x y v u Q I rx ry ⟨i, j, r1.is_int, r2.is_int, q.now (.bl _)⟩
 ·cases e
mutual
noncomputable def D.data : D -> Option PyData
 | .non => some .none
 | .bl b => some (.bool b)
 | .int i => some (.int i)
 | .str x => some (.str x)
 | .tup xs => (D.datas xs).map .tuple
 | .lst _ xs => (D.datas xs).map .list
 | _ => none
noncomputable def D.datas : List D -> Option (List PyData)
 | [] => some []
 | d :: ds => d.data.bind fun p => (D.datas ds).map (p :: ·)
end
theorem Reps.dps {K : tz0} {H : Hp} {vs : List V} {ds : List D} {fp : List Addr} (h : Reps K U H vs ds fp) : ∀ {p : List PyData}, D.datas ds = some p -> DpAll K H vs p :=
 Reps.rec (motive_1 := fun v d _ _ => ∀ {p : PyData}, d.data = some p -> Dp K H v p) (motive_2 := fun vs ds _ _ => ∀ {p : List PyData}, D.datas ds = some p -> DpAll K H vs p)
  (fun e => by cases e; exact .non) (fun b _ e => by cases e; exact .bl b) (fun b _ e => by cases e; exact .int b) (fun b _ e => by cases e; exact .str b) (fun b _ e => nomatch e)
  (fun h _ ih _ e => by obtain ⟨ps, e1, e⟩ := Option.map_eq_some_iff.mp e; subst e; exact .tup h (ih e1)) (fun _ _ _ _ e => nomatch e)
  (fun h _ ih _ e => by obtain ⟨ps, e1, e⟩ := Option.map_eq_some_iff.mp e; subst e; exact .lst (.inl (.inl h)) (ih e1))
  (fun h _ ih _ e => by obtain ⟨ps, e1, e⟩ := Option.map_eq_some_iff.mp e; subst e; exact .lst (.inl (.inr ⟨_, h⟩)) (ih e1))
  (fun _ _ _ _ _ e => nomatch e) (fun _ _ _ _ _ e => nomatch e) (fun _ _ _ _ _ e => nomatch e) (fun _ _ _ _ _ e => nomatch e)
  (fun e => by cases e; exact .nil)
  (fun _ _ i1 i2 _ e => by
   obtain ⟨q, e1, e⟩ := bind_some e
   obtain ⟨qs, e2, e⟩ := Option.map_eq_some_iff.mp e
   subst e
   exact .cons (i1 e1) (i2 e2)) h
theorem Rep.dp {K : tz0} {H : Hp} {v : V} {d : D} {fp : List Addr} {p : PyData} (h : Rep K U H v d fp) (e : d.data = some p) : Dp K H v p := by
 have := (Reps.one h).dps (p := [p]) (by show (d.data.bind _) = _; rw [e]; rfl)
 cases this; assumption
noncomputable def zk2 (x y : D) : Option Bool := x.data.bind fun a => y.data.bind fun b => if (a.canLay0 && b.canLay0 && decide (a.depth <= 60)) = true then some (PyData.eqv a b) else none
noncomputable def eqB (x y : D) : Option Bool := match x, y with
 | .int i, .int j => some (decide (i = j))
 | .str i, .str j => some (decide (i = j))
 | x, y => zk2 x y
noncomputable def dEq (x y : D) : Option D := (eqB x y).map .bl
noncomputable def dNe (x y : D) : Option D := (eqB x y).map fun b => .bl (!b)
theorem zb1 {x y : D} {b : Bool} (h : eqB x y = some b) : (∃ i j, x = .int i /\ y = .int j /\ b = decide (i = j)) \/ (∃ i j, x = .str i /\ y = .str j /\ b = decide (i = j)) \/
  ∃ p q, x.data = some p /\ y.data = some q /\ p.canLay0 = true /\ q.canLay0 = true /\ p.depth <= 60 /\ b = PyData.eqv p q := by
 have gen : zk2 x y = some b -> ∃ p q, x.data = some p /\ y.data = some q /\ p.canLay0 = true /\ q.canLay0 = true /\ p.depth <= 60 /\ b = PyData.eqv p q := fun h => by
  unfold zk2 at h
  cases e1 : x.data with
  | none => rw [e1] at h; cases h
  | some p =>
   rw [e1] at h
   cases e2 : y.data with
   | none => rw [e2] at h; cases h
   | some q =>
    rw [e2] at h
    have h' : (if (p.canLay0 && q.canLay0 && decide (p.depth <= 60)) = true then some (PyData.eqv p q) else none) = some b := h
    split at h'
    ·rename_i hc
     simp only [Bool.and_eq_true, decide_eq_true_eq] at hc
     exact ⟨p, q, rfl, rfl, hc.1.1, hc.1.2, hc.2, (Option.some.inj h').symm⟩
    ·cases h'
 unfold eqB at h
 split at h
 ·cases h; exact .inl ⟨_, _, rfl, rfl, rfl⟩
 ·cases h; exact .inr (.inl ⟨_, _, rfl, rfl, rfl⟩)
 ·exact .inr (.inr (gen h))
theorem fW (hu : X.A.units + 64 < cLine) : OpR X (compareOp .Eq) (POp X.K U dEq) := by
 rintro pins s σ H x y v u Q I rx ry ⟨dx, dy, d, fx, fy, r1, r2, e, q⟩
 unfold dEq at e
 cases e1 : eqB dx dy with
 | none => rw [e1] at e; cases e
 | some b =>
  rw [e1] at e
  cases e
  rcases zb1 e1 with ⟨i, j, rfl, rfl, rfl⟩ | ⟨i, j, rfl, rfl, rfl⟩ | ⟨p, p', h1, h2, h3, h4, h5, rfl⟩
  ·rw [r1.is_int] at rx; rw [r2.is_int] at ry
   exact zp8 pins s σ H _ _ v u Q I rx ry ⟨rfl, by rw [show decide (V.int i = V.int j) = decide (i = j) by simp]; exact q.now (.bl _)⟩
  ·rw [r1.is_str] at rx; rw [r2.is_str] at ry
   exact zp8 pins s σ H _ _ v u Q I rx ry ⟨rfl, by rw [show decide (V.str i = V.str j) = decide (i = j) by simp]; exact q.now (.bl _)⟩
  ·exact yp1 hu pins s σ H _ _ v u Q I rx ry ⟨p, p', r1.dp h1, r2.dp h2, h3, h4, h5, q.now (.bl _)⟩
theorem yd1 (hu : X.A.units + 64 < cLine) : OpR X (compareOp .NotEq) (POp X.K U dNe) := by
 rintro pins s σ H x y v u Q I rx ry ⟨dx, dy, d, fx, fy, r1, r2, e, q⟩
 unfold dNe at e
 cases e1 : eqB dx dy with
 | none => rw [e1] at e; cases e
 | some b =>
  rw [e1] at e
  cases e
  rcases zb1 e1 with ⟨i, j, rfl, rfl, rfl⟩ | ⟨i, j, rfl, rfl, rfl⟩ | ⟨p, p', h1, h2, h3, h4, h5, rfl⟩
  ·rw [r1.is_int] at rx; rw [r2.is_int] at ry
   exact yg8 pins s σ H _ _ v u Q I rx ry ⟨rfl, by rw [show decide (V.int i = V.int j) = decide (i = j) by simp]; exact q.now (.bl _)⟩
  ·rw [r1.is_str] at rx; rw [r2.is_str] at ry
   exact yg8 pins s σ H _ _ v u Q I rx ry ⟨rfl, by rw [show decide (V.str i = V.str j) = decide (i = j) by simp]; exact q.now (.bl _)⟩
  ·exact yp2 hu pins s σ H _ _ v u Q I rx ry ⟨p, p', r1.dp h1, r2.dp h2, h3, h4, h5, q.now (.bl _)⟩
noncomputable def fZ : D -> Bool
 | .non => true
 | _ => false
theorem yd2 {K : tz0} {H : Hp} {v : V} {d : D} {fp : List Addr} (r : Rep K U H v d fp) : decide (v = .non) = fZ d := by cases r <;> first | rfl | simp [fZ]
noncomputable def dIs : D -> D -> Option D
 | x, .non => some (.bl (fZ x))
 | _, _ => none
theorem zr7 : OpR X (compareOp .Is) (POp X.K U dIs) := by
 rintro pins s σ H x y v u Q I rx ry ⟨dx, dy, d, fx, fy, r1, r2, e, q⟩
 cases dy with
 | non =>
  cases e; cases r2
  refine yn8 pins s σ H x _ v u Q I rx ry ⟨rfl, ?_⟩
  rw [yd2 r1]; exact q.now (.bl _)
 | _ => cases e
noncomputable def D.flat : D -> Option V
 | .non => some .non
 | .bl b => some (.bl b)
 | .int i => some (.int i)
 | .str x => some (.str x)
 | _ => none
noncomputable def D.flats : List D -> Option (List V)
 | [] => some []
 | d :: ds => d.flat.bind fun v => (D.flats ds).map (v :: ·)
theorem zn3 {K : tz0} {H : Hp} {v w : V} {d : D} {fp : List Addr} (r : Rep K U H v d fp) (h : d.flat = some w) : v = w /\ kK v = true := by
 cases r <;> first | (cases h; exact ⟨rfl, rfl⟩) | cases h
theorem zg0 {K : tz0} {H : Hp} : ∀ {vs ws : List V} {ds : List D} {fp : List Addr}, Reps K U H vs ds fp -> D.flats ds = some ws -> vs = ws /\ vs.all kK = true
 | _, _, _, _, .nil, e => by cases e; exact ⟨rfl, rfl⟩
 | _, ws, d :: ds, _, .cons h hs, e => by
  rw [D.flats] at e
  cases e1 : d.flat with
  | none => rw [e1] at e; cases e
  | some w =>
   rw [e1] at e
   cases e2 : D.flats ds with
   | none => rw [e2] at e; cases e
   | some us =>
    rw [e2] at e; cases e
    obtain ⟨a1, a2⟩ := zn3 h e1
    obtain ⟨b1, b2⟩ := zg0 hs e2
    exact ⟨by rw [a1, b1], by rw [List.all_cons, a2, b2]; rfl⟩
noncomputable def pE (x : D) (ds : List D) : Option Bool := x.flat.bind fun v => (D.flats ds).map fun ws => inV v ws
noncomputable def inB (x : D) : D -> Option Bool
 | .lst _ ds => pE x ds
 | .tup ds => pE x ds
 | _ => none
noncomputable def dIn (x y : D) : Option D := (inB x y).map .bl
theorem yp4 {H : Hp} {x y : V} {dx dy : D} {fx fy : List Addr} {b : Bool} (r1 : Rep X.K U H x dx fx) (r2 : Rep X.K U H y dy fy) (e : inB dx dy = some b) :
  ∃ p xs, y = .ref p /\ (SqL X.K H p xs \/ SqT X.K H p xs) /\ kK x = true /\ xs.all kK = true /\ b = inV x xs := by
 have gen : ∀ {vs : List V} {ds : List D} {g : List Addr}, Reps X.K U H vs ds g -> pE dx ds = some b -> kK x = true /\ vs.all kK = true /\ b = inV x vs := fun {vs ds g} rs h => by
  unfold pE at h
  cases e1 : dx.flat with
  | none => rw [e1] at h; cases h
  | some w =>
   rw [e1] at h
   cases e2 : D.flats ds with
   | none => rw [e2] at h; cases h
   | some ws =>
    rw [e2] at h
    obtain ⟨a1, a2⟩ := zn3 r1 e1
    obtain ⟨b1, b2⟩ := zg0 rs e2
    subst a1 b1
    exact ⟨a2, b2, (Option.some.inj h).symm⟩
 cases dy with
 | lst o ds =>
  obtain ⟨a, vs, g, rfl, h, hs, _⟩ := r2.lst_inv
  obtain ⟨g1, g2, g3⟩ := gen hs e
  exact ⟨a, vs, rfl, .inl (.inl h), g1, g2, g3⟩
 | tup ds =>
  obtain ⟨a, vs, rfl, h, hs⟩ := r2.tup_inv
  obtain ⟨g1, g2, g3⟩ := gen hs e
  exact ⟨a, vs, rfl, .inr h, g1, g2, g3⟩
 | _ => cases e
theorem yd3 : OpR X (compareOp .In) (POp X.K U dIn) := by
 rintro pins s σ H x y v u Q I rx ry ⟨dx, dy, d, fx, fy, r1, r2, e, q⟩
 unfold dIn at e
 cases e1 : inB dx dy with
 | none => rw [e1] at e; cases e
 | some b =>
  rw [e1] at e; cases e
  obtain ⟨p, xs, ey, h, f1, f2, rfl⟩ := yp4 r1 r2 e1
  exact zw3 pins s σ H x y v u Q I rx ry ⟨p, xs, ey, h, f1, f2, q.now (.bl _)⟩
end
theorem Reps.getS {K : tz0} {U : tz9} {H : Hp} : ∀ {vs : List V} {ds : List D} {fp : List Addr} {i : Nat} {d : D}, Reps K U H vs ds fp -> ds[i]? = some d -> ∃ v f, vs[i]? = some v /\ Rep K U H v d f /\ f.Sublist fp
 | _, _, _, _, _, .nil, e => by simp at e
 | _, _, _, 0, _, .cons h _, e => by simp at e; subst e; exact ⟨_, _, rfl, h, List.sublist_append_left _ _⟩
 | _, _, _, i + 1, _, .cons _ hs, e => by
  obtain ⟨v, f, h1, h2, h3⟩ := Reps.getS (i := i) hs (by simpa using e)
  exact ⟨v, f, by simpa using h1, h2, h3.trans (List.sublist_append_right _ _)⟩
theorem Reps.atI {K : tz0} {U : tz9} {H : Hp} {vs : List V} {ds : List D} {fp : List Addr} {i : Int} {d : D} (r : Reps K U H vs ds fp) (h : L2.atI ds i = some d) : ∃ v f, L2.atI vs i = some v /\ Rep K U H v d f /\ f.Sublist fp := by
 unfold L2.atI at h |-
 rw [r.length]
 cases e : ixN ds.length i with
 | none => rw [e] at h; cases h
 | some j => rw [e] at h; exact r.getS h
section
variable {X : Cx} {U : tz9} {e a b : Expr} {es : List Expr} {f fa fb : tz2} {g : tz3} {pos p2 : Pos}
noncomputable def aD : tz3 := fun _ => some []
noncomputable def aB (f : tz2) (g : tz3) : tz3 := fun ps => (f ps).bind fun d => (g ps).bind fun ds => some (d :: ds)
theorem sC {ps : PSt} {ds : List D} (h : aB f g ps = some ds) : ∃ d es, f ps = some d /\ g ps = some es /\ ds = d :: es := by
 unfold aB at h
 cases e1 : f ps with
 | none => rw [e1] at h; cases h
 | some d =>
  rw [e1] at h
  cases e2 : g ps with
  | none => rw [e2] at h; cases h
  | some es => rw [e2] at h; cases h; exact ⟨d, es, rfl, rfl, rfl⟩
theorem bB : QVA X U [] aD := mW.imp fun σ H Q ⟨ps, ds, w, e, q⟩ => by cases e; exact q [] H [] (.refl H) .nil
theorem aL (ha : QV X U e f) (hr : QVA X U es g) (hs : starEach (e :: es) X.env = (false, eval e X.env) :: starEach es X.env := by rfl) : QVA X U (e :: es) (aB f g) :=
 (gG ha hr hs).imp fun σ H Q hh_ => by
  obtain ⟨ps, ds, w, e, q⟩ := hh_
  obtain ⟨d, es, e1, e2, rfl⟩ := sC e
  exact ⟨ps, d, w, e1, fun v H1 fp s1 r1 => ⟨ps, es, w.same s1, e2, fun vs H2 fq s2 r2 => q _ H2 _ (s1.trans s2) (.cons (r1.same s2) r2)⟩⟩
theorem bQ : QPA X U [] aD := mW.imp fun σ H Q ⟨ps, ds, w, e, q⟩ => by cases e; exact q [] H [] (.refl H) (fun _ h => absurd h (by simp)) List.nodup_nil .nil
theorem zx1 {K : tz0} {H1 : Hp} {v : V} {d : D} {fv fw : List Addr} (r : Rep K U H1 v d fv) (n1 : fv.Nodup) (hw : ∀ a ∈ fw, H1 a = none) (n2 : fw.Nodup) : (fv ++ fw).Nodup := by
 rw [List.nodup_append]
 refine ⟨n1, n2, fun a ha b hb e => ?_⟩
 subst e
 obtain ⟨o, h, _⟩ := r.own a ha
 rw [hw a hb] at h; cases h
theorem aW (ha : QP X U e f) (hr : QPA X U es g) (hs : starEach (e :: es) X.env = (false, eval e X.env) :: starEach es X.env := by rfl) : QPA X U (e :: es) (aB f g) :=
 (gG ha hr hs).imp fun σ H Q hh_ => by
  obtain ⟨ps, ds, w, e, q⟩ := hh_
  obtain ⟨d, es, e1, e2, rfl⟩ := sC e
  refine ⟨ps, d, w, e1, fun v H1 fv s1 n1 nd1 r1 => ⟨ps, es, w.same s1, e2, fun vs H2 fw s2 n2 nd2 r2 => ?_⟩⟩
  refine q _ H2 (fv ++ fw) (s1.trans s2) (fun a ha => ?_) (zx1 r1 nd1 n2 nd2) (.cons (r1.same s2) r2)
  rcases List.mem_append.mp ha with z | z
  ·exact n1 a z
  ·exact s1.grow a (n2 a z)
noncomputable def cU (g : tz3) : tz2 := fun ps => (g ps).bind fun ds => if (D.imms ds && decide (ds.length <= 1000)) = true then some (.tup ds) else none
noncomputable def bL (g : tz3) : tz2 := fun ps => (g ps).bind fun ds => if ds.length <= 1000 then some (.lst true ds) else none
theorem gD {x1} (h : QPA X U es g) : QP X U (.Tuple es x1 pos) (cU g) :=
 (yo2 h).imp fun σ H Q hh_ => by
  obtain ⟨ps, d, w, e, q⟩ := hh_
  obtain ⟨ds, e1, e2⟩ := bind_some e
  obtain ⟨hc, e3⟩ := cN e2
  cases e3
  rw [Bool.and_eq_true, decide_eq_true_eq] at hc
  refine ⟨ps, ds, w, e1, fun vs H1 fv s1 n1 nd1 r1 => ⟨by rw [r1.length]; exact zd5 hc.2, fun p hp => ?_⟩⟩
  exact zG hp (r1.pair hc.1) (q.after s1)
theorem dR (h : QPA X U es g) : QP X U (.List es pos) (bL g) :=
 (yo3 h).imp fun σ H Q hh_ => by
  obtain ⟨ps, d, w, e, q⟩ := hh_
  obtain ⟨ds, e1, e2⟩ := bind_some e
  obtain ⟨hc, e3⟩ := cN e2
  cases e3
  refine ⟨ps, ds, w, e1, fun vs H1 fv s1 n1 nd1 r1 => ⟨by rw [r1.length]; exact zd5 hc, fun p hp => ?_⟩⟩
  refine q _ _ (p :: fv) (s1.trans (.new hp _)) (fun a ha => ?_) (List.nodup_cons.mpr ⟨fun hm => ?_, nd1⟩) (.lst eE (r1.same (.new hp _)))
  ·rcases List.mem_cons.mp ha with z | z
   ·rw [z]; exact s1.grow p hp
   ·exact n1 a z
  ·obtain ⟨o, h, _⟩ := r1.own p hm
   rw [hp] at h; cases h
noncomputable def dIx : D -> D -> Option D
 | .lst _ xs, .int i => atI xs i
 | .tup xs, .int i => atI xs i
 | .con xs, .int i => atI xs i
 | .str z, .int i => if z.length <= sizeLine then (atI z.cps.toList i).map fun c => .str ⟨#[c]⟩ else none
 | _, _ => none
theorem zx2 {K : tz0} {H : Hp} {x y : V} {dx dy d : D} {fx fy : List Addr} {Q : VK} (r1 : Rep K U H x dx fx) (r2 : Rep K U H y dy fy) (e : dIx dx dy = some d) (q : ∀ v f, Rep K U H v d f -> f.Sublist fx -> Q v H) : rIx K x y H Q := by
 unfold dIx at e
 split at e
 ·rename_i o xs i
  obtain ⟨a, vs, g, rfl, h, hs, sub⟩ := r1.lst_inv
  obtain ⟨v, f, h1, h2, h3⟩ := hs.atI e
  exact .inl ⟨a, vs, i, v, rfl, r2.is_int, .inl h, h1, q v f h2 (h3.trans sub)⟩
 ·rename_i xs i
  obtain ⟨a, vs, rfl, h, hs⟩ := r1.tup_inv
  obtain ⟨v, f, h1, h2, h3⟩ := hs.atI e
  cases List.sublist_nil.mp h3
  exact .inr (.inl ⟨a, vs, i, v, rfl, r2.is_int, h, h1, q v [] h2 (List.nil_sublist _)⟩)
 ·rename_i xs i
  obtain ⟨a, vs, rfl, h, hs⟩ := r1.con_inv
  obtain ⟨v, f, h1, h2, h3⟩ := hs.atI e
  cases List.sublist_nil.mp h3
  exact .inl ⟨a, vs, i, v, rfl, r2.is_int, h.l, h1, q v [] h2 (List.nil_sublist _)⟩
 ·rename_i z i
  obtain ⟨hz, e⟩ := cN e
  obtain ⟨c, e1, e⟩ := Option.map_eq_some_iff.mp e
  subst e
  exact .inr (.inr ⟨z, i, c, r1.is_str, r2.is_int, hz, e1, q _ [] (.str _) (List.nil_sublist _)⟩)
 ·cases e
theorem bK (ha : QV X U a fa) (hb : QV X U b fb) (hs : nZ b := by exact fun _ _ => rfl) : QV X U (.Subscript a b pos) (f2 dIx fa fb) :=
 (zd4 zw1 ha hb hs).imp fun σ H Q hh_ => by
  obtain ⟨ps, d, w, e, q⟩ := hh_
  obtain ⟨x, y, e1, e2, e3⟩ := zF e
  exact ⟨ps, x, w, e1, fun v H1 fp s1 r1 => ⟨ps, y, w.same s1, e2, fun u H2 fq s2 r2 => zx2 (r1.same s2) r2 e3 fun v f r _ => q v H2 f (s1.trans s2) r⟩⟩
theorem oJ (ha : QP X U a fa) (hb : QV X U b fb) (hs : nZ b := by exact fun _ _ => rfl) : QP X U (.Subscript a b pos) (f2 dIx fa fb) :=
 (zd4 zw1 ha hb hs).imp fun σ H Q hh_ => by
  obtain ⟨ps, d, w, e, q⟩ := hh_
  obtain ⟨x, y, e1, e2, e3⟩ := zF e
  exact ⟨ps, x, w, e1, fun v H1 fv s1 n1 nd1 r1 => ⟨ps, y, w.same s1, e2, fun u H2 fq s2 r2 => zx2 (r1.same s2) r2 e3 fun v f r sub => q v H2 f (s1.trans s2) (fun c hc => n1 c (sub.subset hc)) (nd1.sublist sub) r⟩⟩
noncomputable def PCl (K : tz0) (U : tz9) (g : tz6) : List V -> Hp -> VK -> Prop := fun vs H Q => ∃ ds fp d, Reps K U H vs ds fp /\ g ds = some d /\ kW K U H d Q
noncomputable def aG (h : tz6) (g : tz3) : tz2 := fun ps => (g ps).bind h
theorem zx3 {h : tz6} {σ : St} {H : Hp} {Q : VK} (q : tP X.K U (aG h g) σ H Q) : tCB (PCl X.K U h) (tVA X.K U g) σ H Q := by
 obtain ⟨ps, d, w, e, q⟩ := q
 obtain ⟨ds, e1, e2⟩ := bind_some e
 exact ⟨ps, ds, w, e1, fun vs H1 fp s1 r1 => ⟨ds, fp, d, r1, e2, q.after s1⟩⟩
theorem eG {x : Str} {id : String} {p : Pos} {h : tz6} (hc : fY X (.builtin id) (PCl X.K U h)) (hg : Gl X x) (hm : X.mg x = none) (hv : bootBuiltins x = some (.builtin id)) (ha : QVA X U (e :: es) g) (hn : x ≠ "__name__" := by decide) (hdb : (x == ("__debug__" : Str)) = false := by decide)
  (hs : starEach (e :: es) X.env = (false, eval e X.env) :: starEach es X.env := by rfl) (hpl : (backTo pos (starEach es X.env)).any (·.1) = false := by rfl) : QP X U (.Call (.Name x p) (e :: es) [] pos) (aG h g) :=
 (pP hc hg hm hv ha hn hdb hs hpl).imp fun _ _ _ q => zx3 q
theorem iF {x : Str} {T : String} {p : Pos} {h : tz6} (hc : fY X (.type T) (PCl X.K U h)) (hg : Gl X x) (hm : X.mg x = none) (hv : bootBuiltins x = some (.type T)) (ha : QVA X U (e :: es) g) (hn : x ≠ "__name__" := by decide) (hdb : (x == ("__debug__" : Str)) = false := by decide)
  (hs : starEach (e :: es) X.env = (false, eval e X.env) :: starEach es X.env := by rfl) (hpl : (backTo pos (starEach es X.env)).any (·.1) = false := by rfl) : QP X U (.Call (.Name x p) (e :: es) [] pos) (aG h g) :=
 (zw0 hc hg hm hv ha hn hdb hs hpl).imp fun _ _ _ q => zx3 q
theorem Reps.two_inv {K : tz0} {H : Hp} {vs : List V} {d e : D} {fp : List Addr} (r : Reps K U H vs [d, e] fp) : ∃ v u f g, vs = [v, u] /\ Rep K U H v d f /\ Rep K U H u e g := by
 obtain ⟨v, us, f, g, rfl, h, t, rfl⟩ := r.split
 obtain ⟨u, rfl, h2⟩ := t.one_inv
 exact ⟨v, u, f, g, rfl, h, h2⟩
noncomputable def bP : tz6
 | [.lst _ xs] => some (.int xs.length)
 | [.tup xs] => some (.int xs.length)
 | [.con xs] => some (.int xs.length)
 | [.str z] => if z.length <= sizeLine then some (.int z.length) else none
 | _ => none
theorem hX : fY X (.builtin "len") (PCl X.K U bP) := by
 rintro pins s σ H vs us Q I r ⟨ds, fp, d, rs, e, q⟩
 unfold bP at e
 split at e
 ·cases e
  obtain ⟨v, rfl, r1⟩ := rs.one_inv
  obtain ⟨a, ws, g, rfl, h, hs, _⟩ := r1.lst_inv
  exact jN pins s σ H _ us Q I r ⟨a, ws, rfl, .inl (.inl h), by rw [hs.length]; exact q.now (.int _)⟩
 ·cases e
  obtain ⟨v, rfl, r1⟩ := rs.one_inv
  obtain ⟨a, ws, rfl, h, hs⟩ := r1.tup_inv
  exact jN pins s σ H _ us Q I r ⟨a, ws, rfl, .inr h, by rw [hs.length]; exact q.now (.int _)⟩
 ·cases e
  obtain ⟨v, rfl, r1⟩ := rs.one_inv
  obtain ⟨a, ws, rfl, h, hs⟩ := r1.con_inv
  exact jN pins s σ H _ us Q I r ⟨a, ws, rfl, .inl h.l, by rw [hs.length]; exact q.now (.int _)⟩
 ·obtain ⟨hz, e⟩ := cN e
  cases e
  obtain ⟨v, rfl, r1⟩ := rs.one_inv
  exact zf4 pins s σ H _ us Q I r ⟨_, by rw [r1.is_str], hz, q.now (.int _)⟩
 ·cases e
noncomputable def dTy : D -> Option String
 | .non => some "NoneType"
 | .bl _ => some "bool"
 | .int _ => some "int"
 | .str _ => some "str"
 | .lst _ _ => some "list"
 | .tup _ => some "tuple"
 | .dic true _ _ => some "dict"
 | _ => none
noncomputable def uN : tz6
 | [x, .ty c] => (dTy x).bind fun t => if c ∈ ["bool", "int", "str", "list", "tuple", "dict"] then some (.bl (yM t c)) else none
 | _ => none
theorem yp5 {K : tz0} {H : Hp} {v : V} {d : D} {fp : List Addr} {t : String} (r : Rep K U H v d fp) (h : dTy d = some t) : (rW H v = some t \/ (t = "tuple" /\ ∃ a xs, v = .ref a /\ SqT K H a xs)) := by
 cases r with
 | non => cases h; exact .inl rfl
 | bl _ => cases h; exact .inl rfl
 | int _ => cases h; exact .inl rfl
 | str _ => cases h; exact .inl rfl
 | tup s _ => cases h; exact .inr ⟨rfl, _, _, rfl, s⟩
 | lst s _ => cases h; exact .inl (by simp [rW, s])
 | lstF s _ => cases h; exact .inl (by simp [rW, s])
 | dic s _ _ => cases h; exact .inl (by simp [rW, s])
 | _ => cases h
theorem zr8 : fY X (.builtin "isinstance") (PCl X.K U uN) := by
 rintro pins s σ H vs us Q I r ⟨ds, fp, d, rs, e, q⟩
 unfold uN at e
 split at e
 ·obtain ⟨t, e1, e2⟩ := bind_some e
  obtain ⟨hc, e3⟩ := cN e2
  cases e3
  obtain ⟨v, u, f, g, rfl, r1, r2⟩ := rs.two_inv
  cases r2
  rcases yp5 r1 e1 with h | ⟨rfl, a, xs, rfl, h⟩
  ·exact yc9 pins s σ H _ us Q I r ⟨_, _, t, rfl, h, hc, q.now (.bl _)⟩
  ·obtain ⟨u1, u2, rfl, rx, rc⟩ := zq1 r
   cases (show u2 = Value.type _ from rc)
   cases (show u1 = Value.ref a from rx)
   obtain ⟨its, rv, ⟨o, h1, h2, _⟩, _⟩ := I.tuple h
   exact PySem.W.kia_one PySem.W.kitx_tuple I.kIn ⟨o, h1, h2⟩ (zf5 X.K "tuple" (by decide) _ hc) (fun z => nomatch z) fun tk => ⟨.bl _, H, I.tok tk, rfl, q.now (.bl _)⟩
 ·cases e
noncomputable def cQ : tz6
 | [.lst _ xs] => if D.imms xs = true then some (.tup xs) else none
 | [.tup xs] => some (.tup xs)
 | _ => none
theorem lJ : fY X (.type "tuple") (PCl X.K U cQ) := by
 rintro pins s σ H vs us Q I r ⟨ds, fp, d, rs, e, q⟩
 unfold cQ at e
 split at e
 ·obtain ⟨hc, e⟩ := cN e
  cases e
  obtain ⟨v, rfl, r1⟩ := rs.one_inv
  obtain ⟨a, ws, g, rfl, h, hs, _⟩ := r1.lst_inv
  exact tG pins s σ H _ us Q I r ⟨a, ws, rfl, .inl ⟨.inl h, fun p hp => zG hp (hs.pair hc) q⟩⟩
 ·cases e
  obtain ⟨v, rfl, r1⟩ := rs.one_inv
  obtain ⟨a, ws, rfl, h, hs⟩ := r1.tup_inv
  exact tG pins s σ H _ us Q I r ⟨a, ws, rfl, .inr ⟨h, q.now (.tup h hs)⟩⟩
 ·cases e
noncomputable def nH : tz6
 | [.int i] => some (.int i)
 | [.bl k] => some (.int (if k then 1 else 0))
 | _ => none
theorem zr9 : fY X (.type "int") (PCl X.K U nH) := by
 rintro pins s σ H vs us Q I r ⟨ds, fp, d, rs, e, q⟩
 unfold nH at e
 split at e
 ·cases e
  obtain ⟨v, rfl, r1⟩ := rs.one_inv
  exact za3 pins s σ H _ us Q I r (.inl ⟨_, by rw [r1.is_int], q.now (.int _)⟩)
 ·cases e
  obtain ⟨v, rfl, r1⟩ := rs.one_inv
  exact za3 pins s σ H _ us Q I r (.inr ⟨_, by rw [r1.is_bl], q.now (.int _)⟩)
 ·cases e
noncomputable def PMt (K : tz0) (U : tz9) (g : D -> tz6) : V -> List V -> Hp -> VK -> Prop := fun x vs H Q => ∃ dx ds fx fp d, Rep K U H x dx fx /\ Reps K U H vs ds fp /\ g dx ds = some d /\ kW K U H d Q
noncomputable def sU : D -> Bool
 | .str _ => true
 | _ => false
noncomputable def fMt (h : D -> tz6) (f : tz2) (g : tz3) : tz2 := fun ps => (f ps).bind fun x => (g ps).bind fun ds => if sU x = true then h x ds else none
theorem xM {name : Str} {id : String} {apos : Pos} {h : D -> tz6} (slot : Slot "str" name id) (hty : typeOf (.builtin id) = pure (.type "method_descriptor")) (hm : MtR X id (PMt X.K U h)) (ho : QV X U a fa) (ha : QVA X U (e :: es) g)
  (hbase : attributeBase a name X.env (eval a X.env) = eval a X.env := by rfl)
  (hfew : ((backTo pos (starEach (e :: es) X.env)).all (fun x => !x.1) && (backToKw pos (keywordEach [] X.env)).all (fun x => x.1.isSome)
   && decide ((e :: es).length + ([] : List Keyword).length + (if ([] : List Keyword).isEmpty then 0 else 1) < 30)) = true := by rfl)
  (hline : (apos.endLine == pos.line) = true := by rfl) (hs : starEach (e :: es) X.env = (false, eval e X.env) :: starEach es X.env := by rfl) (hplain : (backTo pos (starEach es X.env)).any (·.1) = false := by rfl) :
  QP X U (.Call (.Attribute a name apos) (e :: es) [] pos) (fMt h fa g) :=
 (yg9 PySem.F.plainAttrs_str slot hty hm ho ha hbase hfew hline hs hplain).imp fun σ H Q hh_ => by
  obtain ⟨ps, d, w, e, q⟩ := hh_
  obtain ⟨x, e1, e2⟩ := bind_some e
  obtain ⟨ds, e3, e4⟩ := bind_some e2
  obtain ⟨hc, e5⟩ := cN e4
  refine ⟨ps, x, w, e1, fun v H1 fp s1 r1 => ⟨?_, ps, ds, w.same s1, e3, fun vs H2 fq s2 r2 => ⟨x, ds, fp, fq, d, r1.same s2, r2, e5, q.after (s1.trans s2)⟩⟩⟩
  cases x with
  | str z => rw [r1.is_str]; rfl
  | _ => cases hc
noncomputable def D.strs : List D -> Option (List Str)
 | [] => some []
 | .str b :: ds => (D.strs ds).map (b :: ·)
 | _ :: _ => none
theorem rN {K : tz0} {H : Hp} : ∀ {vs : List V} {ds : List D} {fp : List Addr} {ns : List Str}, Reps K U H vs ds fp -> D.strs ds = some ns -> vs = ns.map V.str
 | _, _, _, _, .nil, e => by cases e; rfl
 | _, d :: ds, _, ns, .cons h hs, e => by
  cases d with
  | str i =>
   rw [D.strs] at e
   cases e1 : D.strs ds with
   | none => rw [e1] at e; cases e
   | some ms => rw [e1] at e; cases e; rw [h.is_str, rN hs e1]; rfl
  | _ => cases e
noncomputable def vN : D -> tz6
 | .str z, [.lst _ xs] => (D.strs xs).bind fun ys => if (z.length <= 16 /\ (ys.map (·.length)).sum + ys.length <= 1048576) then some (.str (Txt.join z ys)) else none
 | _, _ => none
theorem zg1 : MtR X "str.join" (PMt X.K U vN) := by
 rintro pins s σ H x vs v us Q I rx r ⟨dx, ds, fx, fp, d, r1, rs, e, q⟩
 unfold vN at e
 split at e
 ·obtain ⟨ys, e1, e2⟩ := bind_some e
  obtain ⟨hc, e⟩ := cN e2
  cases e
  obtain ⟨w, rfl, r2⟩ := rs.one_inv
  obtain ⟨a, ws, g, rfl, h, hs, _⟩ := r2.lst_inv
  rw [rN hs e1] at h
  exact yj4 pins s σ H x _ v us Q I rx r ⟨_, a, ys, r1.is_str, rfl, .inl h, hc.1, hc.2, q.now (.str _)⟩
 ·cases e
end
structure Fx where
 K : tz0
 U : tz9
 bor : Nat -> Bool
 M : Nat -> Bool
 B : Nat -> Addr -> Prop
structure RS (φ : Fx) (H : Hp) (σ : St) (ps : PSt) (F : Nat -> List Addr) : Prop where
 rep : ∀ (i : Nat) (d : D), ps[i]? = some (some d) -> ∃ v fp, σ[i]? = some (some v) /\ Rep φ.K φ.U H v d fp /\ (φ.bor i = false -> fp = F i) /\ (φ.bor i = true -> ∀ a ∈ fp, φ.B i a)
 emp : ∀ i a, a ∈ F i -> φ.bor i = false /\ ∃ d, ps[i]? = some (some d)
 dis : ∀ i j a, a ∈ F i -> a ∈ F j -> i = j
 nd : ∀ i, (F i).Nodup
 nb : ∀ i a, a ∈ F i -> ∀ k, ¬ φ.B k a
 bt : ∀ k a, φ.B k a -> H a ≠ none
 len : ps.length <= σ.length
structure Frm (F : Nat -> List Addr) (H H' : Hp) : Prop where
 keep : ∀ a o, H a = some o -> kd o = true -> (∀ i, a ∉ F i) -> H' a = some o
 grow : ∀ a, H' a = none -> H a = none
structure Stp (φ : Fx) (σ : St) (H : Hp) (F : Nat -> List Addr) (σ' : St) (H' : Hp) (ps' : PSt) (F' : Nat -> List Addr) : Prop where
 fr : Frm F H H'
 nw : ∀ i a, a ∈ F' i -> (∃ j, a ∈ F j) \/ H a = none
 rs : RS φ H' σ' ps' F'
 msk : ∀ i, φ.M i = true -> σ'[i]? = σ[i]?
structure OwnV (F : Nat -> List Addr) (H : Hp) (F' : Nat -> List Addr) (fv : List Addr) : Prop where
 nw : ∀ a ∈ fv, (∃ j, a ∈ F j) \/ H a = none
 nd : fv.Nodup
 dis : ∀ i, ∀ a ∈ F' i, a ∉ fv
section
variable {φ : Fx} {H H' H1 H2 : Hp} {σ σ1 σ2 : St} {ps ps1 ps2 : PSt} {F F1 F2 : Nat -> List Addr}
theorem RS.own (R : RS φ H σ ps F) {i : Nat} {a : Addr} (h : a ∈ F i) : ∃ o, H a = some o /\ kd o = true /\ tf o = false := by
 obtain ⟨b, d, e⟩ := R.emp i a h
 obtain ⟨v, fp, _, r, q, _⟩ := R.rep i d e
 rw [<- q b] at h
 exact r.own a h
theorem RS.ws (R : RS φ H σ ps F) : WS φ.K φ.U H σ ps := fun i d h => by
 obtain ⟨v, fp, h1, h2, _⟩ := R.rep i d h
 exact ⟨v, fp, h1, h2⟩
theorem RS.same (R : RS φ H σ ps F) (s : SameK H H') : RS φ H' σ ps F :=
 ⟨fun i d h => by obtain ⟨v, fp, h1, h2, h3⟩ := R.rep i d h; exact ⟨v, fp, h1, h2.same s, h3⟩, R.emp, R.dis, R.nd, R.nb, fun k a h z => R.bt k a h (s.grow a z), R.len⟩
theorem RS.notB (R : RS φ H σ ps F) {a : Addr} (h : (∃ j, a ∈ F j) \/ H a = none) : ∀ k, ¬ φ.B k a := fun k hb => h.elim (fun ⟨j, hj⟩ => R.nb j a hj k hb) fun z => R.bt k a hb z
theorem Stp.same (R : RS φ H σ ps F) (s : SameK H H') : Stp φ σ H F σ H' ps F :=
 ⟨⟨fun a o h k _ => s.keep a o h k, s.grow⟩, fun i a h => .inl ⟨i, h⟩, R.same s, fun _ _ => rfl⟩
theorem Stp.refl (R : RS φ H σ ps F) : Stp φ σ H F σ H ps F := .same R (.refl H)
theorem Stp.trans (s1 : Stp φ σ H F σ1 H1 ps1 F1) (s2 : Stp φ σ1 H1 F1 σ2 H2 ps2 F2) : Stp φ σ H F σ2 H2 ps2 F2 := by
 refine ⟨⟨fun a o h k n => s2.fr.keep a o (s1.fr.keep a o h k n) k fun i hi => ?_, fun a h => s1.fr.grow a (s2.fr.grow a h)⟩, fun i a h => ?_, s2.rs, fun i h => (s2.msk i h).trans (s1.msk i h)⟩
 ·rcases s1.nw i a hi with ⟨j, hj⟩ | z
  ·exact n j hj
  ·rw [h] at z; cases z
 ·rcases s2.nw i a h with ⟨j, hj⟩ | z
  ·exact s1.nw j a hj
  ·exact .inr (s1.fr.grow a z)
theorem OwnV.after {fv : List Addr} (s1 : Stp φ σ H F σ1 H1 ps1 F1) (o : OwnV F1 H1 F2 fv) : OwnV F H F2 fv :=
 ⟨fun a ha => (o.nw a ha).elim (fun ⟨j, hj⟩ => s1.nw j a hj) fun z => .inr (s1.fr.grow a z), o.nd, o.dis⟩
theorem OwnV.new {fv : List Addr} (R : RS φ H σ ps F) (n : ∀ a ∈ fv, H a = none) (nd : fv.Nodup) : OwnV F H F fv :=
 ⟨fun a ha => .inr (n a ha), nd, fun i a ha hb => by obtain ⟨o, h, _⟩ := R.own ha; rw [n a hb] at h; cases h⟩
noncomputable def rB (F : Nat -> List Addr) (i : Nat) (fv : List Addr) : Nat -> List Addr := fun j => if j = i then fv else F j
theorem fD {i : Nat} {fv : List Addr} : rB F i fv i = fv := by simp [rB]
theorem fF {i j : Nat} {fv : List Addr} (h : j ≠ i) : rB F i fv j = F j := by simp [rB, h]
theorem jU {i : Nat} {fv : List Addr} {j : Nat} {a : Addr} (h : a ∈ rB F i fv j) : a ∈ fv \/ a ∈ F j := by
 by_cases e : j = i
 ·subst e; rw [fD] at h; exact .inl h
 ·rw [fF e] at h; exact .inr h
theorem RS.drop (R : RS φ H σ ps F) (i : Nat) : RS φ H σ (ps.set i none) (rB F i []) := by
 have eF : ∀ j a, a ∈ rB F i [] j -> j ≠ i /\ a ∈ F j := fun j a h => by
  by_cases e : j = i
  ·subst e; rw [fD] at h; exact absurd h (by simp)
  ·rw [fF e] at h; exact ⟨e, h⟩
 refine ⟨fun j d h => ?_, fun j a h => ?_, fun j k a h1 h2 => R.dis j k a (eF j a h1).2 (eF k a h2).2, fun j => ?_, fun j a h => R.nb j a (eF j a h).2, R.bt, by simpa using R.len⟩
 ·have e : j ≠ i := by
   rintro rfl
   by_cases hj : j < ps.length
   ·rw [List.getElem?_set_self hj] at h; cases h
   ·rw [List.getElem?_eq_none (by simpa using hj)] at h; cases h
  rw [List.getElem?_set_ne (fun z => e z.symm)] at h
  rw [fF e]
  exact R.rep j d h
 ·obtain ⟨e, h⟩ := eF j a h
  obtain ⟨b, d, q⟩ := R.emp j a h
  exact ⟨b, d, by rw [List.getElem?_set_ne (fun z => e z.symm)]; exact q⟩
 ·by_cases e : j = i
  ·subst e; rw [fD]; exact List.nodup_nil
  ·rw [fF e]; exact R.nd j
theorem RS.set (R : RS φ H σ ps F) {i : Nat} {v : V} {d : D} {fv : List Addr} (r : Rep φ.K φ.U H v d fv) (hb : φ.bor i = false \/ fv = []) (hd : ∀ j, j ≠ i -> ∀ a ∈ F j, a ∉ fv) (hn : fv.Nodup) (hB : ∀ a ∈ fv, ∀ k, ¬ φ.B k a) :
  RS φ H (σ.set i (some v)) (ps.set i (some d)) (rB F i (if i < ps.length then fv else [])) := by
 by_cases hi : i < ps.length
 ·rw [if_pos hi]
  have hl := R.len
  refine ⟨fun j d' h => ?_, fun j a h => ?_, fun j k a h1 h2 => ?_, fun j => ?_, fun j a h => ?_, R.bt, by simpa using R.len⟩
  ·by_cases e : j = i
   ·subst e
    rw [List.getElem?_set_self hi] at h
    cases h
    refine ⟨v, fv, by rw [List.getElem?_set_self (by omega)], r, fun _ => fD.symm, fun z => ?_⟩
    rcases hb with q | q
    ·rw [q] at z; cases z
    ·subst q; intro a ha; exact absurd ha (by simp)
   ·rw [List.getElem?_set_ne (fun z => e z.symm)] at h |-
    rw [fF e]
    exact R.rep j d' h
  ·by_cases e : j = i
   ·subst e
    rw [fD] at h
    refine ⟨?_, d, by rw [List.getElem?_set_self hi]⟩
    rcases hb with q | q
    ·exact q
    ·subst q; exact absurd h (by simp)
   ·rw [fF e] at h
    obtain ⟨b, d', q⟩ := R.emp j a h
    exact ⟨b, d', by rw [List.getElem?_set_ne (fun z => e z.symm)]; exact q⟩
  ·by_cases e1 : j = i
   ·by_cases e2 : k = i
    ·rw [e1, e2]
    ·subst e1; rw [fD] at h1; rw [fF e2] at h2; exact absurd h1 (hd k e2 a h2)
   ·by_cases e2 : k = i
    ·subst e2; rw [fD] at h2; rw [fF e1] at h1; exact absurd h2 (hd j e1 a h1)
    ·rw [fF e1] at h1; rw [fF e2] at h2; exact R.dis j k a h1 h2
  ·by_cases e : j = i
   ·subst e; rw [fD]; exact hn
   ·rw [fF e]; exact R.nd j
  ·rcases jU h with z | z
   ·exact hB a z
   ·exact R.nb j a z
 ·rw [if_neg hi]
  have e0 : ps.set i (some d) = ps := List.set_eq_of_length_le (by omega)
  rw [e0]
  have R' := R.drop i
  rw [List.set_eq_of_length_le (by omega)] at R'
  refine ⟨fun j d' h => ?_, R'.emp, R'.dis, R'.nd, R'.nb, R'.bt, by simpa using R.len⟩
  have hj : j ≠ i := by
   rintro rfl
   have := (List.getElem?_eq_some_iff.mp h).1
   omega
  rw [List.getElem?_set_ne (fun z => hj z.symm)]
  exact R'.rep j d' h
theorem Stp.set {fv : List Addr} {i : Nat} {v : V} {d : D} (s1 : Stp φ σ H F σ1 H1 ps1 F1) (o : OwnV F H F1 fv) (R : RS φ H σ ps F) (r : Rep φ.K φ.U H1 v d fv) (hb : φ.bor i = false \/ fv = []) (hm : φ.M i = false) :
  ∃ F', Stp φ σ H F (σ1.set i (some v)) H1 (ps1.set i (some d)) F' := by
 refine ⟨_, s1.fr, fun j a h => ?_, s1.rs.set r hb (fun j _ => o.dis j) o.nd fun a ha => R.notB (o.nw a ha), fun j h => ?_⟩
 ·rcases jU h with z | z
  ·by_cases k : i < ps1.length
   ·rw [if_pos k] at z; exact o.nw a z
   ·rw [if_neg k] at z; exact absurd z (by simp)
  ·exact s1.nw j a z
 ·rw [List.getElem?_set_ne (fun z => by subst z; rw [hm] at h; cases h)]
  exact s1.msk j h
end
inductive Fl where
 | nx | bk | ct | ret (d : D)
noncomputable abbrev _root_.tz1 := PSt -> Option (Fl × PSt)
noncomputable def vO (φ : Fx) (E : Ends) (σ : St) (H : Hp) (F : Nat -> List Addr) (fl : Fl) (ps' : PSt) : Prop := match fl with
 | .nx => ∀ σ' H' F', Stp φ σ H F σ' H' ps' F' -> E.nx σ' H'
 | .bk => ∀ σ' H' F', Stp φ σ H F σ' H' ps' F' -> E.bk σ' H'
 | .ct => ∀ σ' H' F', Stp φ σ H F σ' H' ps' F' -> E.ct σ' H'
 | .ret d => ∀ v σ' H' F' fv, Stp φ σ H F σ' H' ps' F' -> OwnV F H F' fv -> Rep φ.K φ.U H' v d fv -> E.rt v H'
noncomputable def tS (φ : Fx) (f : tz1) : TS := fun E σ H => ∃ ps F fl ps', RS φ H σ ps F /\ f ps = some (fl, ps') /\ vO φ E σ H F fl ps'
noncomputable def tE (φ : Fx) (f : tz8) : TE := fun σ H Q => ∃ ps F d ps', RS φ H σ ps F /\ f ps = some (d, ps') /\ ∀ v H' F' fv, Stp φ σ H F σ H' ps' F' -> OwnV F H F' fv -> Rep φ.K φ.U H' v d fv -> Q v H'
noncomputable def tTE (φ : Fx) (f : PSt -> Option (Bool × PSt)) : TT := fun σ H Q => ∃ ps F b ps', RS φ H σ ps F /\ f ps = some (b, ps') /\ ∀ H' F', Stp φ σ H F σ H' ps' F' -> Q b H'
structure F0 where
 bor : Nat -> Bool
 M : Nat -> Bool
 B : Nat -> Addr -> Prop
noncomputable def F0.fx (φ : F0) (K : tz0) (U : tz9) : Fx := ⟨K, U, φ.bor, φ.M, φ.B⟩
noncomputable abbrev QS (X : Cx) (U : tz9) (φ : F0) (st : Stmt) (f : tz1) : Prop := PS X st (tS (φ.fx X.K U) f)
noncomputable abbrev QSs (X : Cx) (U : tz9) (φ : F0) (st : List Stmt) (f : tz1) : Prop := PSs X st (tS (φ.fx X.K U) f)
noncomputable abbrev QE (X : Cx) (U : tz9) (φ : F0) (e : Expr) (f : tz8) : Prop := PE X e (tE (φ.fx X.K U) f)
noncomputable abbrev QTE (X : Cx) (U : tz9) (φ : F0) (e : Expr) (f : PSt -> Option (Bool × PSt)) : Prop := PT X e (tTE (φ.fx X.K U) f)
theorem wJ {φ : Fx} {f : tz1} {E : Ends} {σ σ1 : St} {H H1 : Hp} {F F1 : Nat -> List Addr} {ps1 ps2 : PSt} {fl : Fl} (s1 : Stp φ σ H F σ1 H1 ps1 F1) (e : f ps1 = some (fl, ps2)) (q : vO φ E σ H F fl ps2) : tS φ f E σ1 H1 := by
 refine ⟨ps1, F1, fl, ps2, s1.rs, e, ?_⟩
 cases fl with
 | nx => exact fun σ' H' F' s => q σ' H' F' (s1.trans s)
 | bk => exact fun σ' H' F' s => q σ' H' F' (s1.trans s)
 | ct => exact fun σ' H' F' s => q σ' H' F' (s1.trans s)
 | ret d => exact fun v σ' H' F' fv s o r => q v σ' H' F' fv (s1.trans s) (o.after s1) r
noncomputable def aY : tz1 := fun ps => some (.nx, ps)
noncomputable def aK (f g : tz1) : tz1 := fun ps => (f ps).bind fun r => match r with
 | (.nx, ps') => g ps'
 | (.bk, ps') => some (.bk, ps')
 | (.ct, ps') => some (.ct, ps')
 | (.ret d, ps') => some (.ret d, ps')
noncomputable def pZ : tz1 := fun _ => none
section
variable {X : Cx} {U : tz9} {φ : F0} {st : Stmt} {rest : List Stmt} {f g : tz1} {pos : Pos}
theorem bZ : QSs X U φ [] aY := zm1.imp fun E σ H ⟨ps, F, fl, ps', R, e, q⟩ => by cases e; exact q σ H F (.refl R)
theorem aS (h : QS X U φ st f) : QSs X U φ [st] f := uW h
theorem aO (h1 : QS X U φ st f) (h2 : QSs X U φ rest g) : QSs X U φ (st :: rest) (aK f g) :=
 (jT h1 h2).imp fun E σ H hh_ => by
  obtain ⟨ps, F, fl, ps', R, e, q⟩ := hh_
  obtain ⟨⟨fl1, ps1⟩, e1, e2⟩ := bind_some e
  refine ⟨ps, F, fl1, ps1, R, e1, ?_⟩
  cases fl1 with
  | nx => exact fun σ' H' F' s => wJ s e2 q
  | bk => cases e2; exact q
  | ct => cases e2; exact q
  | ret d => cases e2; exact q
theorem mI : QS X U φ st pZ := yb8.imp fun E σ H ⟨ps, F, fl, ps', R, e, q⟩ => by cases e
noncomputable def aE (f : tz2) : tz8 := fun ps => (f ps).bind fun d => some (d, ps)
theorem QP.e {e : Expr} {f : tz2} (h : PE X e (tP X.K U f)) : QE X U φ e (aE f) := h.imp fun σ H Q hh_ => by
 obtain ⟨ps, F, d, ps', R, e, q⟩ := hh_
 obtain ⟨d1, e1, e2⟩ := bind_some e
 cases e2
 exact ⟨ps, _, R.ws, e1, fun v H' fv s n nd r => q v H' F fv (.same R s) (.new R n nd) r⟩
noncomputable def aI (f : tz4) : PSt -> Option (Bool × PSt) := fun ps => (f ps).bind fun d => some (d, ps)
theorem QT.e {e : Expr} {f : tz4} (h : PT X e (tQ X.K U f)) : QTE X U φ e (aI f) := h.imp fun σ H Q hh_ => by
 obtain ⟨ps, F, d, ps', R, e, q⟩ := hh_
 obtain ⟨d1, e1, e2⟩ := bind_some e
 cases e2
 exact ⟨ps, _, R.ws, e1, fun H' s => q H' F (.same R s)⟩
noncomputable def aR (i : Nat) (f : tz8) : tz1 := fun ps => (f ps).bind fun r => some (.nx, r.2.set i (some r.1))
theorem bY (i : Nat) {x : Str} {e : Expr} {pos' : Pos} {f : tz8} (hN : X.N.Nodup) (hi : X.N[i]? = some x) (hx : Loc X.env.scope x) (hb : φ.bor i = false) (hm : φ.M i = false) (he : QE X U φ e f) (hs : swapsWith e (some (.Name x pos')) pos.line X.env = pure false := by rfl) (hf : X.fn x = true \/ X.env.scope.names.lookup x = some .local := by first | exact .inl rfl | exact .inr rfl | assumption) :
  QS X U φ (.Assign [.Name x pos'] e pos) (aR i f) := (pN hN hi hx he hs hf).imp fun E σ H hh_ => by
 obtain ⟨ps, F, fl, ps', R, e, q⟩ := hh_
 obtain ⟨⟨d, ps1⟩, e1, e2⟩ := bind_some e
 cases e2
 refine ⟨ps, F, d, ps1, R, e1, fun v H' F' fv s o r => ?_⟩
 obtain ⟨F2, s2⟩ := s.set o R r (.inl hb) hm (i := i)
 exact q _ _ F2 s2
noncomputable def aV (f : tz8) : tz1 := fun ps => (f ps).bind fun r => some (.nx, r.2)
theorem eL {e : Expr} {f : tz8} (he : QE X U φ e f) (hs : swapsWith e none pos.line X.env = pure false := by rfl) : QS X U φ (.Expr e pos) (aV f) := (zm2 he hs).imp fun E σ H hh_ => by
 obtain ⟨ps, F, fl, ps', R, e, q⟩ := hh_
 obtain ⟨⟨d, ps1⟩, e1, e2⟩ := bind_some e
 cases e2
 exact ⟨ps, F, d, ps1, R, e1, fun v H' F' fv s o r => q _ _ F' s⟩
noncomputable def bJ (f : tz8) : tz1 := fun ps => (f ps).bind fun r => some (.ret r.1, r.2)
theorem cP {e : Expr} {f : tz8} (he : QE X U φ e f) : QS X U φ (.Return (some e) pos) (bJ f) := (rJ he).imp fun E σ H hh_ => by
 obtain ⟨ps, F, fl, ps', R, e, q⟩ := hh_
 obtain ⟨⟨d, ps1⟩, e1, e2⟩ := bind_some e
 cases e2
 exact ⟨ps, F, d, ps1, R, e1, fun v H' F' fv s o r => q v σ H' F' fv s o r⟩
noncomputable def eZ (i : Nat) : tz1 := fun ps => ((ps[i]?).join).bind fun d => some (.ret d, ps.set i none)
theorem join_some {ps : PSt} {i : Nat} {d : D} (h : (ps[i]?).join = some d) : ps[i]? = some (some d) := by
 cases q : ps[i]? with
 | none => rw [q] at h; cases h
 | some o => rw [q] at h; exact congrArg some h
theorem vA (i : Nat) {x : Str} {p : Pos} (hb : φ.bor i = false) (hN : X.N[i]? = some x := by rfl) (hv : Vis X.env.scope x := by first | exact Or.inl rfl | exact Or.inr (Or.inl rfl) | exact Or.inr (Or.inr rfl)) (hd : (x == ("__debug__" : Str)) = false := by decide)
  (hcd : (x == ("__classdict__" : Str)) = false := by decide) : QS X U φ (.Return (some (.Name x p)) pos) (eZ i) := (rJ (pM hN hv hd hcd)).imp fun E σ H hh_ => by
 obtain ⟨ps, F, fl, ps', R, e, q⟩ := hh_
 obtain ⟨d, e1, e2⟩ := bind_some e
 cases e2
 obtain ⟨v, fp, h1, h2, h3, _⟩ := R.rep i d (join_some e1)
 have h3 := h3 hb
 subst h3
 refine ⟨v, h1, q v σ H (rB F i []) (F i) ⟨⟨fun a o h _ _ => h, fun a h => h⟩, fun j a h => ?_, R.drop i, fun _ _ => rfl⟩ ⟨fun a h => .inl ⟨i, h⟩, R.nd i, fun j a h1 h2 => ?_⟩ h2⟩
 ·rcases jU h with z | z
  ·exact absurd z (by simp)
  ·exact .inl ⟨j, z⟩
 ·rcases jU h1 with z | z
  ·exact absurd z (by simp)
  ·have := R.dis j i a z h2
   subst this
   rw [fD] at h1; exact absurd h1 (by simp)
noncomputable def fIf (c : PSt -> Option (Bool × PSt)) (f g : tz1) : tz1 := fun ps => (c ps).bind fun r => if r.1 = true then f r.2 else g r.2
theorem cO {c : Expr} {a b : List Stmt} {tc : PSt -> Option (Bool × PSt)} (hc : QTE X U φ c tc) (ha : QSs X U φ a f) (hb : QSs X U φ b g) : QS X U φ (.If c a b pos) (fIf tc f g) := (zd3 hc ha hb).imp fun E σ H hh_ => by
 obtain ⟨ps, F, fl, ps', R, e, q⟩ := hh_
 obtain ⟨⟨k, ps1⟩, e1, e2⟩ := bind_some e
 refine ⟨ps, F, k, ps1, R, e1, fun H' F' s => ?_⟩
 cases k with
 | true => rw [if_pos rfl] at e2 |-; exact wJ s e2 q
 | false => rw [if_neg Bool.false_ne_true] at e2 |-; exact wJ s e2 q
end
noncomputable def kC (c : PSt -> Option (Bool × PSt)) (f : tz1) : Nat -> tz1
 | 0, _ => none
 | n + 1, ps => (c ps).bind fun r => if r.1 = true then (f r.2).bind fun q => match q with
   | (.nx, p) => kC c f n p
   | (.ct, p) => kC c f n p
   | (.bk, p) => some (.nx, p)
   | (.ret d, p) => some (.ret d, p)
  else some (.nx, r.2)
section
variable {X : Cx} {φ : Fx} {pos : Pos} {body : List Stmt} {f : tz1}
theorem vO.back {E : Ends} {σ σ1 : St} {H H1 : Hp} {F F1 : Nat -> List Addr} {ps1 ps2 : PSt} {fl : Fl} (s1 : Stp φ σ H F σ1 H1 ps1 F1) (q : vO φ E σ H F fl ps2) : vO φ E σ1 H1 F1 fl ps2 := by
 cases fl with
 | nx => exact fun σ' H' F' s => q σ' H' F' (s1.trans s)
 | bk => exact fun σ' H' F' s => q σ' H' F' (s1.trans s)
 | ct => exact fun σ' H' F' s => q σ' H' F' (s1.trans s)
 | ret d => exact fun v σ' H' F' fv s o r => q v σ' H' F' fv (s1.trans s) (o.after s1) r
noncomputable def yy7 (φ : Fx) (σ : St) (H : Hp) (F : Nat -> List Addr) (tc : PSt -> Option (Bool × PSt)) (f : tz1) (fl : Fl) (ps' : PSt) (m : Nat) (σ1 : St) (H1 : Hp) : Prop := ∃ ps1 F1, Stp φ σ H F σ1 H1 ps1 F1 /\ kC tc f m ps1 = some (fl, ps')
theorem wK {U : tz9} {φ : F0} (n : Nat) {c : Expr} {tc : PSt -> Option (Bool × PSt)} (hp : PassesOwn (model X.prog X.w) X.A X.env X.xe) (hc : QTE X U φ c tc) (hb : QSs X U φ body f) : QS X U φ (.While c body [] pos) (kC tc f n) :=
 (yb9 hp hc hb).imp fun E σ H hh_ => by
  obtain ⟨ps, F, fl, ps', R, e, q⟩ := hh_
  refine ⟨yy7 (φ.fx X.K U) σ H F tc f fl ps', ⟨n, ps, F, .refl R, e⟩, ?_⟩
  rintro m σ1 H1 ⟨ps1, F1, s1, e1⟩
  cases m with
  | zero => cases e1
  | succ m =>
   rw [kC] at e1
   obtain ⟨⟨k, ps2⟩, e2, e3⟩ := bind_some e1
   refine ⟨ps1, F1, k, ps2, s1.rs, e2, fun H2 F2 s2 => ?_⟩
   have s12 := s1.trans s2
   cases k with
   | true =>
    dsimp only at e3 |-
    rw [if_pos rfl] at e3 |-
    obtain ⟨⟨fl3, ps3⟩, e4, e5⟩ := bind_some e3
    refine ⟨fun σ' H' => ∃ F', Stp (φ.fx X.K U) σ1 H2 F2 σ' H' ps3 F' /\ kC tc f m ps3 = some (fl, ps'), fun σ' H' ⟨F', s, e⟩ => ⟨m, Nat.lt_succ_self m, ps3, F', s12.trans s, e⟩, ?_⟩
    refine ⟨ps2, F2, fl3, ps3, s2.rs, e4, ?_⟩
    cases fl3 with
    | nx => exact fun σ' H' F' s => ⟨F', s, e5⟩
    | ct => exact fun σ' H' F' s => ⟨F', s, e5⟩
    | bk => cases e5; exact fun σ' H' F' s => q σ' H' F' (s12.trans s)
    | ret d => cases e5; exact fun v σ' H' F' fv s o r => q v σ' H' F' fv (s12.trans s) (o.after s12) r
   | false =>
    dsimp only at e3 |-
    rw [if_neg Bool.false_ne_true] at e3 |-
    cases e3
    exact q _ _ F2 s12
end
noncomputable def rC (Z : List Addr) (H H' : Hp) : Prop := ∀ a o, H a = some o -> (tf o = true \/ (kd o = true /\ a ∈ Z)) -> H' a = some o
structure Walk (K : tz0) (U : tz9) (J : It) (Z : List Addr) (H1 : Hp) (ds : List D) : Prop where
 go : ∀ H', rC Z H1 H' -> ∀ (i : Nat) d, ds[i]? = some d -> J.go i H' /\ ∀ x H2, J.yld i H' x H2 -> H2 = H' /\ Rep K U H' x d []
 stop : ∀ H', rC Z H1 H' -> J.stop ds.length H'
noncomputable def tIV (K : tz0) (U : tz9) (f : tz3) : TI := fun σ H R => ∃ ps ds, WS K U H σ ps /\ f ps = some ds /\ ∀ J H1 Z, SameK H H1 -> Walk K U J Z H1 ds -> R J H1
noncomputable def tIP (K : tz0) (U : tz9) (f : tz3) : TI := fun σ H R => ∃ ps ds, WS K U H σ ps /\ f ps = some ds /\ ∀ J H1 Z, SameK H H1 -> (∀ a ∈ Z, H a = none /\ H1 a ≠ none) -> Walk K U J Z H1 ds -> R J H1
theorem rC.sq {K : tz0} {Z : List Addr} {H H' : Hp} {a : Addr} {vs : List V} (k : rC Z H H') (h : Rd H a (.lst vs)) (hz : H a = some (.lst vs) -> a ∈ Z) : SqL K H' a vs := by
 rcases h with h | ⟨o, h⟩
 ·exact .inl (.inl (k a _ h (.inr ⟨rfl, hz h⟩)))
 ·exact .inl (.inr ⟨o, k a _ h (.inl rfl)⟩)
theorem rC.rep {K : tz0} {U : tz9} {Z : List Addr} {H H' : Hp} {v : V} {d : D} (k : rC Z H H') (r : Rep K U H v d []) : Rep K U H' v d [] := r.move (fun a o h t => k a o h (.inl t)) fun a ha => absurd ha (by simp)
theorem sE {α β : Type} {R : α -> β -> Prop} : ∀ {l₁ : List α} {l₂ : List β} {i : Nat} {y : β}, Paired R l₁ l₂ -> l₂[i]? = some y -> ∃ x, l₁[i]? = some x /\ R x y
 | _, _, _, _, .nil, e => by simp at e
 | _, _, 0, _, .cons h _, e => by simp at e; subst e; exact ⟨_, rfl, h⟩
 | _, _, i + 1, _, .cons _ t, e => by obtain ⟨x, h1, h2⟩ := sE (i := i) t (by simpa using e); exact ⟨x, by simpa using h1, h2⟩
section
variable {K : tz0} {U : tz9} {H1 : Hp} {a : Addr} {vs : List V} {ds : List D} {Z : List Addr}
theorem zb2 (h : Rd H1 a (.lst vs)) (hz : H1 a = some (.lst vs) -> a ∈ Z) (r : Paired (fun v d => Rep K U H1 v d []) vs ds) : Walk K U (Itl K a) Z H1 ds where
 go := fun H' k i d e => by
  obtain ⟨x, e1, r1⟩ := sE r e
  have sq : SqL K H' a vs := k.sq h hz
  refine ⟨⟨vs, x, sq, e1⟩, fun y H2 hy => ⟨hy.1, ?_⟩⟩
  have e2 := hy.2 vs sq
  rw [e1] at e2; cases e2
  exact k.rep r1
 stop := fun H' k => ⟨vs, k.sq h hz, by rw [Paired.length r]; exact Nat.le_refl _⟩
theorem yd4 (h : SqF K H1 a vs) (r : Paired (fun v d => Rep K U H1 v d []) vs ds) : Walk K U (Itl K a) Z H1 ds where
 go := fun H' k i d e => by
  obtain ⟨x, e1, r1⟩ := sE r e
  have sq : SqL K H' a vs := (h.tf fun a o e t => k a o e (.inl t)).l
  refine ⟨⟨vs, x, sq, e1⟩, fun y H2 hy => ⟨hy.1, ?_⟩⟩
  have e2 := hy.2 vs sq
  rw [e1] at e2; cases e2
  exact k.rep r1
 stop := fun H' k => ⟨vs, (h.tf fun a o e t => k a o e (.inl t)).l, by rw [Paired.length r]; exact Nat.le_refl _⟩
theorem yd5 (h : SqT K H1 a vs) (r : Paired (fun v d => Rep K U H1 v d []) vs ds) : Walk K U (Itt K a) Z H1 ds where
 go := fun H' k i d e => by
  obtain ⟨x, e1, r1⟩ := sE r e
  have sq : SqT K H' a vs := h.tf fun a o e t => k a o e (.inl t)
  refine ⟨⟨vs, x, sq, e1⟩, fun y H2 hy => ⟨hy.1, ?_⟩⟩
  have e2 := hy.2 vs sq
  rw [e1] at e2; cases e2
  exact k.rep r1
 stop := fun H' k => ⟨vs, h.tf fun a o e t => k a o e (.inl t), by rw [Paired.length r]; exact Nat.le_refl _⟩
end
noncomputable def lR (lo : Int) (n : Nat) : List D := (List.range n).map fun (k : Nat) => .int (lo + (k : Int))
theorem xN {K : tz0} {U : tz9} {H1 : Hp} {Z : List Addr} (lo : Int) (n : Nat) : Walk K U (Itr lo n) Z H1 (lR lo n) where
 go := fun H' _ i d e => by
  have hi := (List.getElem?_eq_some_iff.mp e).1
  unfold lR at hi e
  rw [List.length_map, List.length_range] at hi
  rw [List.getElem?_map, List.getElem?_range hi] at e
  cases e
  exact ⟨hi, fun x H2 ⟨h1, h2⟩ => ⟨h1, by rw [h2]; exact .int _⟩⟩
 stop := fun H' _ => by
  show n <= (lR lo n).length
  unfold lR
  rw [List.length_map, List.length_range]; exact Nat.le_refl _
noncomputable abbrev QIV (X : Cx) (U : tz9) (tg iter : Expr) (f : tz3) : Prop := PI X tg iter (tIV X.K U f)
noncomputable abbrev QIP (X : Cx) (U : tz9) (tg iter : Expr) (f : tz3) : Prop := PI X tg iter (tIP X.K U f)
theorem PI.imp {X : Cx} {tg e : Expr} {t t' : TI} (h : PI X tg e t) (k : ∀ σ H Q, t' σ H Q -> t σ H Q) : PI X tg e t' := fun pins s σ H Q I q => h pins s σ H Q I (k σ H Q q)
section
variable {X : Cx} {U : tz9} {tg l a b : Expr} {f : tz2} {g : tz3} {p pos : Pos}
noncomputable def yO : List D -> Option (List D)
 | [.int j] => if (-(2 ^ 62) <= j /\ j < 2 ^ 62) then some (lR 0 j.toNat) else none
 | _ => none
noncomputable def ze2 : List D -> Option (List D)
 | [.int i, .int j] => if (-(2 ^ 62) <= i /\ i < 2 ^ 62 /\ -(2 ^ 62) <= j /\ j < 2 ^ 62) then some (lR i (j - i).toNat) else none
 | _ => none
noncomputable def pF (g : tz3) : tz3 := fun ps => (g ps).bind yO
noncomputable def vP (g : tz3) : tz3 := fun ps => (g ps).bind ze2
theorem qK (hg : Gl X "range") (hm : X.mg "range" = none) (ha : QVA X U [a] g) (hs : starEach [a] X.env = [(false, eval a X.env)] := by rfl) : QIP X U tg (.Call (.Name "range" p) [a] [] pos) (pF g) :=
 PI.imp (zv1 hg hm ha hs) fun σ H R hh_ => by
  obtain ⟨ps, ds, w, e, q⟩ := hh_
  obtain ⟨as, e1, e2⟩ := bind_some e
  refine ⟨ps, as, w, e1, fun vs H1 fp s1 r1 => ?_⟩
  unfold yO at e2
  split at e2
  ·obtain ⟨hc, e3⟩ := cN e2
   cases e3
   obtain ⟨v, rfl, r⟩ := r1.one_inv
   exact ⟨_, by rw [r.is_int], hc.1, hc.2, q _ H1 [] s1 (fun _ h => absurd h (by simp)) (xN _ _)⟩
  ·cases e2
theorem tN (hg : Gl X "range") (hm : X.mg "range" = none) (ha : QVA X U [a, b] g) (hs : starEach [a, b] X.env = [(false, eval a X.env), (false, eval b X.env)] := by rfl) (hs2 : starEach [b] X.env = [(false, eval b X.env)] := by rfl) : QIP X U tg (.Call (.Name "range" p) [a, b] [] pos) (vP g) :=
 PI.imp (zv2 hg hm ha hs hs2) fun σ H R hh_ => by
  obtain ⟨ps, ds, w, e, q⟩ := hh_
  obtain ⟨as, e1, e2⟩ := bind_some e
  refine ⟨ps, as, w, e1, fun vs H1 fp s1 r1 => ?_⟩
  unfold ze2 at e2
  split at e2
  ·obtain ⟨hc, e3⟩ := cN e2
   cases e3
   obtain ⟨v, u, f, g, rfl, r, r'⟩ := r1.two_inv
   exact ⟨_, _, by rw [r.is_int, r'.is_int], hc, q _ H1 [] s1 (fun _ h => absurd h (by simp)) (xN _ _)⟩
  ·cases e2
noncomputable def yy8 (K : tz0) (tl : TE) : TI := fun σ H R => tl σ H fun x H1 => ∃ a, x = .ref a /\ (((∃ xs, SqL K H1 a xs) /\ R (Itl K a) H1) \/ ((∃ xs, SqT K H1 a xs) /\ R (Itt K a) H1))
theorem zg2 {tl : TE} (hl : PE X l tl) : PI X tg l (yy8 X.K tl) := by
 intro pins s σ H R I h
 refine thn (hl pins s σ H _ I h) fun v s1 ⟨x, H1, I1, r1, q1⟩ => ?_
 obtain ⟨a, e, q1⟩ := q1
 subst e
 cases r1
 rcases q1 with ⟨⟨xs, hq⟩, q⟩ | ⟨⟨xs, hq⟩, q⟩
 ·obtain ⟨its, rv, p, hz⟩ := I1.list hq
  refine wpAny_pyIter_list p.isList ?_
  refine ⟨s1.heap.objs.size, [s1.heap.objs.size], _, _, H1, rfl, I1.kept (t' := s1.toks) fun b o e => Heap.get?_push_of_some _ e, zv0 a _, ⟨_, Heap.get?_push_size _ rfl, rfl, rfl⟩, fun b hb => ?_, q⟩
  have e : b = s1.heap.objs.size := by simpa using hb
  subst e
  exact I1.fpOk (Nat.le_refl _) (I1.hok.fresh (Nat.le_refl _))
 ·obtain ⟨its, rv, p, hz⟩ := I1.tuple hq
  refine wpAny_pyIter_tuple (show s1.heap.IsTuple a its.toArray from p) ?_
  refine ⟨s1.heap.objs.size, [s1.heap.objs.size], _, _, H1, rfl, I1.kept (t' := s1.toks) fun b o e => Heap.get?_push_of_some _ e, zp4 a _, ⟨_, Heap.get?_push_size _ rfl, rfl, rfl⟩, fun b hb => ?_, q⟩
  have e : b = s1.heap.objs.size := by simpa using hb
  subst e
  exact I1.fpOk (Nat.le_refl _) (I1.hok.fresh (Nat.le_refl _))
noncomputable def pA : D -> Option (List D)
 | .lst _ xs => if D.imms xs = true then some xs else none
 | .tup xs => some xs
 | .con xs => some xs
 | _ => none
theorem zI {K : tz0} {H : Hp} {v : V} {d : D} {fp : List Addr} {ds : List D} {R : It -> Hp -> Prop} (r : Rep K U H v d fp) (e : pA d = some ds) (q : ∀ J Z, (∀ a ∈ Z, a ∈ fp) -> Walk K U J Z H ds -> R J H) :
  ∃ a, v = .ref a /\ (((∃ xs, SqL K H a xs) /\ R (Itl K a) H) \/ ((∃ xs, SqT K H a xs) /\ R (Itt K a) H)) := by
 cases d with
 | lst o xs =>
  obtain ⟨hc, e⟩ := cN e
  cases e
  cases r with
  | lst h hs => exact ⟨_, rfl, .inl ⟨⟨_, .inl (.inl h)⟩, q _ [_] (fun a ha => by simp at ha; subst ha; exact List.mem_cons_self) (zb2 (.inl h) (fun _ => by simp) (hs.pair hc))⟩⟩
  | lstF h hs => exact ⟨_, rfl, .inl ⟨⟨_, .inl (.inr ⟨_, h⟩)⟩, q _ [] (fun a ha => absurd ha (by simp)) (zb2 (.inr ⟨_, h⟩) (fun z => by rw [h] at z; cases z) (hs.pair hc))⟩⟩
 | tup xs =>
  cases e
  obtain ⟨a, vs, rfl, h, hs⟩ := r.tup_inv
  exact ⟨a, rfl, .inr ⟨⟨_, h⟩, q _ [] (fun a ha => absurd ha (by simp)) (yd5 h hs.nilp)⟩⟩
 | con xs =>
  cases e
  obtain ⟨a, vs, rfl, h, hs⟩ := r.con_inv
  exact ⟨a, rfl, .inl ⟨⟨_, h.l⟩, q _ [] (fun a ha => absurd ha (by simp)) (yd4 h hs.nilp)⟩⟩
 | _ => cases e
noncomputable def gA (f : tz2) : tz3 := fun ps => (f ps).bind pA
theorem zg3 (h : QV X U l f) : QIV X U tg l (gA f) := PI.imp (zg2 h) fun σ H R hh_ => by
 obtain ⟨ps, ds, w, e, q⟩ := hh_
 obtain ⟨d, e1, e2⟩ := bind_some e
 exact ⟨ps, d, w, e1, fun v H1 fv s1 r1 => zI r1 e2 fun J Z _ k => q J H1 Z s1 k⟩
end
noncomputable def fN (i : Nat) (f : tz1) : List D -> tz1
 | [], ps => some (.nx, ps)
 | d :: ds, ps => (f (ps.set i (some d))).bind fun q => match q with
   | (.nx, p) => fN i f ds p
   | (.ct, p) => fN i f ds p
   | (.bk, p) => some (.nx, p)
   | (.ret d, p) => some (.ret d, p)
section
variable {X : Cx} {φ : Fx} {pos : Pos} {body : List Stmt} {f : tz1}
theorem Frm.kept {F : Nat -> List Addr} {H H' : Hp} {Z : List Addr} {σ : St} {ps : PSt} (R : RS φ H σ ps F) (k : Frm F H H') (hz : ∀ a ∈ Z, ∀ i, a ∉ F i) : rC Z H H' := fun a o h t => by
 rcases t with t | ⟨t1, t2⟩
 ·refine k.keep a o h (mH t) fun i hi => ?_
  obtain ⟨o', h', _, t'⟩ := R.own hi
  rw [h] at h'; cases h'; rw [t] at t'; cases t'
 ·exact k.keep a o h t1 (hz a t2)
noncomputable def yi0 (J : It) (E : Ends) (V : Nat -> Nat -> St -> Hp -> Prop) (g : TG) (tb : TS) (k m : Nat) (σ : St) (H : Hp) : Prop :=
 (J.stop k H /\ E.nx σ H) \/ (J.go k H /\ ∃ N : St -> Hp -> Prop, (∀ σ' H', N σ' H' -> ∃ m', m' < m /\ V (k + 1) m' σ' H') /\ ∀ x H', J.yld k H x H' -> g x σ H' fun σ2 H2 => tb { E with nx := N, ct := N, bk := E.nx } σ2 H2)
noncomputable def yy9 (φ : Fx) (σ : St) (H : Hp) (F : Nat -> List Addr) (i : Nat) (f : tz1) (ds : List D) (fl : Fl) (ps' : PSt) (k m : Nat) (σ1 : St) (H1 : Hp) : Prop := k <= ds.length /\ m = ds.length - k /\ ∃ ps1 F1, Stp φ σ H F σ1 H1 ps1 F1 /\ fN i f (ds.drop k) ps1 = some (fl, ps')
theorem zg4 {E : Ends} {σ : St} {H : Hp} {F : Nat -> List Addr} {ps ps' : PSt} {fl : Fl} {ds : List D} {J : It} {Z : List Addr} {i : Nat} (R : RS φ H σ ps F) (hz : ∀ a ∈ Z, H a ≠ none /\ ∀ i, a ∉ F i) (W : Walk φ.K φ.U J Z H ds) (hb : φ.bor i = false) (hm : φ.M i = false)
  (e : fN i f ds ps = some (fl, ps')) (q : vO φ E σ H F fl ps') : ∃ V : Nat -> Nat -> St -> Hp -> Prop, (∃ m, V 0 m σ H) /\ ∀ k m σ H, V k m σ H -> yi0 J E V (nF i) (tS φ f) k m σ H := by
 refine ⟨yy9 φ σ H F i f ds fl ps', ⟨_, Nat.zero_le _, rfl, ps, F, .refl R, by rw [List.drop_zero]; exact e⟩, ?_⟩
 rintro k m σ1 H1 ⟨hk, rfl, ps1, F1, s1, e1⟩
 have kp : rC Z H H1 := s1.fr.kept R fun a ha => (hz a ha).2
 by_cases hlt : k < ds.length
 ·right
  have ed : ds[k]? = some ds[k] := List.getElem?_eq_getElem hlt
  obtain ⟨hgo, hy⟩ := W.go H1 kp k _ ed
  rw [List.drop_eq_getElem_cons hlt, fN] at e1
  obtain ⟨⟨fl2, ps2⟩, e2, e3⟩ := bind_some e1
  refine ⟨hgo, fun σ' H' => ∃ F', Stp φ σ H F σ' H' ps2 F' /\ fN i f (ds.drop (k + 1)) ps2 = some (fl, ps'), fun σ' H' ⟨F', s, e⟩ => ⟨ds.length - (k + 1), by omega, hlt, rfl, ps2, F', s, e⟩, fun x H' y => ?_⟩
  obtain ⟨rfl, rx⟩ := hy x H' y
  obtain ⟨F2, s2⟩ := (Stp.refl s1.rs).set (i := i) (fv := []) (v := x) (d := ds[k]) ⟨fun _ h => absurd h (by simp), List.nodup_nil, fun _ _ _ h => absurd h (by simp)⟩ s1.rs rx (.inl hb) hm
  have s12 := s1.trans s2
  refine ⟨_, F2, fl2, ps2, s2.rs, e2, ?_⟩
  cases fl2 with
  | nx => exact fun σ' H' F' s => ⟨F', s12.trans s, e3⟩
  | ct => exact fun σ' H' F' s => ⟨F', s12.trans s, e3⟩
  | bk => cases e3; exact fun σ' H' F' s => q σ' H' F' (s12.trans s)
  | ret d => cases e3; exact fun v σ' H' F' fv s o r => q v σ' H' F' fv (s12.trans s) (o.after s12) r
 ·left
  have ek : k = ds.length := by omega
  subst ek
  rw [List.drop_length, fN] at e1
  cases e1
  exact ⟨W.stop H1 kp, q _ _ F1 s1⟩
noncomputable def kH (i : Nat) (fi : tz3) (f : tz1) : tz1 := fun ps => (fi ps).bind fun ds => fN i f ds ps
theorem tO {U : tz9} {φ : F0} (i : Nat) {x : Str} {px : Pos} {iter : Expr} {fi : tz3} (hp : PassesOwn (model X.prog X.w) X.A X.env X.xe) (hc : X.calm = true) (hN : X.N.Nodup) (hi : X.N[i]? = some x) (hx : Loc X.env.scope x) (hb : φ.bor i = false) (hm : φ.M i = false)
  (hit : PI X (.Name x px) iter (tIP X.K U fi)) (hbd : QSs X U φ body f) (hs : ∀ x, foldedSetIterable iter X.env x = pure x := by intro _; rfl) (hf : X.fn x = true \/ X.env.scope.names.lookup x = some .local := by first | exact .inl rfl | exact .inr rfl | assumption) :
  QS X U φ (.For (.Name x px) iter body [] pos) (kH i fi f) := (zf0 hp hc hit (kE hN hi hx hf) hbd hs).imp fun E σ H hh_ => by
 obtain ⟨ps, F, fl, ps', R, e, q⟩ := hh_
 obtain ⟨ds, e1, e2⟩ := bind_some e
 refine ⟨ps, ds, R.ws, e1, fun J H1 Z s1 hz W => ?_⟩
 have s := Stp.same R s1
 exact zg4 s.rs (fun a ha => ⟨(hz a ha).2, fun j hj => by obtain ⟨o, h, _⟩ := R.own hj; rw [(hz a ha).1] at h; cases h⟩) W hb hm e2 (q.back s)
noncomputable def ys7 (g : TG) (tb : TS) (E : Ends) (σ : St) : It -> Hp -> Prop := fun J H1 => ∃ W : Nat -> Nat -> St -> Hp -> Prop, (∃ m, W 0 m σ H1) /\ ∀ i m σ H, W i m σ H ->
 (J.stop i H /\ E.nx σ H) \/ (J.go i H /\ ∃ N : St -> Hp -> Prop, (∀ σ' H', N σ' H' -> ∃ m', m' < m /\ W (i + 1) m' σ' H') /\ ∀ x H', J.yld i H x H' -> g x σ H' fun σ2 H2 => tb { E with nx := N, ct := N, bk := E.nx } σ2 H2)
theorem vB {U : tz9} {φ : F0} (i j : Nat) {x y : Str} {px py : Pos} (hp : PassesOwn (model X.prog X.w) X.A X.env X.xe) (hc : X.calm = true) (hN : X.N.Nodup) (hi : X.N[i]? = some x) (hx : Loc X.env.scope x) (hb : φ.bor i = false) (hm : φ.M i = false) (hj : φ.bor j = true)
  (hbd : QSs X U φ body f) (hNj : X.N[j]? = some y := by rfl) (hv : Vis X.env.scope y := by first | exact Or.inl rfl | exact Or.inr (Or.inl rfl) | exact Or.inr (Or.inr rfl)) (hd : (y == ("__debug__" : Str)) = false := by decide)
  (hcd : (y == ("__classdict__" : Str)) = false := by decide) (hs : ∀ x, foldedSetIterable (.Name y py) X.env x = pure x := by intro _; rfl) (hf : X.fn x = true \/ X.env.scope.names.lookup x = some .local := by first | exact .inl rfl | exact .inr rfl | assumption) :
  QS X U φ (.For (.Name x px) (.Name y py) body [] pos) (kH i (gA (aA j)) f) := (zf0 hp hc (zg2 (pM hNj hv hd hcd)) (kE hN hi hx hf) hbd hs).imp fun E σ H hh_ => by
 obtain ⟨ps, F, fl, ps', R, e, q⟩ := hh_
 obtain ⟨ds, e1, e2⟩ := bind_some e
 obtain ⟨d, e3, e4⟩ := bind_some e1
 obtain ⟨v, fp, h1, h2, _, h4⟩ := R.rep j d (join_some e3)
 refine ⟨v, h1, ?_⟩
 refine zI (R := ys7 (nF i) (tS (φ.fx X.K U) f) E σ) h2 e4 fun J Z hz W => ?_
 exact zg4 R (fun a ha => ⟨R.bt j a (h4 hj a (hz a ha)), fun k hk => R.nb k a hk j (h4 hj a (hz a ha))⟩) W hb hm e2 q
end
noncomputable def gP (np n : Nat) (f : tz1) : tz6 := fun ds => if ds.length = np then (f (ds.map some ++ List.replicate n none)).bind fun r => match r with
 | (.ret d, _) => some d
 | (.nx, _) => some .non
 | _ => none
 else none
noncomputable def SpP (np : Nat) (K : tz0) (U : tz9) (g : tz6) : Sp := fun vs H Q _ => vs.length = np /\ ∃ ds fp d, Reps K U H vs ds fp /\ g ds = some d /\ kW K U H d Q
noncomputable def fxP (K : tz0) (U : tz9) (np : Nat) (B : Nat -> Addr -> Prop) : Fx := ⟨K, U, fun i => decide (i < np), fun _ => false, B⟩
noncomputable def f0P (np : Nat) (B : Nat -> Addr -> Prop) : F0 := ⟨fun i => decide (i < np), fun _ => false, B⟩
theorem zx4 {N : List Str} {vs : List V} {i : Nat} {v : V} (h : vs[i]? = some v) : (start N vs)[i]? = some (some v) := by
 unfold start
 have hi := (List.getElem?_eq_some_iff.mp h).1
 rw [List.getElem?_append_left (by simpa using hi), List.getElem?_map, h]; rfl
theorem RS.start {K : tz0} {U : tz9} {H : Hp} {N : List Str} {vs : List V} {ds : List D} {fp : List Addr} {np : Nat} (r : Reps K U H vs ds fp) (hl : vs.length = np) (hn : np <= N.length) :
  RS (fxP K U np (fun _ a => a ∈ fp)) H (start N vs) (ds.map some ++ List.replicate (N.length - np) none) (fun _ => []) := by
 have el := r.length
 refine ⟨fun i d h => ?_, fun i a h => absurd h (by simp), fun i j a h => absurd h (by simp), fun i => List.nodup_nil, fun i a h => absurd h (by simp), fun k a h z => ?_, ?_⟩
 ·by_cases hi : i < ds.length
  ·rw [List.getElem?_append_left (by simpa using hi), List.getElem?_map] at h
   cases e : ds[i]? with
   | none => rw [e] at h; cases h
   | some d' =>
    rw [e] at h; cases h
    obtain ⟨v, f, h1, h2, h3⟩ := r.get e
    refine ⟨v, f, zx4 h1, h2, fun z => ?_, fun _ => h3⟩
    exact absurd (of_decide_eq_false z) (by omega)
  ·rw [List.getElem?_append_right (by simpa using hi), List.getElem?_replicate] at h
   split at h <;> cases h
 ·obtain ⟨o, h, _⟩ := r.own a h
  rw [z] at h; cases h
 ·unfold L2.start
  simp only [List.length_append, List.length_map, List.length_replicate]
  omega
section
variable {P : Program} {w : World} {K : tz0} {mg : tzA} {base : Heap} {U : tz9}
theorem eW {x qual : Str} {st : Stmt} {f : Addr} {fd : FuncData} {N ps : List Str} {k : Nat} {fb : tz1} (F : Fun K x qual st f fd) (S : FnScope N ps (aM st))
  (hbody : ∀ (cdv : Value) (A : Around) (outer : List Env) (s : Shared) (H : Hp) (E : XK) (B : Nat -> Addr -> Prop), Room k (A.deeper (envOfC qual (aM st) s.heap.objs.size f cdv)) ->
   QSs (eI CX0 P w K mg base N qual (aM st) f cdv A outer s H E).nox U (f0P ps.length B) (bR st) fb) :
  FnOk P w K mg base CX0 (k + 1) f fd ps (SpP ps.length K U (gP ps.length (N.length - ps.length) fb)) := by
 refine F.ok S (fun vs H Q E h => h.1) fun cdv A outer s H vs Q E hr ⟨hl, ds, fp, d, r, e, q⟩ => ⟨_, hbody cdv A outer s H E (fun _ a => a ∈ fp) hr, ?_⟩
 have hn : ps.length <= N.length := by have := congrArg List.length S.pre; rw [List.length_take] at this; omega
 unfold gP at e
 obtain ⟨_, e0⟩ := cN e
 obtain ⟨⟨fl, ps'⟩, e1, e2⟩ := bind_some e0
 refine ⟨_, fun _ => [], fl, ps', RS.start r hl hn, e1, ?_⟩
 have sm : ∀ {H' : Hp}, Frm (fun _ => []) H H' -> SameK H H' := fun k => ⟨fun a o h kk => k.keep a o h kk (fun _ => by simp), k.grow⟩
 cases fl with
 | ret d' =>
  cases e2
  exact fun v σ' H' F' fv s o rv => q v H' fv (sm s.fr) (fun a ha => (o.nw a ha).elim (fun ⟨j, hj⟩ => absurd hj (by simp)) id) o.nd rv
 | nx =>
  cases e2
  exact fun σ' H' F' s => q .non H' [] (sm s.fr) (fun a ha => absurd ha (by simp)) List.nodup_nil .non
 | bk => cases e2
 | ct => cases e2
end
section
variable {X : Cx} {U : tz9} {e : Expr} {es : List Expr} {g : tz3} {pos p : Pos}
theorem eM {x : Str} {st : Stmt} {ps : List Str} {f : Addr} {fd : FuncData} {k np : Nat} {h : tz6} (Dd : Dn X.K X.mg x st ps f fd) (G : FnOk X.prog X.w X.K X.mg X.base CX0 k f fd ps (SpP np X.K U h)) (hr : Room k X.A) (hg : Gl X x) (hnp : (e :: es).length = np) (ha : QVA X U (e :: es) g)
  (hlen : ∀ ps ds, g ps = some ds -> ds.length = (e :: es).length)
  (hdb : (x == ("__debug__" : Str)) = false := by decide) (he : starEach (e :: es) X.env = (false, eval e X.env) :: starEach es X.env := by rfl) (hpl : (backTo pos (starEach es X.env)).any (·.1) = false := by rfl) :
  QP X U (.Call (.Name x p) (e :: es) [] pos) (aG h g) := (zq9 Dd G hr hg ha hdb he hpl).imp fun σ H Q hh_ => by
 obtain ⟨ps, d, w, e, q⟩ := hh_
 obtain ⟨ds, e1, e2⟩ := bind_some e
 refine ⟨ps, ds, w, e1, fun vs H1 fp s1 r1 => ?_⟩
 show SpP np X.K U h (vs ++ []) H1 Q E0
 rw [List.append_nil]
 exact ⟨by rw [r1.length, hlen ps ds e1, hnp], ds, fp, d, r1, e2, q.after s1⟩
theorem tR {x : Str} {st : Stmt} {ps : List Str} {f : Addr} {fd : FuncData} {k : Nat} {h : tz6} (Dd : Dn X.K X.mg x st ps f fd) (G : FnOk X.prog X.w X.K X.mg X.base CX0 k f fd ps (SpP 0 X.K U h)) (hr : Room k X.A) (hg : Gl X x)
  (hdb : (x == ("__debug__" : Str)) = false := by decide) : QP X U (.Call (.Name x p) [] [] pos) (aG h aD) := (yo9 Dd G hr hg hdb).imp fun σ H Q hh_ => by
 obtain ⟨ps, d, w, e, q⟩ := hh_
 obtain ⟨ds, e1, e2⟩ := bind_some e
 cases e1
 exact ⟨rfl, [], [], d, .nil, e2, q⟩
theorem dA : ∀ (ps : PSt) (ds : List D), aD ps = some ds -> ds.length = ([] : List Expr).length := fun _ _ h => by cases h; rfl
theorem bA {f : tz2} (h : ∀ ps ds, g ps = some ds -> ds.length = es.length) : ∀ (ps : PSt) (ds : List D), aB f g ps = some ds -> ds.length = (e :: es).length := fun ps ds q => by
 obtain ⟨d, es', _, e2, rfl⟩ := sC q
 rw [List.length_cons, List.length_cons, h ps es' e2]
end
noncomputable def qA (pick : List (Option Nat)) (ps : PSt) : PSt := pick.map fun o => o.bind fun j => (ps[j]?).join
noncomputable def nI (psb : PSt) (ft : tz4) (fe : tz2) : List D -> Option (List D)
 | [] => some []
 | d :: ds => (ft (psb.set 0 (some d))).bind fun b => if b = true then (fe (psb.set 0 (some d))).bind fun r => (nI psb ft fe ds).bind fun rs => some (r :: rs) else nI psb ft fe ds
noncomputable def yP (pick : List (Option Nat)) (fi : tz3) (ft : tz4) (fe : tz2) : tz2 := fun ps => (fi ps).bind fun ds => if ds.length <= sizeLine then (nI (qA pick ps) ft fe ds).bind fun rs => some (.lst true rs) else none
noncomputable def xB : tz4 := fun _ => some true
theorem WS.sub {K : tz0} {U : tz9} {H : Hp} {σ : St} {ps : PSt} (pick : List (Option Nat)) (w : WS K U H σ ps) : WS K U H (oZ pick σ) (qA pick ps) := fun i d h => by
 unfold qA at h
 unfold oZ
 rw [List.getElem?_map] at h |-
 cases e : pick[i]? with
 | none => rw [e] at h; cases h
 | some o =>
  rw [e] at h
  cases o with
  | none => cases h
  | some j =>
   have h' : (ps[j]?).join = some d := Option.some.inj h
   obtain ⟨v, fp, h1, h2⟩ := w j d (join_some h')
   refine ⟨v, fp, ?_, h2⟩
   show some ((σ[j]?).join) = some (some v)
   rw [h1]; rfl
theorem WS.set0 {K : tz0} {U : tz9} {H : Hp} {σ : St} {ps : PSt} {v : V} {d : D} {fp : List Addr} (w : ∀ (i : Nat) (d : D), i ≠ 0 -> ps[i]? = some (some d) -> ∃ v fp, σ[i]? = some (some v) /\ Rep K U H v d fp) (hl : ps.length <= σ.length) (r : Rep K U H v d fp) : WS K U H (σ.set 0 (some v)) (ps.set 0 (some d)) := fun i d' h => by
 by_cases e : i = 0
 ·subst e
  by_cases hp : 0 < ps.length
  ·rw [List.getElem?_set_self hp] at h
   cases h
   exact ⟨v, fp, by rw [List.getElem?_set_self (by omega)], r⟩
  ·rw [List.getElem?_eq_none (by simpa using hp)] at h; cases h
 ·rw [List.getElem?_set_ne (fun z => e z.symm)] at h |-
  exact w i d' e h
section
variable {X : Cx} {U : tz9} {sc : Scope} {NX N : List Str} {pick : List (Option Nat)} {elt iter : Expr} {ifs : List Expr} {scope : Scope} {pos px : Pos} {x : Str} {fi : tz3} {ft : tz4} {fe : tz2}
theorem PTs.imp {X : Cx} {ifs : List Expr} {t t' : TT} (h : PTs X ifs t) (k : ∀ σ H Q, t' σ H Q -> t σ H Q) : PTs X ifs t' := fun pins s σ H Q I q => h pins s σ H Q I (k σ H Q q)
theorem zJ {X : Cx} : PTs X [] (tQ X.K U xB) := yp0.imp fun σ H Q ⟨ps, b, w, e, q⟩ => by cases e; exact q H (.refl H)
structure Grown (K : tz0) (U : tz9) (H1 : Hp) (Dd : Addr) (H' : Hp) (vs : List V) (rs : List D) (fv : List Addr) : Prop where
 same : SameK H1 H'
 at_ : H' Dd = some (.lst vs)
 rep : Reps K U H' vs rs fv
 new : ∀ a ∈ fv, H1 a = none
 ne : Dd ∉ fv
 nd : fv.Nodup
noncomputable def yv7 (K : tz0) (U : tz9) (J : It) (Dd : Addr) (q : Hp -> Prop) (V : Nat -> Nat -> St -> Hp -> Prop) (ft : tz4) (fe : tz2) (i m : Nat) (σ' : St) (H' : Hp) : Prop :=
  (J.stop i H' /\ q H') \/ (J.go i H' /\ ∀ x H2, J.yld i H' x H2 -> nF 0 x σ' H2 fun σ3 H3 => tQ K U ft σ3 H3 fun b H4 =>
   if b = true then tP K U fe σ3 H4 fun y H5 => ∃ ys, H5 Dd = some (.lst ys) /\ ys.length < sizeLine /\ ∃ m', m' < m /\ V (i + 1) m' σ3 (upd H5 Dd (.lst (ys ++ [y]))) else ∃ m', m' < m /\ V (i + 1) m' σ3 H4)
noncomputable def yz0 (K : tz0) (U : tz9) (H1 : Hp) (Dd : Addr) (pick : List (Option Nat)) (ps : PSt) (ft : tz4) (fe : tz2) (ds rs : List D) (i m : Nat) (σ' : St) (H' : Hp) : Prop := i <= ds.length /\ m = ds.length - i /\ (∀ (j : Nat) (d : D), j ≠ 0 -> (qA pick ps)[j]? = some (some d) -> ∃ v fp, σ'[j]? = some (some v) /\ Rep K U H1 v d fp) /\ (qA pick ps).length <= σ'.length /\
  ∃ vs fv done rest, Grown K U H1 Dd H' vs done fv /\ done.length <= i /\ nI (qA pick ps) ft fe (ds.drop i) = some rest /\ rs = done ++ rest
theorem yd6 {pick : List (Option Nat)} {J : It} {Z : List Addr} {σ : St} {ps : PSt} {H1 : Hp} {Dd : Addr} {ds rs : List D} {Q : Addr -> Hp -> Prop} (w : WS X.K U H1 σ ps) (hD : H1 Dd = none) (W : Walk X.K U J Z H1 ds) (hz : ds.length <= sizeLine)
  (e : nI (qA pick ps) ft fe ds = some rs) (q : ∀ H' vs fv, Grown X.K U H1 Dd H' vs rs fv -> Q Dd H') :
  ∃ V : Nat -> Nat -> St -> Hp -> Prop, (∃ m, V 0 m (oZ pick σ) (upd H1 Dd (.lst []))) /\ ∀ i m σ' H', V i m σ' H' -> yv7 X.K U J Dd (Q Dd) V ft fe i m σ' H' := by
 refine ⟨yz0 X.K U H1 Dd pick ps ft fe ds rs, ⟨_, Nat.zero_le _, rfl, fun j d _ h => w.sub pick j d h, by simp [qA, oZ], [], [], [], rs, ⟨.new hD _, eE, .nil, fun _ h => absurd h (by simp), by simp, List.nodup_nil⟩, Nat.zero_le _, by rw [List.drop_zero]; exact e, rfl⟩, ?_⟩
 rintro i m σ' H' ⟨hi, rfl, ws, wl, vs, fv, done, rest, G, hdn, er, ers⟩
 have kp : rC Z H1 H' := fun a o h t => G.same.keep a o h (t.elim mH fun t => t.1)
 by_cases hlt : i < ds.length
 ·right
  have ed : ds[i]? = some ds[i] := List.getElem?_eq_getElem hlt
  obtain ⟨hgo, hy⟩ := W.go H' kp i _ ed
  refine ⟨hgo, fun x H2 y => ?_⟩
  obtain ⟨rfl, rx⟩ := hy x H2 y
  rw [List.drop_eq_getElem_cons hlt, nI] at er
  obtain ⟨b, e1, e2⟩ := bind_some er
  have wset : WS X.K U H2 (σ'.set 0 (some x)) ((qA pick ps).set 0 (some ds[i])) := WS.set0 (fun j d hj h => by obtain ⟨v, fp, h1, h2⟩ := ws j d hj h; exact ⟨v, fp, h1, h2.same G.same⟩) wl rx
  refine ⟨_, b, wset, e1, fun H3 s3 => ?_⟩
  have keepS : ∀ (j : Nat) (d : D), j ≠ 0 -> (qA pick ps)[j]? = some (some d) -> ∃ v fp, (σ'.set 0 (some x))[j]? = some (some v) /\ Rep X.K U H1 v d fp := fun j d hj h => by
   obtain ⟨v, fp, h1, h2⟩ := ws j d hj h
   exact ⟨v, fp, by rw [List.getElem?_set_ne (fun z => hj z.symm)]; exact h1, h2⟩
  have Dkeep : ∀ {H5 : Hp}, SameK H2 H5 -> H5 Dd = some (.lst vs) := fun s => s.keep _ _ G.at_ rfl
  cases b with
  | true =>
   dsimp only
   rw [if_pos rfl] at e2 |-
   obtain ⟨r, e3, e4⟩ := bind_some e2
   obtain ⟨rs', e5, e6⟩ := bind_some e4
   cases e6
   refine ⟨_, r, wset.same s3, e3, fun y H5 fw s5 n5 nd5 r5 => ?_⟩
   have s25 := s3.trans s5
   refine ⟨vs, Dkeep s25, ?_, ds.length - (i + 1), by omega, hlt, rfl, keepS, by simpa using wl, vs ++ [y], fv ++ fw, done ++ [r], rs', ?_, ?_, e5, by rw [ers]; simp⟩
   ·have := G.rep.length; omega
   ·have hDw : Dd ∉ fw := fun z => by have := s3.grow Dd (n5 Dd z); rw [G.at_] at this; cases this
    have hup : ∀ a, a ≠ Dd -> upd H5 Dd (.lst (vs ++ [y])) a = H5 a := fun a h => cM h
    have tfk : ∀ a o, H5 a = some o -> tf o = true -> upd H5 Dd (.lst (vs ++ [y])) a = some o := fun a o h t => by
     rw [hup a]
     ·exact h
     ·rintro rfl; rw [Dkeep s25] at h; cases h; cases t
    have rv5 : Reps X.K U H5 vs done fv := G.rep.same s25
    refine ⟨⟨fun a o h k => ?_, fun a h => ?_⟩, eE, Reps.append (rv5.move tfk fun a ha => hup a fun z => G.ne (z ▸ ha)) (Reps.one (r5.move tfk fun a ha => hup a fun z => hDw (z ▸ ha))), fun a ha => ?_, fun z => ?_, ?_⟩
    ·rw [hup a (fun z => by subst z; rw [hD] at h; cases h)]
     exact (G.same.trans s25).keep a o h k
    ·by_cases z : a = Dd
     ·subst z; rw [eE] at h; cases h
     ·rw [hup a z] at h; exact (G.same.trans s25).grow a h
    ·rcases List.mem_append.mp ha with z | z
     ·exact G.new a z
     ·exact (G.same.trans s3).grow a (n5 a z)
    ·rcases List.mem_append.mp z with z | z
     ·exact G.ne z
     ·exact hDw z
    ·rw [List.nodup_append]
     refine ⟨G.nd, nd5, fun a ha b hb e => ?_⟩
     subst e
     obtain ⟨o, h, k, _⟩ := G.rep.own a ha
     have := s3.keep a o h k
     rw [n5 a hb] at this; cases this
   ·rw [List.length_append, List.length_singleton]; omega
  | false =>
   dsimp only
   rw [if_neg Bool.false_ne_true] at e2 |-
   refine ⟨ds.length - (i + 1), by omega, hlt, rfl, keepS, by simpa using wl, vs, fv, done, rest, ⟨G.same.trans s3, Dkeep s3, G.rep.same s3, G.new, G.ne, G.nd⟩, by omega, e2, ers⟩
 ·left
  have ek : i = ds.length := by omega
  subst ek
  rw [List.drop_length, nI] at er
  cases er
  rw [List.append_nil] at ers
  subst ers
  exact ⟨W.stop H' kp, q H' vs fv G⟩
theorem zK (S : CScope sc NX N pick scope) (hsc : X.env.scope = sc) (hNX : X.N = NX) (hc : X.calm = true) (hi : QIV X U (.Name x px) iter fi)
  (hg : ∀ cl fp s H, PG (cxB X N scope cl fp s H) (.Name x px) (nF 0)) (ht : ∀ cl fp s H, PTs (cxB X N scope cl fp s H) ifs (tQ X.K U ft)) (he : ∀ cl fp s H, PE (cxB X N scope cl fp s H) elt (tP X.K U fe))
  (hs : ∀ x, foldedSetIterable iter X.env x = pure x := by intro _; rfl) : QP X U (.ListComp elt [⟨.Name x px, iter, ifs, 0⟩] scope pos) (yP pick fi ft fe) :=
 (yj3 S hsc hNX hc hi hg ht he hs).imp fun σ H Q hh_ => by
  obtain ⟨ps, d, w, e, q⟩ := hh_
  obtain ⟨ds, e1, e2⟩ := bind_some e
  obtain ⟨hz, e3⟩ := cN e2
  obtain ⟨rs, e4, e5⟩ := bind_some e3
  cases e5
  refine ⟨ps, ds, w, e1, fun J H1 Z s1 W Dd hD => ?_⟩
  refine yd6 (Q := fun Dd H' => Q (.ref Dd) H') (w.same s1) hD W hz e4 fun H' vs fv G => ?_
  refine q _ H' (Dd :: fv) (s1.trans G.same) (fun a ha => ?_) (List.nodup_cons.mpr ⟨G.ne, G.nd⟩) (.lst G.at_ G.rep)
  rcases List.mem_cons.mp ha with z | z
  ·rw [z]; exact s1.grow Dd hD
  ·exact s1.grow a (G.new a z)
end
inductive Ps1 where
 | ix (n : Nat) | fld (f : Str)
noncomputable def bI : List Str -> Str -> Option Nat
 | [], _ => none
 | n :: ns, f => if n = f then some 0 else (bI ns f).map (· + 1)
noncomputable def bM {α : Type} (h : D -> Option (α × D)) : D -> List Ps1 -> Option (α × D)
 | d, [] => h d
 | .lst true xs, .ix n :: p => (xs[n]?).bind fun d => (bM h d p).bind fun r => some (r.1, .lst true (xs.set n r.2))
 | .obj true C ns vs, .fld f :: p => (bI ns f).bind fun n => (vs[n]?).bind fun d => (bM h d p).bind fun r => some (r.1, .obj true C ns (vs.set n r.2))
 | _, _ => none
noncomputable def bV : D -> List Ps1 -> Option D
 | d, [] => some d
 | .lst true xs, .ix n :: p => (xs[n]?).bind fun d => bV d p
 | .obj true _ ns vs, .fld f :: p => (bI ns f).bind fun n => (vs[n]?).bind fun d => bV d p
 | _, _ => none
noncomputable def At (H : Hp) : V -> List Ps1 -> V -> Prop
 | v0, [], v => v = v0
 | v0, .ix n :: p, v => ∃ a vs v1, v0 = .ref a /\ H a = some (.lst vs) /\ vs[n]? = some v1 /\ At H v1 p v
 | v0, .fld f :: p, v => ∃ a C dx fs n v1, v0 = .ref a /\ H a = some (.ins C dx fs) /\ bI (fs.map (·.1)) f = some n /\ (fs.map (·.2))[n]? = some v1 /\ At H v1 p v
theorem At.same {H H' : Hp} (s : SameK H H') : ∀ {p : List Ps1} {v0 v : V}, At H v0 p v -> At H' v0 p v
 | [], _, _, h => h
 | .ix n :: p, _, _, ⟨a, vs, v1, h1, h2, h3, h4⟩ => ⟨a, vs, v1, h1, s.keep _ _ h2 rfl, h3, At.same s h4⟩
 | .fld f :: p, _, _, ⟨a, C, dx, fs, n, v1, h1, h2, h3, h4, h5⟩ => ⟨a, C, dx, fs, n, v1, h1, s.keep _ _ h2 rfl, h3, h4, At.same s h5⟩
theorem At.snoc_ix {H : Hp} {a : Addr} {vs : List V} {n : Nat} {v : V} (h : H a = some (.lst vs)) (hv : vs[n]? = some v) : ∀ {p : List Ps1} {v0 : V}, At H v0 p (.ref a) -> At H v0 (p ++ [.ix n]) v
 | [], _, e => ⟨a, vs, v, e.symm, h, hv, rfl⟩
 | .ix m :: p, _, ⟨b, us, v1, h1, h2, h3, h4⟩ => ⟨b, us, v1, h1, h2, h3, At.snoc_ix h hv h4⟩
 | .fld f :: p, _, ⟨b, C, dx, fs, m, v1, h1, h2, h3, h4, h5⟩ => ⟨b, C, dx, fs, m, v1, h1, h2, h3, h4, At.snoc_ix h hv h5⟩
theorem At.snoc_fld {H : Hp} {a C dx : Addr} {fs : List (Str × V)} {f : Str} {n : Nat} {v : V} (h : H a = some (.ins C dx fs)) (hn : bI (fs.map (·.1)) f = some n) (hv : (fs.map (·.2))[n]? = some v) : ∀ {p : List Ps1} {v0 : V}, At H v0 p (.ref a) -> At H v0 (p ++ [.fld f]) v
 | [], _, e => ⟨a, C, dx, fs, n, v, e.symm, h, hn, hv, rfl⟩
 | .ix m :: p, _, ⟨b, us, v1, h1, h2, h3, h4⟩ => ⟨b, us, v1, h1, h2, h3, At.snoc_fld h hn hv h4⟩
 | .fld f' :: p, _, ⟨b, C', dx', fs', m, v1, h1, h2, h3, h4, h5⟩ => ⟨b, C', dx', fs', m, v1, h1, h2, h3, h4, At.snoc_fld h hn hv h5⟩
theorem zn4 {α : Type} {h : D -> Option (α × D)} {d0 : D} {n : Nat} {p : List Ps1} {r : α} {d' : D} (e : bM h d0 (.ix n :: p) = some (r, d')) : ∃ xs d1 d2, d0 = .lst true xs /\ xs[n]? = some d1 /\ bM h d1 p = some (r, d2) /\ d' = .lst true (xs.set n d2) := by
 unfold bM at e
 split at e
 ·rename_i z; cases z
 ·rename_i z; cases z
  obtain ⟨d1, h1, h2⟩ := bind_some e
  obtain ⟨⟨r1, d2⟩, h3, h4⟩ := bind_some h2
  cases h4
  exact ⟨_, _, _, rfl, h1, h3, rfl⟩
 ·rename_i z; cases z
 ·cases e
theorem zg5 {α : Type} {h : D -> Option (α × D)} {d0 : D} {f : Str} {p : List Ps1} {r : α} {d' : D} (e : bM h d0 (.fld f :: p) = some (r, d')) : ∃ C ns xs n d1 d2, d0 = .obj true C ns xs /\ bI ns f = some n /\ xs[n]? = some d1 /\ bM h d1 p = some (r, d2) /\ d' = .obj true C ns (xs.set n d2) := by
 unfold bM at e
 split at e
 ·rename_i z; cases z
 ·rename_i z; cases z
 ·rename_i z; cases z
  obtain ⟨n, h0, h9⟩ := bind_some e
  obtain ⟨d1, h1, h2⟩ := bind_some h9
  obtain ⟨⟨r1, d2⟩, h3, h4⟩ := bind_some h2
  cases h4
  exact ⟨_, _, _, _, _, _, rfl, h0, h1, h3, rfl⟩
 ·cases e
theorem zL {d0 d : D} {n : Nat} {p : List Ps1} (e : bV d0 (.ix n :: p) = some d) : ∃ xs d1, d0 = .lst true xs /\ xs[n]? = some d1 /\ bV d1 p = some d := by
 unfold bV at e
 split at e
 ·rename_i z; cases z
 ·rename_i z; cases z
  obtain ⟨d1, h1, h2⟩ := bind_some e
  exact ⟨_, _, rfl, h1, h2⟩
 ·rename_i z; cases z
 ·cases e
theorem wL {d0 d : D} {f : Str} {p : List Ps1} (e : bV d0 (.fld f :: p) = some d) : ∃ C ns xs n d1, d0 = .obj true C ns xs /\ bI ns f = some n /\ xs[n]? = some d1 /\ bV d1 p = some d := by
 unfold bV at e
 split at e
 ·rename_i z; cases z
 ·rename_i z; cases z
 ·rename_i z; cases z
  obtain ⟨n, h0, h9⟩ := bind_some e
  obtain ⟨d1, h1, h2⟩ := bind_some h9
  exact ⟨_, _, _, _, _, rfl, h0, h1, h2⟩
 ·cases e
theorem mJ {α : Type} {h : D -> Option (α × D)} {r : α} {d' : D} {p : List Ps1} : ∀ {d0 : D}, bM h d0 p = some (r, d') -> ∃ d dn, bV d0 p = some d /\ h d = some (r, dn) := by
 induction p generalizing d' with
 | nil => intro d0 e; rw [bM] at e; exact ⟨d0, d', by rw [bV], e⟩
 | cons s p ih =>
  intro d0 e
  cases s with
  | ix m =>
   obtain ⟨xs, d1, d2, rfl, h1, h3, rfl⟩ := zn4 e
   obtain ⟨d, dn, g1, g2⟩ := ih h3
   refine ⟨d, dn, ?_, g2⟩
   show (xs[m]?).bind _ = _
   rw [h1]; exact g1
  | fld f =>
   obtain ⟨C, ns, xs, m, d1, d2, rfl, h0, h1, h3, rfl⟩ := zg5 e
   obtain ⟨d, dn, g1, g2⟩ := ih h3
   refine ⟨d, dn, ?_, g2⟩
   show (bI ns f).bind _ = _
   rw [h0]
   show (xs[m]?).bind _ = _
   rw [h1]; exact g1
section
variable {K : tz0} {U : tz9} {H : Hp}
theorem Reps.focus : ∀ {vs : List V} {ds : List D} {g : List Addr} {n : Nat} {d1 : D} {v1 : V}, Reps K U H vs ds g -> ds[n]? = some d1 -> vs[n]? = some v1 -> ∃ f1 rest, Rep K U H v1 d1 f1 /\ g.Perm (f1 ++ rest) /\
  ∀ (H' : Hp) (d' : D) (f' : List Addr), (∀ a o, H a = some o -> tf o = true -> H' a = some o) -> (∀ a ∈ rest, H' a = H a) -> Rep K U H' v1 d' f' -> ∃ g', Reps K U H' vs (ds.set n d') g' /\ g'.Perm (f' ++ rest)
 | _, _, _, _, _, _, .nil, e, _ => by simp at e
 | _, _, _, 0, _, _, .cons (f := f) (g := g) h hs, e, e' => by
  simp at e e'; subst e; subst e'
  exact ⟨f, g, h, .refl _, fun H' d' f' t k r => ⟨f' ++ g, .cons r (hs.move t k), .refl _⟩⟩
 | _, _, _, n + 1, _, _, .cons (f := f) (g := g) h hs, e, e' => by
  obtain ⟨f1, rest, h1, h2, h3⟩ := Reps.focus (n := n) hs (by simpa using e) (by simpa using e')
  refine ⟨f1, f ++ rest, h1, ?_, fun H' d' f' t k r => ?_⟩
  ·refine (h2.append_left f).trans ?_
   rw [<- List.append_assoc, <- List.append_assoc]
   exact List.perm_append_comm.append_right rest
  ·obtain ⟨g', r1, r2⟩ := h3 H' d' f' t (fun a ha => k a (List.mem_append_right _ ha)) r
   refine ⟨f ++ g', .cons (h.move t fun a ha => k a (List.mem_append_left _ ha)) r1, ?_⟩
   refine (r2.append_left f).trans ?_
   rw [<- List.append_assoc, <- List.append_assoc]
   exact List.perm_append_comm.append_right rest
theorem zb3 {b : Addr} {g f1 fd rest rest1 : List Addr} (k2 : g.Perm (f1 ++ rest1)) (m3 : f1.Perm (fd ++ rest)) : (b :: g).Perm (fd ++ b :: (rest ++ rest1)) := by
 refine ((k2.trans (m3.append_right rest1)).cons b).trans ?_
 rw [List.append_assoc]
 exact List.perm_middle.symm
noncomputable def Foc (K : tz0) (U : tz9) (H : Hp) {α : Type} (h : D -> Option (α × D)) (r : α) (v v0 : V) (d0' : D) (fp : List Addr) : Prop := ∃ d d' fd rest, Rep K U H v d fd /\ h d = some (r, d') /\ fp.Perm (fd ++ rest) /\
  ∀ (H' : Hp) (f' : List Addr), (∀ a o, H a = some o -> tf o = true -> H' a = some o) -> (∀ a ∈ rest, H' a = H a) -> Rep K U H' v d' f' -> ∃ fp', Rep K U H' v0 d0' fp' /\ fp'.Perm (f' ++ rest)
theorem focus {α : Type} {h : D -> Option (α × D)} {r : α} {p : List Ps1} : ∀ {v0 v : V} {d0 d0' : D} {fp : List Addr}, Rep K U H v0 d0 fp -> bM h d0 p = some (r, d0') -> At H v0 p v -> Foc K U H h r v v0 d0' fp := by
 induction p with
 | nil =>
  intro v0 v d0 d0' fp R e a
  rw [bM] at e
  cases (show v = v0 from a)
  exact ⟨d0, d0', fp, [], R, e, by rw [List.append_nil], fun H' f' t k r => ⟨f', r, by rw [List.append_nil]⟩⟩
 | cons s p ih =>
  intro v0 v d0 d0' fp R e a
  have deep : ∀ (b : Addr) (vs : List V) (xs : List D) (n : Nat) (d1 d2 : D) (v1 : V) (g : List Addr), fp = b :: g -> Reps K U H vs xs g -> xs[n]? = some d1 -> vs[n]? = some v1 -> bM h d1 p = some (r, d2) -> At H v1 p v -> (∀ (H' : Hp) (g2 : List Addr), H' b = H b -> Reps K U H' vs (xs.set n d2) g2 -> Rep K U H' v0 d0' (b :: g2)) ->
    Foc K U H h r v v0 d0' fp := fun b vs xs n d1 d2 v1 g ef hs h1 e3 h3 e4 mk => by
   subst ef
   obtain ⟨f1, rest1, k1, k2, k3⟩ := hs.focus h1 e3
   obtain ⟨d, d', fd, rest, m1, m2, m3, m4⟩ := ih k1 h3 e4
   refine ⟨d, d', fd, b :: (rest ++ rest1), m1, m2, zb3 k2 m3, fun H' f' t k rr => ?_⟩
   obtain ⟨g1, q1, q2⟩ := m4 H' f' t (fun a ha => k a (List.mem_cons_of_mem _ (List.mem_append_left _ ha))) rr
   obtain ⟨g2, q3, q4⟩ := k3 H' d2 g1 t (fun a ha => k a (List.mem_cons_of_mem _ (List.mem_append_right _ ha))) q1
   exact ⟨b :: g2, mk H' g2 (k b List.mem_cons_self) q3, zb3 q4 q2⟩
  cases s with
  | ix n =>
   obtain ⟨b, vs, v1, e1, e2, e3, e4⟩ := a
   subst e1
   obtain ⟨xs, d1, d2, rfl, h1, h3, rfl⟩ := zn4 e
   obtain ⟨_, _, g, e5, hb, hs, ef⟩ := R.lstT_inv
   cases e5
   rw [e2] at hb; cases hb
   exact deep b vs xs n d1 d2 v1 g ef hs h1 e3 h3 e4 fun H' g2 k q3 => .lst (k.trans e2) q3
  | fld f =>
   obtain ⟨b, C, dx, fs, n, v1, e1, e2, e2', e3, e4⟩ := a
   subst e1
   obtain ⟨C', ns, xs, n', d1, d2, rfl, h0, h1, h3, rfl⟩ := zg5 e
   obtain ⟨_, _, _, g, e5, hb, hn, hs, ef⟩ := R.objT_inv
   cases e5
   rw [e2] at hb; cases hb
   subst hn
   rw [e2'] at h0; cases h0
   exact deep b _ xs n d1 d2 v1 g ef hs h1 e3 h3 e4 fun H' g2 k q3 => .obj (k.trans e2) rfl q3
end
theorem rO {φ : Fx} {α : Type} {h : D -> Option (α × D)} {r : α} {H H1 : Hp} {σ : St} {ps : PSt} {F : Nat -> List Addr} {j : Nat} {d0 d0' : D} {v0 v : V} {p : List Ps1} (R : RS φ H σ ps F) (s1 : SameK H H1) (hb : φ.bor j = false) (e0 : ps[j]? = some (some d0)) (ev : σ[j]? = some (some v0))
  (em : bM h d0 p = some (r, d0')) (at_ : At H1 v0 p v) : ∃ d d' fd, Rep φ.K φ.U H1 v d fd /\ h d = some (r, d') /\ fd.Nodup /\ (∀ a ∈ fd, a ∈ F j) /\
  ∀ (H' : Hp) (fd' fr : List Addr), (∀ a o, H1 a = some o -> kd o = true -> a ∉ fd -> H' a = some o) -> (∀ a, H' a = none -> H1 a = none) -> Rep φ.K φ.U H' v d' fd' -> (fd' ++ fr).Nodup -> (∀ a ∈ fd' ++ fr, a ∈ fd \/ H a = none) ->
   ∃ F', Stp φ σ H F σ H' (ps.set j (some d0')) F' /\ OwnV F H F' fr := by
 obtain ⟨v0', fp, h1, h2, h3, _⟩ := R.rep j d0 e0
 rw [ev] at h1; cases h1
 have h3 := h3 hb
 subst h3
 obtain ⟨d, d', fd, rest, m1, m2, m3, m4⟩ := focus (h2.same s1) em at_
 have ndF := R.nd j
 have ndp : (fd ++ rest).Nodup := m3.nodup_iff.mp ndF
 obtain ⟨nd1, nd2, nd3⟩ := List.nodup_append.mp ndp
 have inF : ∀ a, a ∈ fd \/ a ∈ rest -> a ∈ F j := fun a ha => m3.mem_iff.mpr (List.mem_append.mpr ha)
 refine ⟨d, d', fd, m1, m2, nd1, fun a ha => inF a (.inl ha), fun H' fd' fr k1 k2 k3 k4 k5 => ?_⟩
 have tfk : ∀ a o, H1 a = some o -> tf o = true -> H' a = some o := fun a o ha t => k1 a o ha (mH t) fun hm => by
  obtain ⟨o', q, _, q'⟩ := m1.own a hm
  rw [ha] at q; cases q; rw [t] at q'; cases q'
 have keepO : ∀ a, (∃ i, a ∈ F i) -> a ∉ fd -> H' a = H1 a := fun a ⟨i, hi⟩ hn => by
  obtain ⟨o, q, q', _⟩ := R.own hi
  have q1 := s1.keep a o q q'
  rw [q1]; exact k1 a o q1 q' hn
 have notfd : ∀ a, a ∈ rest -> a ∉ fd := fun a hr hf => nd3 a hf a hr rfl
 obtain ⟨fp', r1, r2⟩ := m4 H' fd' tfk (fun a ha => keepO a ⟨j, inF a (.inr ha)⟩ (notfd a ha)) k3
 obtain ⟨kd1, kd2, kd3⟩ := List.nodup_append.mp k4
 have memfp : ∀ a, a ∈ fp' -> a ∈ fd' \/ a ∈ rest := fun a ha => List.mem_append.mp (r2.mem_iff.mp ha)
 have lt : j < ps.length := (List.getElem?_eq_some_iff.mp e0).1
 have old : ∀ a, a ∈ fd' ++ fr -> ∀ i, a ∈ F i -> a ∈ fd := fun a ha i hi => (k5 a ha).elim id fun z => by
  obtain ⟨o, q, _⟩ := R.own hi
  rw [z] at q; cases q
 refine ⟨rB F j fp', ⟨⟨fun a o ha hk hn => ?_, fun a ha => s1.grow a (k2 a ha)⟩, fun i a ha => ?_, ⟨fun i d2 hi => ?_, fun i a ha => ?_, fun i k a ha hk => ?_, fun i => ?_, fun i a ha kk hB => ?_, fun kk a hB z => R.bt kk a hB (s1.grow a (k2 a z)), by simpa using R.len⟩, fun _ _ => rfl⟩, ⟨fun a ha => ?_, kd2, fun i a ha hr => ?_⟩⟩
 ·exact k1 a o (s1.keep a o ha hk) hk fun hm => hn j (inF a (.inl hm))
 ·rcases jU ha with z | z
  ·rcases memfp a z with z | z
   ·exact (k5 a (List.mem_append_left _ z)).elim (fun z => .inl ⟨j, inF a (.inl z)⟩) .inr
   ·exact .inl ⟨j, inF a (.inr z)⟩
  ·exact .inl ⟨i, z⟩
 ·by_cases e : i = j
  ·subst e
   rw [List.getElem?_set_self lt] at hi
   cases hi
   exact ⟨v0, fp', ev, r1, fun _ => fD.symm, fun z => by rw [hb] at z; cases z⟩
  ·rw [List.getElem?_set_ne (fun z => e z.symm)] at hi
   obtain ⟨v2, f2, q1, q2, q3, q4⟩ := R.rep i d2 hi
   refine ⟨v2, f2, q1, (q2.same s1).move tfk fun a ha => ?_, fun z => by rw [fF e]; exact q3 z, q4⟩
   obtain ⟨o, w1, w2, _⟩ := q2.own a ha
   have w3 := s1.keep a o w1 w2
   rw [w3]
   refine k1 a o w3 w2 fun hm => ?_
   have hF := inF a (.inl hm)
   cases hbi : φ.bor i with
   | true => exact R.nb j a hF i (q4 hbi a ha)
   | false => rw [q3 hbi] at ha; exact e (R.dis i j a ha hF)
 ·by_cases e : i = j
  ·subst e; exact ⟨hb, d0', by rw [List.getElem?_set_self lt]⟩
  ·rw [fF e] at ha
   obtain ⟨b1, d1, b2⟩ := R.emp i a ha
   exact ⟨b1, d1, by rw [List.getElem?_set_ne (fun z => e z.symm)]; exact b2⟩
 ·have hh : ∀ a, a ∈ fp' -> ∀ i, i ≠ j -> a ∈ F i -> False := fun a ha i hij hi => by
   rcases memfp a ha with z | z
   ·exact hij (R.dis i j a hi (inF a (.inl (old a (List.mem_append_left _ z) i hi))))
   ·exact hij (R.dis i j a hi (inF a (.inr z)))
  by_cases e1 : i = j
  ·by_cases e2 : k = j
   ·rw [e1, e2]
   ·subst e1; rw [fD] at ha; rw [fF e2] at hk; exact (hh a ha k e2 hk).elim
  ·by_cases e2 : k = j
   ·subst e2; rw [fD] at hk; rw [fF e1] at ha; exact (hh a hk i e1 ha).elim
   ·rw [fF e1] at ha; rw [fF e2] at hk; exact R.dis i k a ha hk
 ·by_cases e : i = j
  ·subst e
   rw [fD]
   refine r2.nodup_iff.mpr (List.nodup_append.mpr ⟨kd1, nd2, fun a ha b hb' e => ?_⟩)
   subst e
   exact notfd a hb' (old a (List.mem_append_left _ ha) i (inF a (.inr hb')))
  ·rw [fF e]; exact R.nd i
 ·rcases jU ha with z | z
  ·rcases memfp a z with z | z
   ·exact R.notB ((k5 a (List.mem_append_left _ z)).elim (fun z => .inl ⟨j, inF a (.inl z)⟩) .inr) kk hB
   ·exact R.nb j a (inF a (.inr z)) kk hB
  ·exact R.nb i a z kk hB
 ·exact (k5 a (List.mem_append_right _ ha)).elim (fun z => .inl ⟨j, inF a (.inl z)⟩) .inr
 ·rcases jU ha with z | z
  ·rcases memfp a z with z | z
   ·exact kd3 a z a hr rfl
   ·exact notfd a z (old a (List.mem_append_right _ hr) j (inF a (.inr z)))
  ·have := old a (List.mem_append_right _ hr) i z
   by_cases e : i = j
   ·subst e
    rw [fD] at ha
    rcases memfp a ha with w | w
    ·exact kd3 a w a hr rfl
    ·exact notfd a w this
   ·exact e (R.dis i j a z (inF a (.inl this)))
noncomputable def gB (K : tz0) (U : tz9) (j : Nat) (pf : PSt -> Option (List Ps1)) : TE := fun σ H Q => ∃ ps p d0 d, WS K U H σ ps /\ ps[j]? = some (some d0) /\ pf ps = some p /\ bV d0 p = some d /\ ∀ v H' v0, SameK H H' -> σ[j]? = some (some v0) -> At H' v0 p v -> Q v H'
theorem wM {K : tz0} {U : tz9} {H : Hp} {v0 v : V} {d0 d : D} {fp : List Addr} {p : List Ps1} (R : Rep K U H v0 d0 fp) (g : bV d0 p = some d) (a : At H v0 p v) : ∃ fd, Rep K U H v d fd := by
 have key : ∀ {p : List Ps1} {v0 v : V} {d0 d : D} {fp : List Addr}, Rep K U H v0 d0 fp -> bV d0 p = some d -> At H v0 p v -> ∃ fd, Rep K U H v d fd := by
  intro p
  induction p with
  | nil => intro v0 v d0 d fp R g a; cases g; cases (show v = v0 from a); exact ⟨fp, R⟩
  | cons s p ih =>
   intro v0 v d0 d fp R g a
   cases s with
   | ix n =>
    obtain ⟨b, vs, v1, e1, e2, e3, e4⟩ := a
    subst e1
    obtain ⟨xs, d1, rfl, h1, h2⟩ := zL g
    obtain ⟨_, _, _, e5, hb, hs, _⟩ := R.lstT_inv
    cases e5
    rw [e2] at hb; cases hb
    obtain ⟨v', f, q1, q2, _⟩ := hs.get h1
    rw [e3] at q1; cases q1
    exact ih q2 h2 e4
   | fld f =>
    obtain ⟨b, C, dx, fs, n, v1, e1, e2, e2', e3, e4⟩ := a
    subst e1
    obtain ⟨C', ns, xs, n', d1, rfl, h0, h1, h2⟩ := wL g
    obtain ⟨_, _, _, _, e5, hb, hn, hs, _⟩ := R.objT_inv
    cases e5
    rw [e2] at hb; cases hb
    subst hn
    rw [e2'] at h0; cases h0
    obtain ⟨v', f, q1, q2, _⟩ := hs.get h1
    rw [e3] at q1; cases q1
    exact ih q2 h2 e4
 exact key R g a
noncomputable def aP : PSt -> Option (List Ps1) := fun _ => some []
noncomputable def dF (j : Nat) (pf : PSt -> Option (List Ps1)) (fb : tz2) : PSt -> Option (List Ps1) := fun ps => (pf ps).bind fun p => ((ps[j]?).join).bind fun d0 => (bV d0 p).bind fun d => (fb ps).bind fun y => match d, y with
 | .lst true xs, .int i => (ixN xs.length i).bind fun n => some (p ++ [.ix n])
 | _, _ => none
noncomputable def gC (j : Nat) (pf : PSt -> Option (List Ps1)) (C f : Str) : PSt -> Option (List Ps1) := fun ps => (pf ps).bind fun p => ((ps[j]?).join).bind fun d0 => (bV d0 p).bind fun d => match d with
 | .obj true C' _ _ => if C' = C then some (p ++ [.fld f]) else none
 | _ => none
theorem pQ : ∀ {fs : List (Str × V)} {f : Str} {n : Nat} {v : V}, bI (fs.map (·.1)) f = some n -> (fs.map (·.2))[n]? = some v -> fs.lookup f = some v
 | [], _, _, _, h, _ => by cases h
 | (g, u) :: fs, f, n, v, h, hv => by
  rw [List.map_cons, bI] at h
  by_cases e : g = f
  ·rw [if_pos e] at h
   cases h
   rw [List.lookup_cons]
   have : (f == g) = true := by simp [e]
   rw [this]
   simpa using hv
  ·rw [if_neg e] at h
   cases q : bI (fs.map (·.1)) f with
   | none => rw [q] at h; cases h
   | some m =>
    rw [q] at h; cases h
    rw [List.lookup_cons]
    have : (f == g) = false := by simp; exact fun z => e z.symm
    rw [this]
    exact pQ q (by simpa using hv)
section
variable {X : Cx} {φ : F0} {U : tz9} {K : tz0} {o e a b : Expr} {f fb fe : tz2} {g : tz3} {pf : PSt -> Option (List Ps1)} {j : Nat} {pos apos : Pos}
theorem bH (j : Nat) {x : Str} (hN : X.N[j]? = some x := by rfl) (hv : Vis X.env.scope x := by first | exact Or.inl rfl | exact Or.inr (Or.inl rfl) | exact Or.inr (Or.inr rfl)) (hd : (x == ("__debug__" : Str)) = false := by decide)
  (hcd : (x == ("__classdict__" : Str)) = false := by decide) : PE X (.Name x pos) (gB K U j aP) := (pM hN hv hd hcd).imp fun σ H Q hh_ => by
 obtain ⟨ps, p, d0, d, w, e0, ep, eg, q⟩ := hh_
 cases ep
 obtain ⟨v, fp, h1, h2⟩ := w j d0 e0
 exact ⟨v, h1, q v H v (.refl H) h1 rfl⟩
theorem iL (ha : PE X a (gB X.K U j pf)) (hb : QV X U b fb) (hs : nZ b := by exact fun _ _ => rfl) : PE X (.Subscript a b pos) (gB X.K U j (dF j pf fb)) :=
 (zd4 zC ha hb hs).imp fun σ H Q hh_ => by
  obtain ⟨ps, p, d0, d, w, e0, ep, eg, q⟩ := hh_
  obtain ⟨p1, e1, e2⟩ := bind_some ep
  obtain ⟨d0', e3, e4⟩ := bind_some e2
  have := join_some e3
  rw [e0] at this; cases this
  obtain ⟨d1, e5, e6⟩ := bind_some e4
  obtain ⟨y, e7, e8⟩ := bind_some e6
  split at e8
  ·rename_i xs i
   obtain ⟨n, e9, e10⟩ := bind_some e8
   cases e10
   refine ⟨ps, p1, d0, _, w, e0, e1, e5, fun v H1 v0 s1 ev a1 => ⟨ps, _, w.same s1, e7, fun u H2 fq s2 r2 => ?_⟩⟩
   obtain ⟨v0', fp, h1, h2⟩ := w j d0 e0
   rw [ev] at h1; cases h1
   obtain ⟨fd, rd⟩ := wM (h2.same (s1.trans s2)) e5 (a1.same s2)
   obtain ⟨l, vs, g, rfl, hl, hr, _⟩ := rd.lstT_inv
   have ln := hr.length
   have hn := (uY e9).2.1
   obtain ⟨v1, hv⟩ : ∃ v1, vs[n]? = some v1 := ⟨_, List.getElem?_eq_getElem (by rw [ln]; exact hn)⟩
   refine ⟨l, vs, i, v1, rfl, r2.is_int, .inl (.inl hl), ?_, q _ H2 v0 (s1.trans s2) ev (At.snoc_ix hl hv (a1.same s2))⟩
   unfold atI
   rw [ln, e9]; exact hv
  ·cases e8
theorem tT {C fn : Str} (hc : Cls X.K (U C)) (hna : cH X.K (U C) fn) (ha : PE X a (gB X.K U j pf)) (hb : attributeBase a fn X.env (eval a X.env) = eval a X.env := by rfl) : PE X (.Attribute a fn pos) (gB X.K U j (gC j pf C fn)) :=
 (yo0 ha hb).imp fun σ H Q hh_ => by
  obtain ⟨ps, p, d0, d, w, e0, ep, eg, q⟩ := hh_
  obtain ⟨p1, e1, e2⟩ := bind_some ep
  obtain ⟨d0', e3, e4⟩ := bind_some e2
  have := join_some e3
  rw [e0] at this; cases this
  obtain ⟨d1, e5, e6⟩ := bind_some e4
  split at e6
  ·rename_i C' ns xs
   obtain ⟨hC, e7⟩ := cN e6
   subst hC
   cases e7
   refine ⟨ps, p1, d0, _, w, e0, e1, e5, fun v H1 v0 s1 ev a1 => ?_⟩
   obtain ⟨v0', fp, h1, h2⟩ := w j d0 e0
   rw [ev] at h1; cases h1
   obtain ⟨fd, rd⟩ := wM (h2.same s1) e5 a1
   have key : ∀ {p : List Ps1} {d0 : D}, bV d0 p = some (.obj true C' ns xs) -> bV d0 (p ++ [.fld fn]) = some d -> ∃ n d', bI ns fn = some n /\ xs[n]? = some d' := by
    intro p
    induction p with
    | nil =>
     intro d0 h1 h2
     cases h1
     obtain ⟨n, k1, k2⟩ := bind_some h2
     obtain ⟨d', k3, _⟩ := bind_some k2
     exact ⟨n, d', k1, k3⟩
    | cons s p ih =>
     intro d0 h1 h2
     cases s with
     | ix m =>
      obtain ⟨ys, x1, rfl, k1, k2⟩ := zL h1
      obtain ⟨_, x2, z, k3, k4⟩ := zL h2
      cases z
      rw [k1] at k3; cases k3
      exact ih k2 k4
     | fld f' =>
      obtain ⟨C2, ns2, ys, m1, x1, rfl, k0, k1, k2⟩ := wL h1
      obtain ⟨_, _, _, m2, x2, z, k5, k3, k4⟩ := wL h2
      cases z
      rw [k0] at k5; cases k5
      rw [k1] at k3; cases k3
      exact ih k2 k4
   obtain ⟨n, d', k1, k2⟩ := key e5 eg
   obtain ⟨l, dx, fs, g, rfl, hl, hn, hr, _⟩ := rd.objT_inv
   subst hn
   obtain ⟨v1, f1, k3, _⟩ := hr.get k2
   exact ⟨l, U C', dx, fs, v1, rfl, hl, hc, hna, pQ k1 k3, q _ H1 v0 s1 ev (At.snoc_fld hl k1 k3 a1)⟩
  ·cases e6
noncomputable def bE (j : Nat) (pf : PSt -> Option (List Ps1)) (g : tz3) (h : List D -> D -> Option (D × D)) : tz8 := fun ps => ((ps[j]?).join).bind fun d0 => (pf ps).bind fun p => (g ps).bind fun ys => (bM (h ys) d0 p).bind fun r => some (r.1, ps.set j (some r.2))
theorem tU {h : List D -> D -> Option (D × D)} {ps ps' : PSt} {d : D} (e : bE j pf g h ps = some (d, ps')) : ∃ d0 p ys d0', ps[j]? = some (some d0) /\ pf ps = some p /\ g ps = some ys /\ bM (h ys) d0 p = some (d, d0') /\ ps' = ps.set j (some d0') := by
 obtain ⟨d0, e1, e2⟩ := bind_some e
 obtain ⟨p, e3, e4⟩ := bind_some e2
 obtain ⟨ys, e5, e6⟩ := bind_some e4
 obtain ⟨⟨r, d0'⟩, e7, e8⟩ := bind_some e6
 cases e8
 exact ⟨d0, p, ys, d0', join_some e1, e3, e5, e7, rfl⟩
noncomputable def bD : List D -> D -> Option (D × D)
 | [y], .lst true xs => if xs.length < sizeLine then some (.non, .lst true (xs ++ [y])) else none
 | _, _ => none
theorem tW {ys : List D} {d r d' : D} (h : bD ys d = some (r, d')) : ∃ y xs, ys = [y] /\ d = .lst true xs /\ xs.length < sizeLine /\ r = .non /\ d' = .lst true (xs ++ [y]) := by
 unfold bD at h
 split at h
 ·obtain ⟨hc, e⟩ := cN h
  cases e
  exact ⟨_, _, rfl, rfl, hc, rfl, rfl⟩
 ·cases h
theorem vC {H H1 : Hp} {σ : St} {ps : PSt} {d0 d : D} {v0 v : V} {p : List Ps1} (w : WS K U H σ ps) (s1 : SameK H H1) (e0 : ps[j]? = some (some d0)) (ev : σ[j]? = some (some v0)) (g : bV d0 p = some d) (a : At H1 v0 p v) : ∃ fd, Rep K U H1 v d fd := by
 obtain ⟨v0', fp, h1, h2⟩ := w j d0 e0
 rw [ev] at h1; cases h1
 exact wM (h2.same s1) g a
theorem iY (hb : φ.bor j = false) (ho : PE X o (gB X.K U j pf)) (ha : PA X [e] (tPA X.K U g))
  (hbase : attributeBase o "append" X.env (eval o X.env) = eval o X.env := by rfl)
  (hfew : ((backTo pos (starEach [e] X.env)).all (fun x => !x.1) && (backToKw pos (keywordEach [] X.env)).all (fun x => x.1.isSome)
   && decide ([e].length + ([] : List Keyword).length + (if ([] : List Keyword).isEmpty then 0 else 1) < 30)) = true := by rfl)
  (hline : (apos.endLine == pos.line) = true := by rfl) (hs : starEach [e] X.env = (false, eval e X.env) :: starEach [] X.env := by rfl) (hplain : (backTo pos (starEach [] X.env)).any (·.1) = false := by rfl) :
  QE X U φ (.Call (.Attribute o "append" apos) [e] [] pos) (bE j pf g bD) :=
 (yg9 PySem.F.plainAttrs_list PySem.F.slot_list_append PySem.F.type_list_append za9 ho ha hbase hfew hline hs hplain).imp fun σ H Q hh_ => by
  obtain ⟨ps, F, d, ps', R, e, q⟩ := hh_
  obtain ⟨d0, p, ys, d0', e0, ep, eg, em, rfl⟩ := tU e
  obtain ⟨dd, dn, gp, hh⟩ := mJ em
  refine ⟨ps, p, d0, dd, R.ws, e0, ep, gp, fun v H1 v0 s1 ev a1 => ⟨?_, ps, ys, R.ws.same s1, eg, fun vs H2 fy s2 n2 nd2 r2 => ?_⟩⟩
  ·obtain ⟨y, xs, rfl, rfl, _⟩ := tW hh
   obtain ⟨fd, rd⟩ := vC R.ws s1 e0 ev gp a1
   obtain ⟨_, _, _, rfl, hl, hr, rfl⟩ := rd.lstT_inv
   exact .inl ⟨rfl, _, .inl (.inl hl)⟩
  ·obtain ⟨d1, d1', fd, m1, m2, m3, m4, m5⟩ := rO R (s1.trans s2) hb e0 ev em (a1.same s2)
   obtain ⟨y, xs, rfl, rfl, hz, rfl, rfl⟩ := tW m2
   obtain ⟨u, rfl, ru⟩ := r2.one_inv
   obtain ⟨l, us, g1, rfl, hl, hr, rfl⟩ := m1.lstT_inv
   have ln := hr.length
   refine ⟨l, us, u, rfl, rfl, hl, by omega, ?_⟩
   have nl : l ∉ fy := fun z => by have := n2 l z; have := s1.keep l; obtain ⟨o, h1, h2, _⟩ := R.own (m4 l List.mem_cons_self); have := s1.keep l o h1 h2; rw [n2 l z] at this; cases this
   obtain ⟨nl2, nd3⟩ := List.nodup_cons.mp m3
   have up : ∀ a, a ≠ l -> upd H2 l (.lst (us ++ [u])) a = H2 a := fun a h => cM h
   have tfk : ∀ a o, H2 a = some o -> tf o = true -> upd H2 l (.lst (us ++ [u])) a = some o := fun a o h t => by
    rw [up a]
    ·exact h
    ·rintro rfl; rw [hl] at h; cases h; cases t
   obtain ⟨F', st, ow⟩ := m5 (upd H2 l (.lst (us ++ [u]))) (l :: (g1 ++ fy)) [] (fun a o h _ hn => by rw [up a (fun z => hn (z ▸ List.mem_cons_self))]; exact h)
    (fun a h => by
     by_cases z : a = l
     ·subst z; rw [eE] at h; cases h
     ·rw [up a z] at h; exact h)
    (.lst eE (Reps.append (hr.move tfk fun a ha => up a fun z => nl2 (z ▸ ha)) (Reps.one (ru.move tfk fun a ha => up a fun z => nl (z ▸ ha)))))
    (by
     rw [List.append_nil, List.nodup_cons, List.nodup_append]
     refine ⟨fun z => (List.mem_append.mp z).elim nl2 nl, nd3, nd2, fun a ha b hb e => ?_⟩
     subst e
     obtain ⟨o, h1, h2, _⟩ := R.own (m4 a (List.mem_cons_of_mem _ ha))
     have := s1.keep a o h1 h2
     rw [n2 a hb] at this; cases this)
    (fun a ha => by
     rw [List.append_nil] at ha
     rcases List.mem_cons.mp ha with z | z
     ·exact .inl (z ▸ List.mem_cons_self)
     ·rcases List.mem_append.mp z with z | z
      ·exact .inl (List.mem_cons_of_mem _ z)
      ·exact .inr (s1.grow a (n2 a z)))
   exact q .non _ F' [] st ow .non
end
section
variable {K : tz0} {U : tz9} {H : Hp} {l : Addr} {o0 o : HO}
theorem zx5 (hl : H l = some o0) (ht : tf o0 = false) : ∀ a u, H a = some u -> tf u = true -> upd H l o a = some u := fun a u h t => by
 rw [cM]
 ·exact h
 ·rintro rfl; rw [hl] at h; cases h; rw [ht] at t; cases t
theorem Rep.updL {v : V} {d : D} {g : List Addr} (r : Rep K U H v d g) (hl : H l = some o0) (ht : tf o0 = false) (n : l ∉ g) : Rep K U (upd H l o) v d g := r.move (zx5 hl ht) fun a ha => cM fun z => n (z ▸ ha)
theorem Reps.updL {v : List V} {d : List D} {g : List Addr} (r : Reps K U H v d g) (hl : H l = some o0) (ht : tf o0 = false) (n : l ∉ g) : Reps K U (upd H l o) v d g := r.move (zx5 hl ht) fun a ha => cM fun z => n (z ▸ ha)
theorem wN {a : Addr} {u : HO} {g : List Addr} (h : H a = some u) (n : a ∉ l :: g) : upd H l o a = some u := by
 rw [cM (fun z => n (by rw [z]; exact List.mem_cons_self))]; exact h
theorem wO {a : Addr} (h : upd H l o a = none) : H a = none := by
 by_cases z : a = l
 ·subst z; rw [eE] at h; cases h
 ·rw [cM z] at h; exact h
theorem Reps.pop : ∀ {vs : List V} {ds : List D} {g : List Addr} {d : D}, Reps K U H vs ds g -> ds[ds.length - 1]? = some d -> ∃ v g1 f, vs[vs.length - 1]? = some v /\ Rep K U H v d f /\ Reps K U H vs.dropLast ds.dropLast g1 /\ g = g1 ++ f
 | _, _, _, _, .nil, e => by simp at e
 | _, [d1], _, d, .cons (f := f) h .nil, e => by
  have e' : d1 = d := by simpa using e
  subst e'
  exact ⟨_, [], f, by simp, h, .nil, by simp⟩
 | v :: v2 :: vs, d1 :: d2 :: ds, _, d, .cons (f := f) h (.cons (f := f2) (g := g2) h2 hs), e => by
  obtain ⟨w, g1, f', k1, k2, k3, k4⟩ := Reps.pop (.cons h2 hs) (d := d) (by simpa using e)
  refine ⟨w, f ++ g1, f', by simpa using k1, k2, ?_, by rw [List.append_assoc, <- k4]⟩
  rw [List.dropLast_cons₂, List.dropLast_cons₂]
  exact .cons h k3
theorem Reps.setV : ∀ {vs : List V} {ds : List D} {g : List Addr} {n : Nat} {v' : V} {d' : D} {f' : List Addr}, Reps K U H vs ds g -> n < ds.length -> Rep K U H v' d' f' -> ∃ f1 rest g', g.Perm (f1 ++ rest) /\ Reps K U H (vs.set n v') (ds.set n d') g' /\ g'.Perm (f' ++ rest)
 | _, _, _, _, _, _, _, .nil, e, _ => by simp at e
 | _, _, _, 0, _, _, f', .cons (f := f) (g := g) h hs, _, r => ⟨f, g, f' ++ g, .refl _, .cons r hs, .refl _⟩
 | _, _, _, n + 1, _, _, f', .cons (f := f) (g := g) h hs, e, r => by
  obtain ⟨f1, rest, g', h1, h2, h3⟩ := Reps.setV (n := n) hs (by simpa using e) r
  refine ⟨f1, f ++ rest, f ++ g', ?_, .cons h h2, ?_⟩
  ·refine (h1.append_left f).trans ?_
   rw [<- List.append_assoc, <- List.append_assoc]
   exact List.perm_append_comm.append_right rest
  ·refine (h3.append_left f).trans ?_
   rw [<- List.append_assoc, <- List.append_assoc]
   exact List.perm_append_comm.append_right rest
end
section
variable {X : Cx} {φ : F0} {U : tz9} {K : tz0} {o e a b : Expr} {f fi fe : tz2} {g : tz3} {pf : PSt -> Option (List Ps1)} {j : Nat} {pos apos : Pos}
noncomputable def qB : List D -> D -> Option (D × D)
 | [], .lst true xs => (xs[xs.length - 1]?).bind fun y => some (y, .lst true xs.dropLast)
 | _, _ => none
theorem zb4 {ys : List D} {d r d' : D} (h : qB ys d = some (r, d')) : ∃ xs, ys = [] /\ d = .lst true xs /\ xs[xs.length - 1]? = some r /\ d' = .lst true xs.dropLast := by
 unfold qB at h
 split at h
 ·obtain ⟨y, h1, h2⟩ := bind_some h
  cases h2
  exact ⟨_, rfl, rfl, h1, rfl⟩
 ·cases h
theorem zg6 (hb : φ.bor j = false) (ho : PE X o (gB X.K U j pf))
  (hbase : attributeBase o "pop" X.env (eval o X.env) = eval o X.env := by rfl) (hline : (apos.endLine == pos.line) = true := by rfl) : QE X U φ (.Call (.Attribute o "pop" apos) [] [] pos) (bE j pf aD qB) :=
 (yo7 PySem.F.plainAttrs_list PySem.F.slot_list_pop PySem.F.type_list_pop yo8 ho hbase hline).imp fun σ H Q hh_ => by
  obtain ⟨ps, F, d, ps', R, e, q⟩ := hh_
  obtain ⟨d0, p, ys, d0', e0, ep, eg, em, rfl⟩ := tU e
  cases eg
  obtain ⟨dd, dn, gp, hh⟩ := mJ em
  refine ⟨ps, p, d0, dd, R.ws, e0, ep, gp, fun v H1 v0 s1 ev a1 => ⟨?_, ?_⟩⟩
  ·obtain ⟨xs, _, rfl, _⟩ := zb4 hh
   obtain ⟨fd, rd⟩ := vC R.ws s1 e0 ev gp a1
   obtain ⟨_, _, _, rfl, hl, hr, rfl⟩ := rd.lstT_inv
   exact .inl ⟨rfl, _, .inl (.inl hl)⟩
  ·obtain ⟨d1, d1', fd, m1, m2, m3, m4, m5⟩ := rO R s1 hb e0 ev em a1
   obtain ⟨xs, _, rfl, hx, rfl⟩ := zb4 m2
   obtain ⟨l, us, g1, rfl, hl, hr, rfl⟩ := m1.lstT_inv
   obtain ⟨u, g2, f2, k1, k2, k3, rfl⟩ := hr.pop hx
   obtain ⟨nl, nd3⟩ := List.nodup_cons.mp m3
   have n1 : l ∉ g2 := fun z => nl (List.mem_append_left _ z)
   have n2 : l ∉ f2 := fun z => nl (List.mem_append_right _ z)
   refine ⟨l, us, u, rfl, rfl, hl, k1, ?_⟩
   obtain ⟨F', st, ow⟩ := m5 (upd H1 l (.lst us.dropLast)) (l :: g2) f2 (fun a o h _ hn => wN h hn)
    (fun a h => wO h)
    (.lst eE (k3.updL hl rfl n1)) (by rw [List.cons_append, List.nodup_cons]; exact ⟨nl, nd3⟩) (fun a ha => .inl ha)
   exact q u _ F' f2 st ow (k2.updL hl rfl n2)
noncomputable def fJ : D -> D -> D -> Option (Unit × D)
 | .int i, y, .lst true xs => (ixN xs.length i).bind fun n => some ((), .lst true (xs.set n y))
 | _, _, _ => none
noncomputable def dG (j : Nat) (pf : PSt -> Option (List Ps1)) (fi fe : tz2) : tz1 := fun ps => (fe ps).bind fun y => ((ps[j]?).join).bind fun d0 => (pf ps).bind fun p => (fi ps).bind fun i => (bM (fJ i y) d0 p).bind fun r => some (.nx, ps.set j (some r.2))
theorem zl4 {i y d d' : D} {r : Unit} (h : fJ i y d = some (r, d')) : ∃ k xs n, i = .int k /\ d = .lst true xs /\ ixN xs.length k = some n /\ d' = .lst true (xs.set n y) := by
 unfold fJ at h
 split at h
 ·obtain ⟨n, h1, h2⟩ := bind_some h
  cases h2
  exact ⟨_, _, n, rfl, rfl, h1, rfl⟩
 ·cases h
theorem kR {i : Expr} (hb : φ.bor j = false) (he : PE X e (tP X.K U fe)) (ho : PE X o (gB X.K U j pf)) (hi : PE X i (tV X.K U fi)) (hs : swapsWithSole [.Subscript o i apos] e pos.line X.env = pure false := by rfl) (hw : swappedStores [.Subscript o i apos] e X.env = pure none := by rfl)
  (h1 : (assignEach [.Subscript o i apos] X.env).map (·.2) = [assign (.Subscript o i apos) X.env] := by rfl)
  (ha : ∀ v, assign (.Subscript o i apos) X.env v = (do
   let ov <- holding [v] (eval o X.env)
   let iv <- holding [v, ov] (eval i X.env)
   standAt apos
   holding [v, ov, iv] (setItem ov iv v)
   release [v, ov, iv] []) := by intro _; rfl) : QS X U φ (.Assign [.Subscript o i apos] e pos) (dG j pf fi fe) :=
 (zu9 he (yn4 ho hi yc6 ha) hs hw h1).imp fun E σ H hh_ => by
  obtain ⟨ps, F, fl, ps', R, e, q⟩ := hh_
  obtain ⟨y, e1, e2⟩ := bind_some e
  obtain ⟨d0, e3, e4⟩ := bind_some e2
  have e0 := join_some e3
  obtain ⟨p, e5, e6⟩ := bind_some e4
  obtain ⟨iv, e7, e8⟩ := bind_some e6
  obtain ⟨⟨r, d0'⟩, em, e9⟩ := bind_some e8
  cases e9
  obtain ⟨dd, dn, gp, hh⟩ := mJ em
  refine ⟨ps, y, R.ws, e1, fun v H1 fy s1 n1 nd1 ry => ⟨ps, p, d0, dd, R.ws.same s1, e0, e5, gp, fun lv H2 v0 s2 ev a2 => ⟨ps, iv, (R.ws.same s1).same s2, e7, fun u H3 fu s3 r3 => ?_⟩⟩⟩
  have s13 := (s1.trans s2).trans s3
  obtain ⟨d1, d1', fd, m1, m2, m3, m4, m5⟩ := rO R s13 hb e0 ev em (a2.same s3)
  obtain ⟨k, xs, n, rfl, rfl, hn, rfl⟩ := zl4 m2
  obtain ⟨l, us, g1, rfl, hl, hr, rfl⟩ := m1.lstT_inv
  have ln := hr.length
  have ry3 := (ry.same s2).same s3
  obtain ⟨nl, nd3⟩ := List.nodup_cons.mp m3
  have own0 : ∀ a ∈ l :: g1, H a ≠ none := fun a ha z => by obtain ⟨o, h, _⟩ := R.own (m4 a ha); rw [z] at h; cases h
  have nl2 : l ∉ fy := fun z => own0 l List.mem_cons_self (n1 l z)
  obtain ⟨f1, rest, g2, k1, k2, k3⟩ := hr.setV (n := n) (uY hn).2.1 ry3
  have mem2 : ∀ a ∈ g2, a ∈ fy \/ a ∈ g1 := fun a ha => (List.mem_append.mp (k3.mem_iff.mp ha)).elim .inl fun z => .inr (k1.mem_iff.mpr (List.mem_append_right _ z))
  have n2 : l ∉ g2 := fun z => (mem2 l z).elim nl2 nl
  refine ⟨l, us, k, n, rfl, r3.is_int, hl, by rw [ln]; exact hn, ?_⟩
  obtain ⟨F', st, ow⟩ := m5 (upd H3 l (.lst (us.set n v))) (l :: g2) [] (fun a o h _ hn => wN h hn)
   (fun a h => wO h)
   (.lst eE (k2.updL hl rfl n2))
   (by
    rw [List.append_nil, List.nodup_cons]
    refine ⟨n2, k3.nodup_iff.mpr (List.nodup_append.mpr ⟨nd1, ?_, fun a ha b hb e => ?_⟩)⟩
    ·exact (List.nodup_append.mp (k1.nodup_iff.mp nd3)).2.1
    ·subst e
     exact own0 a (List.mem_cons_of_mem _ (k1.mem_iff.mpr (List.mem_append_right _ hb))) (n1 a ha))
   (fun a ha => by
    rw [List.append_nil] at ha
    rcases List.mem_cons.mp ha with z | z
    ·exact .inl (by rw [z]; exact List.mem_cons_self)
    ·exact (mem2 a z).elim (fun z => .inr (n1 a z)) fun z => .inl (List.mem_cons_of_mem _ z))
  exact q _ _ F' st
end
section
variable {φ : Fx} {H H1 : Hp} {σ σ1 : St} {ps ps1 : PSt} {F F1 : Nat -> List Addr}
theorem Stp.set' {fv : List Addr} {i : Nat} {v : V} {d : D} (s1 : Stp φ σ H F σ1 H1 ps1 F1) (o : OwnV F H F1 fv) (R : RS φ H σ ps F) (r : Rep φ.K φ.U H1 v d fv) (hb : φ.bor i = false \/ fv = []) (hm : φ.M i = false) :
  ∃ F', Stp φ σ H F (σ1.set i (some v)) H1 (ps1.set i (some d)) F' /\ ∀ k a, a ∈ F' k -> a ∈ fv \/ a ∈ F1 k := by
 refine ⟨_, ⟨s1.fr, fun j a h => ?_, s1.rs.set r hb (fun j _ => o.dis j) o.nd fun a ha => R.notB (o.nw a ha), fun j h => ?_⟩, fun k a h => ?_⟩
 ·rcases jU h with z | z
  ·by_cases k : i < ps1.length
   ·rw [if_pos k] at z; exact o.nw a z
   ·rw [if_neg k] at z; exact absurd z (by simp)
  ·exact s1.nw j a z
 ·rw [List.getElem?_set_ne (fun z => by subst z; rw [hm] at h; cases h)]
  exact s1.msk j h
 ·rcases jU h with z | z
  ·by_cases k : i < ps1.length
   ·rw [if_pos k] at z; exact .inl z
   ·rw [if_neg k] at z; exact absurd z (by simp)
  ·exact .inr z
noncomputable def setN : St -> List Nat -> List V -> St
 | σ, i :: is, v :: vs => setN (σ.set i (some v)) is vs
 | σ, _, _ => σ
noncomputable def sV : PSt -> List Nat -> List D -> PSt
 | ps, i :: is, d :: ds => sV (ps.set i (some d)) is ds
 | ps, _, _ => ps
noncomputable def yQ : List Nat -> TGs
 | [] => yg2
 | i :: is => zt8 (nF i) (yQ is)
theorem tY {Q : St -> Hp -> Prop} : ∀ {is : List Nat} {vs : List V} {σ : St}, vs.length = is.length -> Q (setN σ is vs) H -> yQ is vs σ H Q
 | [], [], σ, _, q => ⟨rfl, q⟩
 | i :: is, v :: vs, σ, h, q => ⟨v, vs, rfl, tY (is := is) (by simpa using h) q⟩
 | [], _ :: _, _, h, _ => by simp at h
 | _ :: _, [], _, h, _ => by simp at h
theorem Stp.setN (R : RS φ H σ ps F) : ∀ {is : List Nat} {vs : List V} {ds : List D} {g : List Addr} {σ1 : St} {ps1 : PSt} {F1 : Nat -> List Addr}, Stp φ σ H F σ1 H1 ps1 F1 -> OwnV F H F1 g -> Reps φ.K φ.U H1 vs ds g -> (∀ i ∈ is, φ.bor i = false /\ φ.M i = false) ->
  ∃ F', Stp φ σ H F (L2.setN σ1 is vs) H1 (sV ps1 is ds) F' := by
 intro is
 induction is with
 | nil => intro vs ds g σ1 ps1 F1 s _ _ _; exact ⟨F1, by simpa [L2.setN, sV] using s⟩
 | cons i is ih =>
  intro vs ds g σ1 ps1 F1 s o r hi
  cases ds with
  | nil => cases r; exact ⟨F1, by simpa [L2.setN, sV] using s⟩
  | cons d ds =>
   obtain ⟨v, us, f, g', rfl, h, hs, rfl⟩ := r.split
   obtain ⟨nd1, nd2, nd3⟩ := List.nodup_append.mp o.nd
   obtain ⟨F2, s2, hF⟩ := s.set' (i := i) (fv := f) ⟨fun a ha => o.nw a (List.mem_append_left _ ha), nd1, fun k a ha hf => o.dis k a ha (List.mem_append_left _ hf)⟩ R h (.inl (hi i List.mem_cons_self).1) (hi i List.mem_cons_self).2
   refine ih s2 ⟨fun a ha => o.nw a (List.mem_append_right _ ha), nd2, fun k a ha hg => ?_⟩ hs fun k hk => hi k (List.mem_cons_of_mem _ hk)
   rcases hF k a ha with z | z
   ·exact nd3 a z a hg rfl
   ·exact o.dis k a z (List.mem_append_right _ hg)
end
noncomputable def zk3 : D -> Option (List D)
 | .lst _ ds => some ds
 | .tup ds => some ds
 | _ => none
noncomputable def sW (is : List Nat) (f : tz8) : tz1 := fun ps => (f ps).bind fun r => (zk3 r.1).bind fun ds => if ds.length = is.length then some (.nx, sV r.2 is ds) else none
section
variable {X : Cx} {U : tz9} {φ : F0} {es : List Expr} {pos p : Pos} {k : Nat} {is : List Nat} {e : Expr} {f : tz8}
theorem yp6 {t : TGs} {n : Nat} (hc : X.calm = true) (h : PGs X es t)
  (hn : (assignEach es X.env).length = n := by rfl) (hst : (assignEach es X.env).findIdx? (·.1) = none := by rfl) : PG X (.Tuple es k pos) (fun v σ H Q => ys5 X.K n t v σ H Q \/ yr6 X.K n t v σ H Q) := by
 intro pins s σ H v u Q I r hw
 rcases hw with hw | hw
 ·exact yp3 hc h hn hst pins s σ H v u Q I r hw
 ·exact yn3 hc h hn hst pins s σ H v u Q I r hw
theorem tZ (hc : X.calm = true) (hg : PGs X es (yQ is)) (he : QE X U φ e f) (hb : ∀ i ∈ is, φ.bor i = false /\ φ.M i = false) (hn : (assignEach es X.env).length = is.length := by rfl) (hst : (assignEach es X.env).findIdx? (·.1) = none := by rfl)
  (hs : swapsWithSole [.Tuple es k p] e pos.line X.env = pure false := by rfl) (hw : swappedStores [.Tuple es k p] e X.env = pure none := by rfl)
  (h1 : (assignEach [.Tuple es k p] X.env).map (·.2) = [assign (.Tuple es k p) X.env] := by rfl) : QS X U φ (.Assign [.Tuple es k p] e pos) (sW is f) :=
 (zu9 he (yp6 (n := is.length) hc hg hn hst) hs hw h1).imp fun E σ H hh_ => by
  obtain ⟨ps, F, fl, ps', R, e, q⟩ := hh_
  obtain ⟨⟨d, ps1⟩, e1, e2⟩ := bind_some e
  obtain ⟨ds, e3, e4⟩ := bind_some e2
  obtain ⟨hl, e5⟩ := cN e4
  cases e5
  refine ⟨ps, F, d, ps1, R, e1, fun v H' F' fv s o r => ?_⟩
  cases d with
  | lst ow xs =>
   cases e3
   obtain ⟨a, vs, g, rfl, h, hs, sub⟩ := r.lst_inv
   have ln := hs.length
   obtain ⟨F2, s2⟩ := Stp.setN R s ⟨fun a ha => o.nw a (sub.subset ha), o.nd.sublist sub, fun k a ha hg => o.dis k a ha (sub.subset hg)⟩ hs hb
   exact .inl ⟨a, vs, rfl, .inl h, by omega, tY (by omega) (q _ _ F2 s2)⟩
  | tup xs =>
   cases e3
   obtain ⟨a, vs, rfl, h, hs⟩ := r.tup_inv
   have ln := hs.length
   obtain ⟨F2, s2⟩ := Stp.setN R s ⟨fun a ha => absurd ha (by simp), List.nodup_nil, fun k a ha hg => absurd hg (by simp)⟩ hs hb
   exact .inr ⟨a, vs, rfl, h, by omega, tY (by omega) (q _ _ F2 s2)⟩
  | _ => cases e3
end
noncomputable def fxE (K : tz0) (U : tz9) (np : Nat) (m : Nat -> Bool) : Fx := ⟨K, U, fun i => decide (i < np) && !m i, m, fun _ _ => False⟩
noncomputable def f0E (np : Nat) (m : Nat -> Bool) : F0 := ⟨fun i => decide (i < np) && !m i, m, fun _ _ => False⟩
noncomputable def SpE (np : Nat) (K : tz0) (U : tz9) (m : Nat -> Bool) (g : tz7) : Sp := fun vs H Q _ => vs.length = np /\ ∃ ds r ds' F, ds.length = np /\ RS (fxE K U np m) H (vs.map some) (ds.map some) F /\ g ds = some (r, ds') /\
 ∀ v H' F' fv, Stp (fxE K U np m) (vs.map some) H F (vs.map some) H' (ds'.map some) F' -> OwnV F H F' fv -> Rep K U H' v r fv -> Q v H'
noncomputable def fA (m : Nat -> Bool) (ps : PSt) : Nat -> List D -> Option (List D)
 | _, [] => some []
 | i, d :: ds => (if m i = true then (ps[i]?).join else some d).bind fun d' => (fA m ps (i + 1) ds).bind fun ds' => some (d' :: ds')
theorem zb5 {m : Nat -> Bool} {ps : PSt} : ∀ {ds ds' : List D} {i : Nat}, fA m ps i ds = some ds' -> ds'.length = ds.length /\ ∀ (k : Nat) (d' : D), ds'[k]? = some d' -> (m (i + k) = true -> ps[i + k]? = some (some d')) /\ (m (i + k) = false -> ds[k]? = some d')
 | [], _, _, e => by cases e; exact ⟨rfl, fun k d' h => by simp at h⟩
 | d :: ds, _, i, e => by
  obtain ⟨d1, e1, e2⟩ := bind_some e
  obtain ⟨ds1, e3, e4⟩ := bind_some e2
  cases e4
  obtain ⟨l, h⟩ := zb5 e3
  refine ⟨by simp [l], fun k d' hk => ?_⟩
  cases k with
  | zero =>
   simp at hk; subst hk
   refine ⟨fun z => ?_, fun z => ?_⟩
   ·rw [Nat.add_zero] at z |-; rw [if_pos z] at e1; exact join_some e1
   ·rw [Nat.add_zero] at z; rw [if_neg (by rw [z]; simp)] at e1; simpa using e1
  | succ k =>
   obtain ⟨h1, h2⟩ := h k d' (by simpa using hk)
   have ea : i + (k + 1) = i + 1 + k := by omega
   rw [ea]
   exact ⟨h1, fun z => by simpa using h2 z⟩
noncomputable def gE (np n : Nat) (m : Nat -> Bool) (f : tz1) : tz7 := fun ds => if ds.length = np then (f (ds.map some ++ List.replicate n none)).bind fun r => match r with
 | (.ret d, ps) => (fA m ps 0 ds).bind fun ds' => some (d, ds')
 | (.nx, ps) => (fA m ps 0 ds).bind fun ds' => some (.non, ds')
 | _ => none
 else none
theorem RS.more {φ : Fx} {H : Hp} {σ σ2 : St} {ps : PSt} {F : Nat -> List Addr} {n : Nat} (R : RS φ H σ ps F) (hl : ps.length = σ.length) (h2 : n <= σ2.length) : RS φ H (σ ++ σ2) (ps ++ List.replicate n none) F := by
 refine ⟨fun i d h => ?_, fun i a h => ?_, R.dis, R.nd, R.nb, R.bt, by simp [hl]; omega⟩
 ·by_cases hi : i < ps.length
  ·rw [List.getElem?_append_left hi] at h
   rw [List.getElem?_append_left (by omega)]
   exact R.rep i d h
  ·rw [List.getElem?_append_right (by omega), List.getElem?_replicate] at h
   split at h <;> cases h
 ·obtain ⟨b, d, e⟩ := R.emp i a h
  have hi := (List.getElem?_eq_some_iff.mp e).1
  exact ⟨b, d, by rw [List.getElem?_append_left hi]; exact e⟩
theorem zg7 {K : tz0} {U : tz9} {np n : Nat} {m : Nat -> Bool} {H H' : Hp} {vs : List V} {σ2 σ' : St} {ds ds' : List D} {ps' : PSt} {F F' : Nat -> List Addr} {fv : List Addr} (hm : ∀ i, m i = true -> i < np) (hl : vs.length = np) (hd : ds.length = np) (R : RS (fxE K U np m) H (vs.map some) (ds.map some) F)
  (s : Stp (fxE K U np m) (vs.map some ++ σ2) H F σ' H' ps' F') (o : OwnV F H F' fv) (e : fA m ps' 0 ds = some ds') :
  ∃ F2, Stp (fxE K U np m) (vs.map some) H F (vs.map some) H' (ds'.map some) F2 /\ OwnV F H F2 fv := by
 obtain ⟨l, ho⟩ := zb5 e
 have sub : ∀ i a, a ∈ (if m i = true then F' i else []) -> m i = true /\ a ∈ F' i := fun i a h => by
  by_cases z : m i = true
  ·rw [if_pos z] at h; exact ⟨z, h⟩
  ·rw [if_neg z] at h; exact absurd h (by simp)
 have tfk : ∀ a u, H a = some u -> tf u = true -> H' a = some u := fun a u h t => s.fr.keep a u h (mH t) fun i hi => by
  obtain ⟨u', h', _, t'⟩ := R.own hi
  rw [h] at h'; cases h'; rw [t] at t'; cases t'
 have mb : ∀ i, m i = true -> (fxE K U np m).bor i = false := fun i h => by simp [fxE, h]
 refine ⟨fun i => if m i = true then F' i else [], ⟨s.fr, fun i a h => s.nw i a (sub i a h).2, ⟨fun i d h => ?_, fun i a h => ?_, fun i j a h1 h2 => s.rs.dis i j a (sub i a h1).2 (sub j a h2).2, fun i => ?_, fun i a h => s.rs.nb i a (sub i a h).2, fun _ a h => h.elim, by simp [l, hl, hd]⟩, fun _ _ => rfl⟩, ⟨o.nw, o.nd, fun i a h => o.dis i a (sub i a h).2⟩⟩
 ·rw [List.getElem?_map] at h
  cases q : ds'[i]? with
  | none => rw [q] at h; cases h
  | some d1 =>
   rw [q] at h; cases h
   obtain ⟨h1, h2⟩ := ho i d q
   rw [Nat.zero_add] at h1 h2
   by_cases z : m i = true
   ·obtain ⟨v, fp, k1, k2, k3, _⟩ := s.rs.rep i d (h1 z)
    refine ⟨v, fp, ?_, k2, fun _ => by rw [if_pos z]; exact k3 (mb i z), fun w => by rw [mb i z] at w; cases w⟩
    rw [<- k1]
    have := s.msk i z
    rw [this, List.getElem?_append_left (by simp [hl]; exact hm i z)]
   ·have zf : m i = false := by simpa using z
    have hi : (ds.map some)[i]? = some (some d) := by rw [List.getElem?_map, h2 zf]; rfl
    have hib : (fxE K U np m).bor i = true := by
     have := (List.getElem?_eq_some_iff.mp (h2 zf)).1
     simp [fxE, zf]; omega
    obtain ⟨v, fp, k1, k2, _, k4⟩ := R.rep i d hi
    have efp : fp = [] := by
     cases fp with
     | nil => rfl
     | cons a r => exact (k4 hib a List.mem_cons_self).elim
    subst efp
    exact ⟨v, [], k1, k2.move tfk (fun a ha => absurd ha (by simp)), (fun w => by rw [hib] at w; cases w), (fun _ a ha => absurd ha (by simp))⟩
 ·obtain ⟨z, h⟩ := sub i a h
  refine ⟨mb i z, ?_⟩
  have hi : i < ds'.length := by rw [l, hd]; exact hm i z
  exact ⟨ds'[i], by rw [List.getElem?_map, List.getElem?_eq_getElem hi]; rfl⟩
 ·by_cases z : m i = true
  ·rw [if_pos z]; exact s.rs.nd i
  ·rw [if_neg z]; exact List.nodup_nil
section
variable {P : Program} {w : World} {K : tz0} {mg : tzA} {base : Heap} {U : tz9}
theorem mD {x qual : Str} {st : Stmt} {f : Addr} {fd : FuncData} {N ps : List Str} {k : Nat} {fb : tz1} {m : Nat -> Bool} (F : Fun K x qual st f fd) (S : FnScope N ps (aM st)) (hm : ∀ i, m i = true -> i < ps.length)
  (hbody : ∀ (cdv : Value) (A : Around) (outer : List Env) (s : Shared) (H : Hp) (E : XK), Room k (A.deeper (envOfC qual (aM st) s.heap.objs.size f cdv)) ->
   QSs (eI CX0 P w K mg base N qual (aM st) f cdv A outer s H E).nox U (f0E ps.length m) (bR st) fb) :
  FnOk P w K mg base CX0 (k + 1) f fd ps (SpE ps.length K U m (gE ps.length (N.length - ps.length) m fb)) := by
 refine F.ok S (fun vs H Q E h => h.1) fun cdv A outer s H vs Q E hr ⟨hl, ds, r, ds', F0, hd, R, e, q⟩ => ⟨_, hbody cdv A outer s H E hr, ?_⟩
 have hn : ps.length <= N.length := by have := congrArg List.length S.pre; rw [List.length_take] at this; omega
 unfold gE at e
 obtain ⟨_, e0⟩ := cN e
 obtain ⟨⟨fl, ps'⟩, e1, e2⟩ := bind_some e0
 have R0 := R.more (σ2 := List.replicate (N.length - vs.length) none) (n := N.length - ps.length) (by simp [hl, hd]) (by simp [hl])
 refine ⟨_, F0, fl, ps', R0, e1, ?_⟩
 cases fl with
 | ret d' =>
  obtain ⟨ds1, e3, e4⟩ := bind_some e2
  cases e4
  exact fun v σ' H' F' fv s o rv => by
   obtain ⟨F2, s2, o2⟩ := zg7 (n := 0) hm hl hd R s o e3
   exact q v H' F2 fv s2 o2 rv
 | nx =>
  obtain ⟨ds1, e3, e4⟩ := bind_some e2
  cases e4
  exact fun σ' H' F' s => by
   obtain ⟨F2, s2, o2⟩ := zg7 (n := 0) (fv := []) hm hl hd R s ⟨fun _ h => absurd h (by simp), List.nodup_nil, fun _ _ _ h => absurd h (by simp)⟩ e3
   exact q .non H' F2 [] s2 o2 .non
 | bk => cases e2
 | ct => cases e2
end
set_option genInjectivity true in
inductive Arg where
 | io (j : Nat) | im (f : tz2)
noncomputable def aU : List Arg -> tz3
 | [], _ => some []
 | .io j :: as, ps => ((ps[j]?).join).bind fun d => (aU as ps).bind fun ds => some (d :: ds)
 | .im f :: as, ps => (aX f ps).bind fun d => (aU as ps).bind fun ds => some (d :: ds)
noncomputable def kX : List Arg -> Nat -> Bool
 | .io _ :: _, 0 => true
 | _ :: as, i + 1 => kX as i
 | _, _ => false
noncomputable def slots : List Arg -> List Nat
 | [] => []
 | .io j :: as => j :: slots as
 | .im _ :: as => slots as
noncomputable def dX : PSt -> List Arg -> List D -> PSt
 | ps, .io j :: as, d :: ds => dX (ps.set j (some d)) as ds
 | ps, .im _ :: as, _ :: ds => dX ps as ds
 | ps, _, _ => ps
inductive ArgsAt (K : tz0) (U : tz9) (H : Hp) (σ : St) (ps : PSt) : List Arg -> List V -> List D -> Prop
 | nil : ArgsAt K U H σ ps [] [] []
 | io {j : Nat} {as : List Arg} {v : V} {vs : List V} {d : D} {ds : List D} : σ[j]? = some (some v) -> ps[j]? = some (some d) -> ArgsAt K U H σ ps as vs ds -> ArgsAt K U H σ ps (.io j :: as) (v :: vs) (d :: ds)
 | im {f : tz2} {as : List Arg} {v : V} {vs : List V} {d : D} {ds : List D} : Rep K U H v d [] -> ArgsAt K U H σ ps as vs ds -> ArgsAt K U H σ ps (.im f :: as) (v :: vs) (d :: ds)
theorem ArgsAt.len {K : tz0} {U : tz9} {H : Hp} {σ : St} {ps : PSt} : ∀ {as : List Arg} {vs : List V} {ds : List D}, ArgsAt K U H σ ps as vs ds -> vs.length = as.length /\ ds.length = as.length
 | _, _, _, .nil => ⟨rfl, rfl⟩
 | _, _, _, .io _ _ h => by have := h.len; simp [this]
 | _, _, _, .im _ h => by have := h.len; simp [this]
theorem ArgsAt.get {K : tz0} {U : tz9} {H : Hp} {σ : St} {ps : PSt} : ∀ {as : List Arg} {vs : List V} {ds : List D} {i : Nat} {d : D}, ArgsAt K U H σ ps as vs ds -> ds[i]? = some d -> ∃ v, vs[i]? = some v /\ ((∃ j, as[i]? = some (.io j) /\ kX as i = true /\ σ[j]? = some (some v) /\ ps[j]? = some (some d)) \/ (kX as i = false /\ Rep K U H v d []))
 | _, _, _, _, _, .nil, e => by simp at e
 | _, _, _, 0, _, .io h1 h2 _, e => by simp at e; subst e; exact ⟨_, rfl, .inl ⟨_, rfl, rfl, h1, h2⟩⟩
 | _, _, _, 0, _, .im r _, e => by simp at e; subst e; exact ⟨_, rfl, .inr ⟨rfl, r⟩⟩
 | _, _, _, i + 1, _, .io _ _ h, e => by
  obtain ⟨v, h1, h2⟩ := ArgsAt.get (i := i) h (by simpa using e)
  exact ⟨v, by simpa using h1, by simpa [kX] using h2⟩
 | _, _, _, i + 1, _, .im _ h, e => by
  obtain ⟨v, h1, h2⟩ := ArgsAt.get (i := i) h (by simpa using e)
  exact ⟨v, by simpa using h1, by simpa [kX] using h2⟩
theorem zM : ∀ {as : List Arg} {i : Nat}, kX as i = true -> ∃ j, as[i]? = some (.io j)
 | .io j :: _, 0, _ => ⟨j, rfl⟩
 | .im _ :: _, 0, h => by cases h
 | .io _ :: as, i + 1, h => by obtain ⟨j, e⟩ := zM (as := as) (i := i) h; exact ⟨j, by simpa using e⟩
 | .im _ :: as, i + 1, h => by obtain ⟨j, e⟩ := zM (as := as) (i := i) h; exact ⟨j, by simpa using e⟩
 | [], _, h => by cases h
theorem nO : ∀ {as : List Arg} {i j : Nat}, as[i]? = some (.io j) -> kX as i = true
 | .io _ :: _, 0, _, _ => rfl
 | .im _ :: _, 0, _, h => by simp at h
 | .io _ :: as, i + 1, j, h => nO (as := as) (i := i) (j := j) (by simpa using h)
 | .im _ :: as, i + 1, j, h => nO (as := as) (i := i) (j := j) (by simpa using h)
 | [], _, _, h => by simp at h
theorem iZ : ∀ {as : List Arg} {i j : Nat}, as[i]? = some (.io j) -> j ∈ slots as
 | .io _ :: _, 0, _, h => by simp at h; subst h; exact List.mem_cons_self
 | .im _ :: _, 0, _, h => by simp at h
 | .io _ :: as, i + 1, j, h => List.mem_cons_of_mem _ (iZ (as := as) (i := i) (by simpa using h))
 | .im _ :: as, i + 1, j, h => iZ (as := as) (i := i) (by simpa using h)
 | [], _, _, h => by simp at h
theorem uA : ∀ {as : List Arg} {i k j : Nat}, (slots as).Nodup -> as[i]? = some (.io j) -> as[k]? = some (.io j) -> i = k
 | [], _, _, _, _, h, _ => by simp at h
 | a :: as, 0, 0, _, _, _, _ => rfl
 | .io j' :: as, 0, k + 1, j, nd, h1, h2 => by
  simp at h1; subst h1
  exact absurd (iZ (as := as) (i := k) (by simpa using h2)) (List.nodup_cons.mp nd).1
 | .im _ :: as, 0, k + 1, j, _, h1, _ => by simp at h1
 | .io j' :: as, i + 1, 0, j, nd, h1, h2 => by
  simp at h2; subst h2
  exact absurd (iZ (as := as) (i := i) (by simpa using h1)) (List.nodup_cons.mp nd).1
 | .im _ :: as, i + 1, 0, j, _, _, h2 => by simp at h2
 | .io j' :: as, i + 1, k + 1, j, nd, h1, h2 => by rw [uA (as := as) (i := i) (k := k) (j := j) (List.nodup_cons.mp nd).2 (by simpa using h1) (by simpa using h2)]
 | .im _ :: as, i + 1, k + 1, j, nd, h1, h2 => by rw [uA (as := as) (i := i) (k := k) (j := j) nd (by simpa using h1) (by simpa using h2)]
noncomputable def fR : List Arg -> Nat -> Option Nat
 | [], _ => none
 | .io i :: as, j => if i = j then some 0 else (fR as j).map (· + 1)
 | .im _ :: as, j => (fR as j).map (· + 1)
theorem lK : ∀ {as : List Arg} {j i : Nat}, fR as j = some i -> as[i]? = some (.io j)
 | [], _, _, h => by cases h
 | .io k :: as, j, i, h => by
  rw [fR] at h
  by_cases z : k = j
  ·rw [if_pos z] at h; cases h; rw [z]; rfl
  ·rw [if_neg z] at h
   cases q : fR as j with
   | none => rw [q] at h; cases h
   | some n => rw [q] at h; cases h; simpa using lK q
 | .im _ :: as, j, i, h => by
  rw [fR] at h
  cases q : fR as j with
  | none => rw [q] at h; cases h
  | some n => rw [q] at h; cases h; simpa using lK q
theorem jV : ∀ {as : List Arg} {j : Nat}, fR as j = none -> j ∉ slots as
 | [], _, _ => by simp [slots]
 | .io k :: as, j, h => by
  rw [fR] at h
  by_cases z : k = j
  ·rw [if_pos z] at h; cases h
  ·rw [if_neg z] at h
   have h' : fR as j = none := by
    cases q : fR as j with
    | none => rfl
    | some n => rw [q] at h; cases h
   exact fun hm => (List.mem_cons.mp hm).elim (fun e => z e.symm) (jV h')
 | .im _ :: as, j, h => by
  rw [fR] at h
  have h' : fR as j = none := by
   cases q : fR as j with
   | none => rfl
   | some n => rw [q] at h; cases h
  exact fun hm => jV (as := as) h' hm
theorem sF : ∀ {as : List Arg} {ds : List D} {ps : PSt}, (dX ps as ds).length = ps.length
 | [], _, _ => by simp [dX]
 | .io j :: as, [], _ => by simp [dX]
 | .im _ :: as, [], _ => by simp [dX]
 | .io j :: as, d :: ds, ps => by rw [dX, sF (as := as)]; simp
 | .im _ :: as, d :: ds, ps => by rw [dX, sF (as := as)]
theorem mZ : ∀ {as : List Arg} {ds : List D} {ps : PSt} {j : Nat}, j ∉ slots as -> (dX ps as ds)[j]? = ps[j]?
 | [], _, _, _, _ => by simp [dX]
 | .io _ :: _, [], _, _, _ => by simp [dX]
 | .im _ :: _, [], _, _, _ => by simp [dX]
 | .io k :: as, d :: ds, ps, j, h => by
  rw [dX, mZ (as := as) (fun z => h (List.mem_cons_of_mem _ z)), List.getElem?_set_ne (fun z => h (by rw [<- z]; exact List.mem_cons_self))]
 | .im _ :: as, d :: ds, ps, j, h => by rw [dX]; exact mZ (as := as) h
theorem vD : ∀ {as : List Arg} {ds : List D} {ps : PSt} {i j : Nat} {d : D}, (slots as).Nodup -> as[i]? = some (.io j) -> ds[i]? = some d -> j < ps.length -> (dX ps as ds)[j]? = some (some d)
 | [], _, _, _, _, _, _, h, _, _ => by simp at h
 | _ :: _, [], _, _, _, _, _, _, h, _ => by simp at h
 | .io k :: as, d1 :: ds, ps, 0, j, d, nd, h1, h2, h3 => by
  simp at h1 h2; subst h1; subst h2
  rw [dX, mZ (List.nodup_cons.mp nd).1, List.getElem?_set_self h3]
 | .im _ :: as, d1 :: ds, ps, 0, j, d, _, h1, _, _ => by simp at h1
 | .io k :: as, d1 :: ds, ps, i + 1, j, d, nd, h1, h2, h3 => by
  rw [dX]; exact vD (List.nodup_cons.mp nd).2 (by simpa using h1) (by simpa using h2) (by simpa using h3)
 | .im _ :: as, d1 :: ds, ps, i + 1, j, d, nd, h1, h2, h3 => by
  rw [dX]; exact vD (as := as) nd (by simpa using h1) (by simpa using h2) h3
noncomputable def oB (as : List Arg) (F : Nat -> List Addr) : Nat -> List Addr := fun i => match as[i]? with
 | some (.io j) => F j
 | _ => []
theorem zn5 {as : List Arg} {F : Nat -> List Addr} {i j : Nat} (e : as[i]? = some (.io j)) : oB as F i = F j := by unfold oB; rw [e]
theorem zg8 {as : List Arg} {F : Nat -> List Addr} {i : Nat} {b : Addr} (h : b ∈ oB as F i) : ∃ j, as[i]? = some (.io j) /\ b ∈ F j := by
 unfold oB at h
 cases q : as[i]? with
 | none => rw [q] at h; exact absurd h (by simp)
 | some x =>
  cases x with
  | io j => rw [q] at h; exact ⟨j, rfl, h⟩
  | im _ => rw [q] at h; exact absurd h (by simp)
theorem zN {as : List Arg} {F : Nat -> List Addr} {i : Nat} (e : kX as i = false) : oB as F i = [] := by
 unfold oB
 cases q : as[i]? with
 | none => rfl
 | some x => cases x with
  | io j => rw [nO q] at e; cases e
  | im _ => rfl
theorem yd7 {φ : Fx} {H : Hp} {σ : St} {ps : PSt} {F : Nat -> List Addr} {as : List Arg} {vs : List V} {ds : List D} (R : RS φ H σ ps F) (nd : (slots as).Nodup) (hb : ∀ j ∈ slots as, φ.bor j = false) (a : ArgsAt φ.K φ.U H σ ps as vs ds) :
  RS (fxE φ.K φ.U as.length (kX as)) H (vs.map some) (ds.map some) (oB as F) := by
 obtain ⟨lv, ld⟩ := a.len
 have memF : ∀ i b, b ∈ oB as F i -> ∃ j, as[i]? = some (Arg.io j) /\ b ∈ F j := fun i b h => zg8 h
 refine ⟨fun i d h => ?_, fun i b h => ?_, fun i k b h1 h2 => ?_, fun i => ?_, fun i b h k z => z.elim, fun k b z => z.elim, by simp [lv, ld]⟩
 ·rw [List.getElem?_map] at h
  cases q : ds[i]? with
  | none => rw [q] at h; cases h
  | some d1 =>
   rw [q] at h; cases h
   obtain ⟨v, h1, h2⟩ := a.get q
   have hi := (List.getElem?_eq_some_iff.mp q).1
   refine ⟨v, oB as F i, by rw [List.getElem?_map, h1]; rfl, ?_, fun _ => rfl, fun z => ?_⟩
   ·rcases h2 with ⟨j, e1, e2, e3, e4⟩ | ⟨e1, r⟩
    ·obtain ⟨v', fp, k1, k2, k3, _⟩ := R.rep j d e4
     rw [e3] at k1; cases k1
     rw [zn5 e1]
     have := k3 (hb j (iZ e1))
     subst this
     exact k2
    ·rw [zN e1]; exact r
   ·rcases h2 with ⟨j, e1, e2, _⟩ | ⟨e1, r⟩
    ·simp [fxE, e2] at z
    ·rw [zN e1]; intro b hb; exact absurd hb (by simp)
 ·obtain ⟨j, e, hj⟩ := memF i b h
  have hi : i < ds.length := by rw [ld]; exact (List.getElem?_eq_some_iff.mp e).1
  exact ⟨by simp [fxE, nO e], ds[i], by rw [List.getElem?_map, List.getElem?_eq_getElem hi]; rfl⟩
 ·obtain ⟨j1, e1, m1⟩ := memF i b h1
  obtain ⟨j2, e2, m2⟩ := memF k b h2
  have := R.dis j1 j2 b m1 m2
  subst this
  exact uA nd e1 e2
 ·cases z : kX as i with
  | true => obtain ⟨j, e⟩ := zM z; rw [zn5 e]; exact R.nd j
  | false => rw [zN z]; exact List.nodup_nil
noncomputable def qT (as : List Arg) (F Fc : Nat -> List Addr) : Nat -> List Addr := fun j => match fR as j with
 | some i => Fc i
 | none => F j
theorem zx6 {as : List Arg} {F Fc : Nat -> List Addr} {j : Nat} {b : Addr} (h : b ∈ qT as F Fc j) : (∃ i, fR as j = some i /\ b ∈ Fc i) \/ (fR as j = none /\ b ∈ F j) := by
 unfold qT at h
 cases q : fR as j with
 | none => rw [q] at h; exact .inr ⟨rfl, h⟩
 | some i => rw [q] at h; exact .inl ⟨i, rfl, h⟩
theorem xO {as : List Arg} {F Fc : Nat -> List Addr} {j i : Nat} (e : fR as j = some i) : qT as F Fc j = Fc i := by unfold qT; rw [e]
theorem xP {as : List Arg} {F Fc : Nat -> List Addr} {j : Nat} (e : fR as j = none) : qT as F Fc j = F j := by unfold qT; rw [e]
theorem yj9 {φ : Fx} {H H1 H' : Hp} {σ : St} {ps : PSt} {F Fc' : Nat -> List Addr} {as : List Arg} {vs : List V} {ds ds' : List D} {fv : List Addr} (R : RS φ H σ ps F) (s1 : SameK H H1) (nd : (slots as).Nodup) (hb : ∀ j ∈ slots as, φ.bor j = false) (a : ArgsAt φ.K φ.U H1 σ ps as vs ds) (hl : ds'.length = as.length)
  (s : Stp (fxE φ.K φ.U as.length (kX as)) (vs.map some) H1 (oB as F) (vs.map some) H' (ds'.map some) Fc') (o : OwnV (oB as F) H1 Fc' fv) :
  ∃ F', Stp φ σ H F σ H' (dX ps as ds') F' /\ OwnV F H F' fv := by
 have memF : ∀ i b, b ∈ oB as F i -> ∃ j, as[i]? = some (Arg.io j) /\ b ∈ F j := fun i b h => zg8 h
 have nwA : ∀ b, ((∃ i, b ∈ oB as F i) \/ H1 b = none) -> (∃ j ∈ slots as, b ∈ F j) \/ H b = none := fun b h => by
  rcases h with ⟨i, h⟩ | h
  ·obtain ⟨j, e, m⟩ := memF i b h
   exact .inl ⟨j, iZ e, m⟩
  ·exact .inr (s1.grow b h)
 have isDisj : ∀ b, ((∃ i, b ∈ Fc' i) \/ b ∈ fv) -> ∀ j, j ∉ slots as -> b ∉ F j := fun b h j hj hm => by
  have h' : (∃ j ∈ slots as, b ∈ F j) \/ H b = none := by
   rcases h with ⟨i, h⟩ | h
   ·exact nwA b (s.nw i b h)
   ·exact nwA b (o.nw b h)
  rcases h' with ⟨k, hk, hm2⟩ | z
  ·exact hj (R.dis j k b hm hm2 ▸ hk)
  ·obtain ⟨u, q, _⟩ := R.own hm; rw [z] at q; cases q
 have keepN : ∀ b u, H b = some u -> kd u = true -> (∀ j ∈ slots as, b ∉ F j) -> H' b = some u := fun b u h k n => s.fr.keep b u (s1.keep b u h k) k fun i hi => by
  obtain ⟨j, e, m⟩ := memF i b hi
  exact n j (iZ e) m
 have tfk : ∀ b u, H b = some u -> tf u = true -> H' b = some u := fun b u h t => keepN b u h (mH t) fun j _ hm => by
  obtain ⟨u', h', _, t'⟩ := R.own hm
  rw [h] at h'; cases h'; rw [t] at t'; cases t'
 have posmem : ∀ j b, b ∈ qT as F Fc' j -> (∃ i, fR as j = some i /\ b ∈ Fc' i) \/ (fR as j = none /\ b ∈ F j) := fun j b h => zx6 h
 refine ⟨qT as F Fc', ⟨⟨fun b u h k n => keepN b u h k fun j _ => n j, fun b h => s1.grow b (s.fr.grow b h)⟩, fun j b h => ?_, ⟨fun j d h => ?_, fun j b h => ?_, fun j k b h1 h2 => ?_, fun j => ?_, fun j b h => ?_, fun kk b hB z => R.bt kk b hB (s1.grow b (s.fr.grow b z)), by rw [sF]; exact R.len⟩, fun _ _ => rfl⟩, ⟨fun b hb' => ?_, o.nd, fun j b h hv => ?_⟩⟩
 ·rcases posmem j b h with ⟨i, e, m⟩ | ⟨e, m⟩
  ·exact (nwA b (s.nw i b m)).elim (fun ⟨k, _, hk⟩ => .inl ⟨k, hk⟩) .inr
  ·exact .inl ⟨j, m⟩
 ·cases q : fR as j with
  | some i =>
   have e := lK q
   have hi : i < ds'.length := by rw [hl]; exact (List.getElem?_eq_some_iff.mp e).1
   have ei : ds'[i]? = some ds'[i] := List.getElem?_eq_getElem hi
   have hj : j < ps.length := by
    have := (List.getElem?_eq_some_iff.mp h).1
    rwa [sF] at this
   rw [vD nd e ei hj] at h
   cases h
   obtain ⟨v, fp, k1, k2, k3, _⟩ := s.rs.rep i ds'[i] (by rw [List.getElem?_map, ei]; rfl)
   have hbi : (fxE φ.K φ.U as.length (kX as)).bor i = false := by simp [fxE, nO e]
   have k3 := k3 hbi
   subst k3
   have hvi : i < vs.length := by rw [a.len.1]; exact (List.getElem?_eq_some_iff.mp e).1
   have hdi : i < ds.length := by rw [a.len.2]; exact (List.getElem?_eq_some_iff.mp e).1
   obtain ⟨v', g1, g2⟩ := a.get (List.getElem?_eq_getElem hdi)
   rw [List.getElem?_map, g1] at k1
   cases k1
   rcases g2 with ⟨j', e1, _, e3, _⟩ | ⟨e1, _⟩
   ·rw [e] at e1; cases e1
    exact ⟨v, Fc' i, e3, k2, (fun _ => (xO q).symm), (fun z => by rw [hb j (iZ e)] at z; cases z)⟩
   ·rw [nO e] at e1; cases e1
  | none =>
   have hn := jV q
   rw [mZ hn] at h
   obtain ⟨v, fp, k1, k2, k3, k4⟩ := R.rep j d h
   refine ⟨v, fp, k1, k2.move tfk fun b hb' => ?_, (fun z => by rw [xP q]; exact k3 z), k4⟩
   obtain ⟨u, q1, q2, _⟩ := k2.own b hb'
   rw [q1]
   refine keepN b u q1 q2 fun k hk hm => ?_
   cases z : φ.bor j with
   | true => exact R.nb k b hm j (k4 z b hb')
   | false => rw [k3 z] at hb'; exact hn (R.dis j k b hb' hm ▸ hk)
 ·rcases posmem j b h with ⟨i, e, m⟩ | ⟨e, m⟩
  ·have e' := lK e
   refine ⟨hb j (iZ e'), ?_⟩
   have hi : i < ds'.length := by rw [hl]; exact (List.getElem?_eq_some_iff.mp e').1
   have hdi : i < ds.length := by rw [a.len.2]; exact (List.getElem?_eq_some_iff.mp e').1
   obtain ⟨v', g1, g2⟩ := a.get (List.getElem?_eq_getElem hdi)
   rcases g2 with ⟨j', e1, _, _, e4⟩ | ⟨e1, _⟩
   ·rw [e'] at e1; cases e1
    exact ⟨_, vD nd e' (List.getElem?_eq_getElem hi) (List.getElem?_eq_some_iff.mp e4).1⟩
   ·rw [nO e'] at e1; cases e1
  ·obtain ⟨b1, d, b2⟩ := R.emp j b m
   exact ⟨b1, d, by rw [mZ (jV e)]; exact b2⟩
 ·rcases posmem j b h1 with ⟨i, e, m⟩ | ⟨e, m⟩
  ·rcases posmem k b h2 with ⟨i', e', m'⟩ | ⟨e', m'⟩
   ·have := s.rs.dis i i' b m m'
    subst this
    have q1 := lK e
    have q2 := lK e'
    rw [q1] at q2
    cases q2; rfl
   ·exact absurd m' (isDisj b (.inl ⟨i, m⟩) k (jV e'))
  ·rcases posmem k b h2 with ⟨i', e', m'⟩ | ⟨e', m'⟩
   ·exact absurd m (isDisj b (.inl ⟨i', m'⟩) j (jV e))
   ·exact R.dis j k b m m'
 ·cases q : fR as j with
  | some i => rw [xO q]; exact s.rs.nd i
  | none => rw [xP q]; exact R.nd j
 ·rcases posmem j b h with ⟨i, e, m⟩ | ⟨e, m⟩
  ·exact R.notB ((nwA b (s.nw i b m)).elim (fun ⟨k, _, hk⟩ => .inl ⟨k, hk⟩) .inr)
  ·exact R.nb j b m
 ·exact (nwA b (o.nw b hb')).elim (fun ⟨k, _, hk⟩ => .inl ⟨k, hk⟩) .inr
 ·rcases posmem j b h with ⟨i, e, m⟩ | ⟨e, m⟩
  ·exact o.dis i b m hv
  ·exact isDisj b (.inr hv) j (jV e) m
noncomputable def tIO (K : tz0) (U : tz9) (as : List Arg) : TA := fun σ H Q => ∃ ps ds, WS K U H σ ps /\ aU as ps = some ds /\ ∀ vs H', SameK H H' -> ArgsAt K U H' σ ps as vs ds -> Q vs H'
noncomputable def fIO (as : List Arg) (g : tz7) : tz8 := fun ps => (aU as ps).bind fun ds => (g ds).bind fun r => if r.2.length = as.length then some (r.1, dX ps as r.2) else none
section
variable {X : Cx} {φ : F0} {U : tz9} {e : Expr} {es : List Expr} {as : List Arg} {f : tz2} {pos p : Pos}
theorem cR : PA X [] (tIO X.K U []) := mW.imp fun σ H Q ⟨ps, ds, w, e, q⟩ => by cases e; exact q [] H (.refl H) .nil
theorem iM (j : Nat) {x : Str} (hr : PA X es (tIO X.K U as)) (hN : X.N[j]? = some x := by rfl) (hv : Vis X.env.scope x := by first | exact Or.inl rfl | exact Or.inr (Or.inl rfl) | exact Or.inr (Or.inr rfl)) (hd : (x == ("__debug__" : Str)) = false := by decide)
  (hcd : (x == ("__classdict__" : Str)) = false := by decide) (hs : starEach (.Name x pos :: es) X.env = (false, eval (.Name x pos) X.env) :: starEach es X.env := by rfl) : PA X (.Name x pos :: es) (tIO X.K U (.io j :: as)) :=
 (gG (pM hN hv hd hcd) hr hs).imp fun σ H Q hh_ => by
  obtain ⟨ps, ds, w, e, q⟩ := hh_
  obtain ⟨d, e1, e2⟩ := bind_some e
  obtain ⟨ds', e3, e4⟩ := bind_some e2
  cases e4
  have e0 := join_some e1
  obtain ⟨v, fp, h1, h2⟩ := w j d e0
  exact ⟨v, h1, ps, ds', w, e3, fun vs H1 s1 a1 => q (v :: vs) H1 s1 (.io h1 e0 a1)⟩
theorem bC (ha : QV X U e f) (hr : PA X es (tIO X.K U as)) (hs : starEach (e :: es) X.env = (false, eval e X.env) :: starEach es X.env := by rfl) : PA X (e :: es) (tIO X.K U (.im f :: as)) :=
 (gG ha.p hr hs).imp fun σ H Q hh_ => by
  obtain ⟨ps, ds, w, e, q⟩ := hh_
  obtain ⟨d, e1, e2⟩ := bind_some e
  obtain ⟨ds', e3, e4⟩ := bind_some e2
  cases e4
  refine ⟨ps, d, w, e1, fun v H1 fv s1 n1 nd1 r1 => ⟨ps, ds', w.same s1, e3, fun vs H2 s2 a2 => q (v :: vs) H2 (s1.trans s2) (.im ?_ a2)⟩⟩
  unfold aX at e1
  obtain ⟨d1, k1, k2⟩ := bind_some e1
  obtain ⟨k3, k4⟩ := cN k2
  cases k4
  have := r1.imm k3
  subst this
  exact r1.same s2
theorem jW {x : Str} {st : Stmt} {ps : List Str} {fa : Addr} {fd : FuncData} {k np : Nat} {m : Nat -> Bool} {g : tz7} (Dd : Dn X.K X.mg x st ps fa fd) (G : FnOk X.prog X.w X.K X.mg X.base CX0 k fa fd ps (SpE np X.K U m g)) (hr : Room k X.A) (hg : Gl X x) (ha : PA X (e :: es) (tIO X.K U as))
  (hnp : np = as.length) (hm : m = kX as) (nd : (slots as).Nodup) (hb : ∀ j ∈ slots as, φ.bor j = false)
  (hdb : (x == ("__debug__" : Str)) = false := by decide) (he : starEach (e :: es) X.env = (false, eval e X.env) :: starEach es X.env := by rfl) (hpl : (backTo pos (starEach es X.env)).any (·.1) = false := by rfl) :
  QE X U φ (.Call (.Name x p) (e :: es) [] pos) (fIO as g) := (zq9 Dd G hr hg ha hdb he hpl).imp fun σ H Q hh_ => by
 obtain ⟨ps, F, d, ps', R, e, q⟩ := hh_
 obtain ⟨ds, e1, e2⟩ := bind_some e
 obtain ⟨⟨r, ds'⟩, e3, e4⟩ := bind_some e2
 obtain ⟨hl, e5⟩ := cN e4
 cases e5
 subst hnp hm
 refine ⟨ps, ds, R.ws, e1, fun vs H1 s1 a1 => ?_⟩
 show SpE _ X.K U _ g (vs ++ []) H1 Q E0
 rw [List.append_nil]
 refine ⟨a1.len.1, ds, r, ds', _, a1.len.2, yd7 (R.same s1) nd hb a1, e3, fun v H' F' fv s o rv => ?_⟩
 obtain ⟨F2, s2, o2⟩ := yj9 R s1 nd hb a1 hl s o
 exact q v H' F2 fv s2 o2 rv
end
inductive AreD : List Expr -> List D -> Prop
 | nil : AreD [] []
 | int {i : Int} {j : Nat} {pos : Pos} {es : List Expr} {ds : List D} : AreD es ds -> AreD (.Constant (.int i) j pos :: es) (.int i :: ds)
 | str {x : Str} {j : Nat} {pos : Pos} {es : List Expr} {ds : List D} : AreD es ds -> AreD (.Constant (.str x) j pos :: es) (.str x :: ds)
noncomputable def fKs (ds : List D) : tz3 := fun _ => some ds
theorem hZ {X : Cx} {U : tz9} {es : List Expr} {ds : List D} (h : AreD es ds) : QPA X U es (fKs ds) := by
 have key : ∃ vs, AreC es vs /\ ∀ K U H, Reps K U H vs ds [] := by
  induction h with
  | nil => exact ⟨[], .nil, fun _ _ _ => .nil⟩
  | int _ ih => obtain ⟨vs, h1, h2⟩ := ih; exact ⟨_, .int h1, fun K U H => .cons (f := []) (g := []) (.int _) (h2 K U H)⟩
  | str _ ih => obtain ⟨vs, h1, h2⟩ := ih; exact ⟨_, .str h1, fun K U H => .cons (f := []) (g := []) (.str _) (h2 K U H)⟩
 obtain ⟨vs, h1, h2⟩ := key
 exact (zx0 h1).imp fun σ H Q ⟨ps, ds', w, e, q⟩ => by cases e; exact q vs H [] (.refl H) (fun _ h => absurd h (by simp)) List.nodup_nil (h2 _ _ _)
noncomputable def aZ (l : List Bool) : Nat -> Bool := fun i => (l[i]?).getD false
noncomputable def yb6 (as : List Arg) : List Bool := as.map fun a => match a with
 | .io _ => true
 | .im _ => false
theorem eX : ∀ {as : List Arg} {l : List Bool}, yb6 as = l -> aZ l = kX as := by
 intro as l h
 subst h
 funext i
 induction as generalizing i with
 | nil => cases i <;> rfl
 | cons a as ih =>
  cases i with
  | zero => cases a <;> rfl
  | succ i =>
   have e : kX (a :: as) (i + 1) = kX as i := by cases a <;> rfl
   rw [e, <- ih i]
   simp [aZ, yb6]
theorem jG {l : List Bool} {i : Nat} (h : aZ l i = true) : i < l.length := by
 unfold aZ at h
 cases q : l[i]? with
 | none => rw [q] at h; cases h
 | some b => exact (List.getElem?_eq_some_iff.mp q).1
section
variable {P : Program} {w : World} {K : tz0} {mg : tzA} {base : Heap} {U : tz9}
theorem FnOk.noneE {f : Addr} {fd : FuncData} {ps : List Str} {k : Nat} {m : Nat -> Bool} : FnOk P w K mg base CX0 k f fd ps (SpE ps.length K U m fun _ => none) :=
 ⟨fun vs H Q E h => h.1, fun A outer s H args us vs Q E _ _ _ _ ⟨_, ds, r, ds', F, _, _, e, _⟩ => by cases e⟩
end
theorem xQ : ∀ ys : List (Str × Tok), cG (ys.map fun p => V.str p.1) (ys.map fun p => Value.str p.1 p.2)
 | [] => .nil
 | y :: ys => .cons ⟨y.2, rfl⟩ (xQ ys)
theorem zb6 {K : tz0} {U : tz9} {H : Hp} : ∀ ys : List (Str × Tok), Reps K U H (ys.map fun p => V.str p.1) (ys.map fun p => D.str p.1) []
 | [] => .nil
 | y :: ys => .cons (f := []) (g := []) (.str _) (zb6 ys)
theorem yd8 {K : tz0} {U : tz9} {a : Addr} {ys : List (Str × Tok)} {od : Option Addr} {n : Nat} {sl : Array (Option Value)} (h : K.lookup a = some ⟨.type "tuple", od, .seq (ys.map fun p => Value.str p.1 p.2).toArray n, sl⟩) (hl : ys.length <= 1000) (H : Hp) :
  Rep K U H (.ref a) (.tup (ys.map fun p => D.str p.1)) [] :=
 .tup (.inr ⟨_, _, n, h, rfl, rfl, by rw [List.size_toArray, List.length_map]; exact zd5 hl, xQ ys⟩) (zb6 ys)
section
variable {X : Cx} {pins : tzB} {σ : St} {H : Hp} {s : Shared} {a C dx : Addr} {fs : List (Str × V)} {f : Str} {v : V} {A : Around} {E : Value -> Shared -> Prop}
theorem yp7 {P : Program} {w : World} {h : Heap} (hok : HOk P w H h) (e : Rd H a (.ins C dx fs)) : ∃ mA, ObjM h a dx C mA /\ (∀ f, oY (fs.lookup f) (mA f)) := by
 obtain ⟨d, z, ne, ob, mA, n, r, q⟩ := (show fM P w H h a (.ins C dx fs) from e.ok hok)
 exact ⟨mA, ⟨ob, n, ne⟩, r⟩
theorem zs0 {b : Bool} {Q : Value -> Shared -> Prop} (I : Inv X pins σ H s) (e : Rd H a (.ins C dx fs)) (c : Cls X.K C) (n : cH X.K C f) (l : fs.lookup f = some v)
  (h : ∀ u s', Inv X pins σ H s' -> cW v u -> Q u s') : wpAny (model X.prog X.w) A (getAttr (.ref a) f b) Q E s := by
 obtain ⟨mA, O, r⟩ := yp7 I.hok e
 obtain ⟨u, hu, ru⟩ := oY.some_of (v := v) (o := mA f) (by rw [<- l]; exact r f)
 exact zm9 I.kIn O (c.get f) c.hd n hu (za4 ru) (h u _ (I.tok _) ru)
end
noncomputable def yv8 (K : tz0) (ta : TE) (f : Str) : TE := fun σ H Q => ta σ H fun x H1 => ∃ a C dx fs v, x = .ref a /\ Rd H1 a (.ins C dx fs) /\ Cls K C /\ cH K C f /\ fs.lookup f = some v /\ Q v H1
theorem yk0 {X : Cx} {e : Expr} {f : Str} {pos : Pos} {ta : TE} (he : PE X e ta) (hb : attributeBase e f X.env (eval e X.env) = eval e X.env) : PE X (.Attribute e f pos) (yv8 X.K ta f) := by
 intro pins s σ H Q I h
 refine zn0 hb (thn (he pins s σ H _ I h) fun u s1 ⟨x, H1, I1, rx, a, C, dx, fs, v, ex, ea, c, n, l, q⟩ => ?_)
 subst ex
 obtain rfl : u = Value.ref a := rx
 exact zs0 I1 ea c n l fun w' s2 I2 rw' => ⟨v, H1, I2, rw', q⟩
noncomputable def iA (C f : Str) : D -> Option D
 | .obj _ C' ns vs => if C' = C then (bI ns f).bind fun n => vs[n]? else none
 | _ => none
noncomputable def cL (C f : Str) (fo : tz2) : tz2 := fun ps => (fo ps).bind (iA C f)
theorem Rep.obj_inv {K : tz0} {U : tz9} {H : Hp} {v : V} {o : Bool} {C : Str} {ns : List Str} {ds : List D} {fp : List Addr} (r : Rep K U H v (.obj o C ns ds) fp) : ∃ a dx fs g, v = .ref a /\ Rd H a (.ins (U C) dx fs) /\ fs.map (·.1) = ns /\ Reps K U H (fs.map (·.2)) ds g /\ g.Sublist fp := by
 cases r with
 | obj h e hs => exact ⟨_, _, _, _, rfl, .inl h, e, hs, List.sublist_cons_self _ _⟩
 | objF h e hs => exact ⟨_, _, _, _, rfl, .inr ⟨_, h⟩, e, hs, .refl _⟩
section
variable {X : Cx} {U : tz9} {o e : Expr} {C fn : Str} {fo : tz2} {pos : Pos}
theorem dW (hc : Cls X.K (U C)) (hna : cH X.K (U C) fn) (ho : QV X U o fo) (hb : attributeBase o fn X.env (eval o X.env) = eval o X.env := by rfl) : QV X U (.Attribute o fn pos) (cL C fn fo) :=
 (yk0 ho hb).imp fun σ H Q hh_ => by
  obtain ⟨ps, d, w, e, q⟩ := hh_
  obtain ⟨x, e1, e2⟩ := bind_some e
  refine ⟨ps, x, w, e1, fun v H1 fp s1 r1 => ?_⟩
  cases x with
  | obj ow C' ns ds =>
   have e2' : (if C' = C then (bI ns fn).bind fun n => ds[n]? else none) = some d := e2
   by_cases hC : C' = C
   case neg => rw [if_neg hC] at e2'; cases e2'
   rw [if_pos hC] at e2'
   subst hC
   obtain ⟨n, e4, e5⟩ := bind_some e2'
   obtain ⟨a, dx, fs, g, rfl, h, hk, hs, sub⟩ := r1.obj_inv
   subst hk
   obtain ⟨u, f1, k3, k4, _⟩ := hs.get e5
   exact ⟨a, U C', dx, fs, u, rfl, h, hc, hna, pQ e4 k3, q u H1 f1 s1 k4⟩
  | _ => cases e2
end
theorem zn6 : ∀ {fs : List (Str × V)} {f : Str} {n : Nat} (v : V), bI (fs.map (·.1)) f = some n -> (gR f v fs).map (·.1) = fs.map (·.1) /\ (gR f v fs).map (·.2) = (fs.map (·.2)).set n v
 | [], _, _, _, h => by cases h
 | (g, x) :: r, f, n, v, h => by
  rw [List.map_cons, bI] at h
  by_cases z : g = f
  ·have z' : (g, x).1 = f := z
   rw [if_pos z'] at h; cases h
   rw [gR, if_pos z]; exact ⟨rfl, rfl⟩
  ·have z' : ¬ (g, x).1 = f := z
   rw [if_neg z'] at h
   obtain ⟨m, h1, h2⟩ := Option.map_eq_some_iff.mp h
   subst h2
   obtain ⟨k1, k2⟩ := zn6 v h1
   rw [gR, if_neg z]
   exact ⟨by rw [List.map_cons, List.map_cons, k1], by rw [List.map_cons, List.map_cons, List.set_cons_succ, k2]⟩
theorem zg9 : ∀ {fs : List (Str × V)} {f : Str} (v : V), bI (fs.map (·.1)) f = none -> (gR f v fs).map (·.1) = fs.map (·.1) ++ [f] /\ (gR f v fs).map (·.2) = fs.map (·.2) ++ [v]
 | [], _, _, _ => ⟨rfl, rfl⟩
 | (g, x) :: r, f, v, h => by
  rw [List.map_cons, bI] at h
  by_cases z : g = f
  ·have z' : (g, x).1 = f := z
   rw [if_pos z'] at h; cases h
  ·have z' : ¬ (g, x).1 = f := z
   rw [if_neg z'] at h
   obtain ⟨k1, k2⟩ := zg9 v (Option.map_eq_none_iff.mp h)
   rw [gR, if_neg z]
   exact ⟨by rw [List.map_cons, List.map_cons, k1]; rfl, by rw [List.map_cons, List.map_cons, k2]; rfl⟩
noncomputable def eJ (C f : Str) (y : D) : D -> Option (Unit × D)
 | .obj true C' ns vs => if (C' = C /\ ns.length < 900) then (match bI ns f with
   | some n => some ((), .obj true C' ns (vs.set n y))
   | none => some ((), .obj true C' (ns ++ [f]) (vs ++ [y]))) else none
 | _ => none
theorem zh0 {C f : Str} {y d d' : D} {r : Unit} (h : eJ C f y d = some (r, d')) : ∃ ns vs, d = .obj true C ns vs /\ ns.length < 900 /\ ((∃ n, bI ns f = some n /\ d' = .obj true C ns (vs.set n y)) \/ (bI ns f = none /\ d' = .obj true C (ns ++ [f]) (vs ++ [y]))) := by
 unfold eJ at h
 split at h
 ·rename_i C' ns vs
  by_cases hh : C' = C /\ ns.length < 900
  ·rw [if_pos hh] at h
   obtain ⟨hC, hl⟩ := hh
   subst hC
   cases q : bI ns f with
   | some n => rw [q] at h; cases h; exact ⟨ns, vs, rfl, hl, .inl ⟨n, q, rfl⟩⟩
   | none => rw [q] at h; cases h; exact ⟨ns, vs, rfl, hl, .inr ⟨q, rfl⟩⟩
  ·rw [if_neg hh] at h; cases h
 ·cases h
noncomputable def dE (j : Nat) (pf : PSt -> Option (List Ps1)) (C f : Str) (fe : tz2) : tz1 := fun ps => (fe ps).bind fun y => ((ps[j]?).join).bind fun d0 => (pf ps).bind fun p => (bM (eJ C f y) d0 p).bind fun r => some (.nx, ps.set j (some r.2))
theorem zh1 : ∀ {ns : List Str} {f : Str} {n : Nat}, bI ns f = some n -> n < ns.length
 | [], _, _, h => by cases h
 | m :: ns, f, n, h => by
  rw [bI] at h
  by_cases z : m = f
  ·rw [if_pos z] at h; cases h; simp
  ·rw [if_neg z] at h
   obtain ⟨k, h1, h2⟩ := Option.map_eq_some_iff.mp h
   subst h2
   have := zh1 h1
   simp; omega
section
variable {X : Cx} {U : tz9} {φ : F0} {o e : Expr} {C fn : Str} {j : Nat} {pf : PSt -> Option (List Ps1)} {fe : tz2} {pos pos' : Pos}
theorem iG (hc : Cls X.K (U C)) (hna : cH X.K (U C) fn) (hb : φ.bor j = false) (he : PE X e (tP X.K U fe)) (ho : PE X o (gB X.K U j pf)) (hs : swapsWith e (some (.Attribute o fn pos')) pos.line X.env = pure false := by rfl) :
  QS X U φ (.Assign [.Attribute o fn pos'] e pos) (dE j pf C fn fe) :=
 (yo1 ho he hs).imp fun E σ H hh_ => by
  obtain ⟨ps, F, fl, ps', R, e, q⟩ := hh_
  obtain ⟨y, e1, e2⟩ := bind_some e
  obtain ⟨d0, e3, e4⟩ := bind_some e2
  have e0 := join_some e3
  obtain ⟨p, e5, e6⟩ := bind_some e4
  obtain ⟨⟨r, d0'⟩, em, e9⟩ := bind_some e6
  cases e9
  obtain ⟨dd, dn, gp, hh⟩ := mJ em
  refine ⟨ps, y, R.ws, e1, fun v H1 fy s1 n1 nd1 ry => ⟨ps, p, d0, dd, R.ws.same s1, e0, e5, gp, fun lv H2 v0 s2 ev a2 => ?_⟩⟩
  have s12 := s1.trans s2
  obtain ⟨d1, d1', fd, m1, m2, m3, m4, m5⟩ := rO R s12 hb e0 ev em a2
  obtain ⟨ns, vs, rfl, hlen, hd⟩ := zh0 m2
  obtain ⟨l, dx, fs, g1, rfl, hl, hn, hr, rfl⟩ := m1.objT_inv
  subst hn
  have ry2 := ry.same s2
  obtain ⟨nl, nd3⟩ := List.nodup_cons.mp m3
  have own0 : ∀ a ∈ l :: g1, H a ≠ none := fun a ha z => by obtain ⟨o, h, _⟩ := R.own (m4 a ha); rw [z] at h; cases h
  have nl2 : l ∉ fy := fun z => own0 l List.mem_cons_self (n1 l z)
  have hl9 : fs.length < 900 := by rw [List.length_map] at hlen; exact hlen
  refine ⟨l, U C, dx, fs, rfl, hl, hc, hna, by omega, ?_⟩
  have go : ∀ (g2 : List Addr), (∀ a ∈ g2, a ∈ fy \/ a ∈ g1) -> g2.Nodup -> Rep X.K U (upd H2 l (.ins (U C) dx (gR fn v fs))) (.ref l) d1' (l :: g2) -> ∃ F', Stp (φ.fx X.K U) σ H F σ (upd H2 l (.ins (U C) dx (gR fn v fs))) (ps.set j (some d0')) F' := fun g2 mem2 nd2 rp => by
   have n2 : l ∉ g2 := fun z => (mem2 l z).elim nl2 nl
   obtain ⟨F', st, ow⟩ := m5 (upd H2 l (.ins (U C) dx (gR fn v fs))) (l :: g2) [] (fun a o h _ hn => wN h hn) (fun a h => wO h) rp
    (by rw [List.append_nil, List.nodup_cons]; exact ⟨n2, nd2⟩)
    (fun a ha => by
     rw [List.append_nil] at ha
     rcases List.mem_cons.mp ha with z | z
     ·exact .inl (by rw [z]; exact List.mem_cons_self)
     ·exact (mem2 a z).elim (fun z => .inr (n1 a z)) fun z => .inl (List.mem_cons_of_mem _ z))
   exact ⟨F', st⟩
  rcases hd with ⟨n, hx, rfl⟩ | ⟨hx, rfl⟩
  ·obtain ⟨k1, k2⟩ := zn6 v hx
   have hn' := zh1 hx
   obtain ⟨f1, rest, g2, p1, p2, p3⟩ := hr.setV (n := n) (by rw [<- hr.length, List.length_map]; rw [List.length_map] at hn'; exact hn') ry2
   have mem2 : ∀ a ∈ g2, a ∈ fy \/ a ∈ g1 := fun a ha => (List.mem_append.mp (p3.mem_iff.mp ha)).elim .inl fun z => .inr (p1.mem_iff.mpr (List.mem_append_right _ z))
   have n2 : l ∉ g2 := fun z => (mem2 l z).elim nl2 nl
   have nd2 : g2.Nodup := p3.nodup_iff.mpr (List.nodup_append.mpr ⟨nd1, (List.nodup_append.mp (p1.nodup_iff.mp nd3)).2.1, fun a ha b hb e => by
    subst e
    exact own0 a (List.mem_cons_of_mem _ (p1.mem_iff.mpr (List.mem_append_right _ hb))) (n1 a ha)⟩)
   obtain ⟨F', st⟩ := go g2 mem2 nd2 (.obj eE k1 (by rw [k2]; exact p2.updL hl rfl n2))
   exact q _ _ F' st
  ·obtain ⟨k1, k2⟩ := zg9 v hx
   have mem2 : ∀ a ∈ g1 ++ fy, a ∈ fy \/ a ∈ g1 := fun a ha => (List.mem_append.mp ha).elim .inr .inl
   have n2 : l ∉ g1 ++ fy := fun z => (mem2 l z).elim nl2 nl
   have nd2 : (g1 ++ fy).Nodup := List.nodup_append.mpr ⟨nd3, nd1, fun a ha b hb e => by
    subst e
    exact own0 a (List.mem_cons_of_mem _ ha) (n1 a hb)⟩
   obtain ⟨F', st⟩ := go (g1 ++ fy) mem2 nd2 (.obj eE k1 (by rw [k2]; exact (Reps.append hr (Reps.one ry2)).updL hl rfl n2))
   exact q _ _ F' st
end
structure Mn (K : tz0) (U : tz9) (C m qual : Str) (st : Stmt) (ps : List Str) (f : Addr) (fd : FuncData) : Prop where
 F : Fun K m qual st f fd
 b : lQ K fd ps []
 c : Cls K (U C)
 h : Meth K (U C) m f
noncomputable def eS (C m : Str) (fo : tz2) : tz2 := fun ps => (fo ps).bind fun d => match d with
 | .obj true C' ns vs => if (C' = C /\ bI ns m = none) then some (.obj true C' ns vs) else none
 | _ => none
theorem xR {C m : Str} {fo : tz2} {ps : PSt} {d : D} (h : eS C m fo ps = some d) : ∃ ns vs, d = .obj true C ns vs /\ fo ps = some d /\ bI ns m = none := by
 obtain ⟨x, e1, e2⟩ := bind_some h
 cases x with
 | obj o C' ns vs => cases o with
  | true =>
   have e2' : (if (C' = C /\ bI ns m = none) then some (D.obj true C' ns vs) else none) = some d := e2
   obtain ⟨⟨hC, hn⟩, e3⟩ := cN e2'
   subst hC; cases e3
   exact ⟨ns, vs, rfl, e1, hn⟩
  | false => cases e2
 | _ => cases e2
theorem lX : ∀ {fs : List (Str × V)} {m : Str}, bI (fs.map (·.1)) m = none -> fs.lookup m = none
 | [], _, _ => rfl
 | (g, x) :: r, m, h => by
  rw [List.map_cons, bI] at h
  by_cases z : g = m
  ·have z' : (g, x).1 = m := z
   rw [if_pos z'] at h; cases h
  ·have z' : ¬ (g, x).1 = m := z
   rw [if_neg z'] at h
   have ih := lX (Option.map_eq_none_iff.mp h)
   rw [List.lookup_cons]
   have : (m == g) = false := by
    rw [beq_eq_false_iff_ne]; exact fun e => z e.symm
   rw [this]; exact ih
section
variable {X : Cx} {U : tz9} {o e : Expr} {es : List Expr} {C m qual : Str} {st : Stmt} {ps : List Str} {f : Addr} {fd : FuncData} {k np : Nat} {h : tz6} {fo : tz2} {g : tz3} {apos pos p : Pos} {pl : Sem Bool}
theorem wP (M : Mn X.K U C m qual st ps f fd) (G : FnOk X.prog X.w X.K X.mg X.base CX0 k f fd ps (SpP 1 X.K U h)) (hr : Room k X.A) (ho : QV X U o fo)
  (ht : eval (.Call (.Attribute o m apos) [] [] pos) X.env = (do
   let ov <- eval o X.env
   standAt apos.atName
   let (f, first) <- holding [ov] (getMethod ov m pl)
   callWith pos f first (backTo pos (starEach [] X.env)) (backToKw pos (keywordEach [] X.env))) := by rfl) :
  QP X U (.Call (.Attribute o m apos) [] [] pos) (aG h (aB (eS C m fo) aD)) := (zf2 ho M.c M.h G hr M.b .nil xK ht).imp fun σ H Q hh_ => by
 obtain ⟨ps, d, w, e, q⟩ := hh_
 obtain ⟨ds, e1, e2⟩ := bind_some e
 obtain ⟨x, k1, k2⟩ := bind_some e1
 obtain ⟨ds', k3, k4⟩ := bind_some k2
 cases k4; cases k3
 obtain ⟨ns, vs, rfl, k5, k6⟩ := xR k1
 refine ⟨ps, _, w, k5, fun v H1 fp s1 r1 => ?_⟩
 have r1' := r1
 obtain ⟨_, _, _, _, rfl, hl, hn, hs, rfl⟩ := r1.objT_inv
 subst hn
 exact ⟨_, _, _, rfl, hl, lX k6, rfl, _, _, d, Reps.one r1', e2, q.after s1⟩
end
noncomputable def jY : Nat -> Bool := fun i => decide (i = 0)
noncomputable def pG (fd : List Addr) : Nat -> List Addr := fun i => if i = 0 then fd else []
theorem jQ {fd : List Addr} {i : Nat} {a : Addr} (h : a ∈ pG fd i) : i = 0 /\ a ∈ fd := by
 unfold pG at h
 by_cases z : i = 0
 ·rw [if_pos z] at h; exact ⟨z, h⟩
 ·rw [if_neg z] at h; exact absurd h (by simp)
theorem sG {K : tz0} {U : tz9} {H : Hp} {v : V} {vs : List V} {d : D} {ds : List D} {fd : List Addr} (r : Rep K U H v d fd) (nd : fd.Nodup) (rs : Reps K U H vs ds []) :
  RS (fxE K U (ds.length + 1) jY) H ((v :: vs).map some) ((d :: ds).map some) (pG fd) := by
 refine ⟨fun i x hx => ?_, fun i a ha => ?_, fun i j a h1 h2 => ?_, fun i => ?_, fun i a _ k z => z.elim, fun k a z => z.elim, by simp [rs.length]⟩
 ·cases i with
  | zero =>
   simp at hx; subst hx
   exact ⟨v, fd, rfl, r, fun _ => rfl, fun z => by simp [fxE, jY] at z⟩
  | succ i =>
   rw [List.map_cons, List.getElem?_cons_succ, List.getElem?_map] at hx
   obtain ⟨y, hy, e⟩ := Option.map_eq_some_iff.mp hx
   cases e
   obtain ⟨u, f1, k1, k2, k3⟩ := rs.get hy
   have ef : f1 = [] := by
    cases f1 with
    | nil => rfl
    | cons b l => exact absurd (k3 b List.mem_cons_self) (by simp)
   subst ef
   exact ⟨u, [], by rw [List.map_cons, List.getElem?_cons_succ, List.getElem?_map, k1]; rfl, k2, (fun _ => by simp [pG]), fun _ a ha => absurd ha (by simp)⟩
 ·obtain ⟨e, h⟩ := jQ ha
  subst e
  exact ⟨by simp [fxE, jY], d, rfl⟩
 ·rw [(jQ h1).1, (jQ h2).1]
 ·unfold pG; split
  ·exact nd
  ·exact List.nodup_nil
noncomputable def qU : List Arg -> Bool
 | [] => true
 | .im _ :: as => qU as
 | .io _ :: _ => false
theorem ArgsAt.reps {K : tz0} {U : tz9} {H : Hp} {σ : St} {ps : PSt} : ∀ {as : List Arg} {vs : List V} {ds : List D}, ArgsAt K U H σ ps as vs ds -> qU as = true -> Reps K U H vs ds []
 | _, _, _, .nil, _ => .nil
 | _, _, _, .io _ _ _, h => by cases h
 | _, _, _, .im r a, h => .cons (f := []) (g := []) r (ArgsAt.reps a h)
noncomputable def eO (C m : Str) (g : tz7) (ys : List D) (d : D) : Option (D × D) := match d with
 | .obj true C' ns vs => if (C' = C /\ bI ns m = none) then (g (.obj true C' ns vs :: ys)).bind fun r => match r.2 with
   | d' :: ds => if ds.length = ys.length then some (r.1, d') else none
   | [] => none
  else none
 | _ => none
theorem xS {C m : Str} {g : tz7} {ys : List D} {d r d' : D} (h : eO C m g ys d = some (r, d')) : ∃ ns vs ds, d = .obj true C ns vs /\ bI ns m = none /\ g (d :: ys) = some (r, d' :: ds) /\ ds.length = ys.length := by
 unfold eO at h
 split at h
 ·rename_i C' ns vs
  by_cases hc : C' = C /\ bI ns m = none
  ·rw [if_pos hc] at h
   obtain ⟨hC, hn⟩ := hc
   subst hC
   obtain ⟨⟨r1, ds⟩, e1, e2⟩ := bind_some h
   cases ds with
   | nil => cases e2
   | cons d1 ds =>
    obtain ⟨hl, e3⟩ := cN e2
    cases e3
    exact ⟨ns, vs, ds, rfl, hn, e1, hl⟩
  ·rw [if_neg hc] at h; cases h
 ·cases h
section
variable {X : Cx} {U : tz9} {φ : F0} {o e : Expr} {es : List Expr} {C m qual : Str} {st : Stmt} {ps : List Str} {f : Addr} {fd : FuncData} {k np j : Nat} {mk : Nat -> Bool} {g : tz7} {pf : PSt -> Option (List Ps1)} {as : List Arg} {apos pos p : Pos} {pl : Sem Bool}
theorem yd9 {σ : St} {H H1 : Hp} {Q : VK} {ps : PSt} {F : Nat -> List Addr} {d0 d0' r : D} {pp : List Ps1} {v0 v : V} {ys : List D} {us : List V} (R : RS (φ.fx X.K U) H σ ps F) (s1 : SameK H H1) (hb : φ.bor j = false) (e0 : ps[j]? = some (some d0)) (ev : σ[j]? = some (some v0))
  (em : bM (eO C m g ys) d0 pp = some (r, d0')) (at_ : At H1 v0 pp v) (ry : Reps X.K U H1 us ys []) (hnp : np = ys.length + 1) (hm : mk = jY)
  (q : ∀ v H' F' fv, Stp (φ.fx X.K U) σ H F σ H' (ps.set j (some d0')) F' -> OwnV F H F' fv -> Rep X.K U H' v r fv -> Q v H') : SpE np X.K U mk g (v :: us) H1 Q E0 := by
 subst hnp hm
 obtain ⟨d1, d1', fd, m1, m2, m3, m4, m5⟩ := rO R s1 hb e0 ev em at_
 obtain ⟨ns, vs, ds, rfl, hn, eg, hl⟩ := xS m2
 refine ⟨by rw [List.length_cons, ry.length], _, r, d1' :: ds, pG fd, by simp, sG m1 m3 ry, eg, fun u H' F' fv s o rv => ?_⟩
 obtain ⟨v2, fp2, k1, k2, k3, _⟩ := s.rs.rep 0 d1' rfl
 have ek : v2 = v := by
  have : (List.map some (v :: us))[0]? = some (some v2) := k1
  simp at this; exact this.symm
 subst ek
 have k3' := k3 (by simp [fxE, jY])
 subst k3'
 have old : ∀ a, ((∃ i, a ∈ pG fd i) \/ H1 a = none) -> a ∈ fd \/ H a = none := fun a h => h.elim (fun ⟨i, hi⟩ => .inl (jQ hi).2) fun z => .inr (s1.grow a z)
 obtain ⟨F2, st2, ow2⟩ := m5 H' (F' 0) fv (fun a o h k hn => s.fr.keep a o h k fun i hi => hn (jQ hi).2) (fun a h => s.fr.grow a h) k2
  (List.nodup_append.mpr ⟨s.rs.nd 0, o.nd, fun a ha b hb e => by subst e; exact o.dis 0 a ha hb⟩)
  (fun a ha => (List.mem_append.mp ha).elim (fun z => old a (s.nw 0 a z)) fun z => old a (o.nw a z))
 exact q u H' F2 fv st2 ow2 rv
theorem ye0 {σ : St} {H H1 : Hp} {ps : PSt} {F : Nat -> List Addr} {d0 d0' r : D} {pp : List Ps1} {v0 v : V} {ys : List D} (R : RS (φ.fx X.K U) H σ ps F) (s1 : SameK H H1) (e0 : ps[j]? = some (some d0)) (ev : σ[j]? = some (some v0))
  (em : bM (eO C m g ys) d0 pp = some (r, d0')) (at_ : At H1 v0 pp v) : ∃ a dx fs, v = .ref a /\ H1 a = some (.ins (U C) dx fs) /\ fs.lookup m = none := by
 obtain ⟨dd, dn, gp, hh⟩ := mJ em
 obtain ⟨ns, vs, ds, rfl, hn, _⟩ := xS hh
 obtain ⟨fd, rd⟩ := vC R.ws s1 e0 ev gp at_
 obtain ⟨_, _, _, _, rfl, hl, hk, hs, rfl⟩ := rd.objT_inv
 subst hk; exact ⟨_, _, _, rfl, hl, lX hn⟩
theorem jO (M : Mn X.K U C m qual st ps f fd) (G : FnOk X.prog X.w X.K X.mg X.base CX0 k f fd ps (SpE np X.K U mk g)) (hr : Room k X.A) (hb : φ.bor j = false) (ho : PE X o (gB X.K U j pf)) (ha : PA X (e :: es) (tIO X.K U as)) (has : qU as = true) (hnp : np = as.length + 1) (hm : mk = jY)
  (hst : starEach (e :: es) X.env = (false, eval e X.env) :: starEach es X.env := by rfl) (hpl : (backTo pos (starEach es X.env)).any (·.1) = false := by rfl)
  (ht : eval (.Call (.Attribute o m apos) (e :: es) [] pos) X.env = (do
   let ov <- eval o X.env
   standAt apos.atName
   let (f, first) <- holding [ov] (getMethod ov m pl)
   callWith pos f first (backTo pos (starEach (e :: es) X.env)) (backToKw pos (keywordEach [] X.env))) := by rfl) :
  QE X U φ (.Call (.Attribute o m apos) (e :: es) [] pos) (bE j pf (aU as) (eO C m g)) := (zn1 ho M.c M.h G hr M.b .nil xK ha hst hpl ht).imp fun σ H Q hh_ => by
 obtain ⟨ps, F, d, ps', R, e, q⟩ := hh_
 obtain ⟨d0, pp, ys, d0', e0, ep, eg, em, rfl⟩ := tU e
 obtain ⟨dd, dn, gp, hh⟩ := mJ em
 refine ⟨ps, pp, d0, dd, R.ws, e0, ep, gp, fun v H1 v0 s1 ev a1 => ?_⟩
 obtain ⟨a, dx, fs, rfl, hl, hn⟩ := ye0 R s1 e0 ev em a1
 refine ⟨a, dx, fs, rfl, hl, hn, ps, ys, R.ws.same s1, eg, fun us H2 s2 a2 => ?_⟩
 show SpE np X.K U mk g (_ :: (us ++ [])) H2 Q E0
 rw [List.append_nil]
 exact yd9 R (s1.trans s2) hb e0 ev em (a1.same s2) (a2.reps has) (by rw [hnp, a2.len.2]) hm q
end
structure Kn (K : tz0) (mg : tzA) (U : tz9) (C qual : Str) (st : Stmt) (ps : List Str) (f : Addr) (fd : FuncData) : Prop where
 F : Fun K "__init__" qual st f fd
 b : lQ K fd ps []
 M : Mk K (U C) f
 m : mg C = some (.ref (U C))
noncomputable def dY (C : Str) (ga : tz3) (g : tz7) : tz2 := fun ps => (ga ps).bind fun ys => (g (.obj true C [] [] :: ys)).bind fun r => match r with
 | (.non, d' :: _) => some d'
 | _ => none
theorem zs1 {C : Str} {ga : tz3} {g : tz7} {ps : PSt} {d : D} (h : dY C ga g ps = some d) : ∃ ys ds, ga ps = some ys /\ g (.obj true C [] [] :: ys) = some (.non, d :: ds) := by
 obtain ⟨ys, e1, e2⟩ := bind_some h
 obtain ⟨⟨r, ds⟩, e3, e4⟩ := bind_some e2
 cases r with
 | non => cases ds with
  | nil => cases e4
  | cons d1 ds => cases e4; exact ⟨ys, ds, e1, e3⟩
 | _ => cases e4
section
variable {X : Cx} {U : tz9} {e : Expr} {es : List Expr} {C qual : Str} {st : Stmt} {ps : List Str} {f : Addr} {fd : FuncData} {k np : Nat} {mk : Nat -> Bool} {g : tz7} {as : List Arg} {pos p : Pos}
theorem yk1 {H H1 : Hp} {Q : VK} {d : D} {ys ds : List D} {us : List V} {x dx : Addr} (s1 : SameK H H1) (hx : H1 x = none) (hdx : H1 dx = none) (hne : dx ≠ x) (ry : Reps X.K U H1 us ys []) (hnp : np = ys.length + 1) (hm : mk = jY) (eg : g (.obj true C [] [] :: ys) = some (.non, d :: ds)) (q : kW X.K U H d Q) :
  SpE np X.K U mk g (.ref x :: us) (upd (upd H1 dx (.own x)) x (.ins (U C) dx [])) (fun v H2 => v = .non /\ Q (.ref x) H2) E0 := by
 subst hnp hm
 have ne : ∀ a o, H1 a = some o -> a ≠ x /\ a ≠ dx := fun a o h => ⟨fun z => (by rw [z, hx] at h; cases h), fun z => (by rw [z, hdx] at h; cases h)⟩
 have up : ∀ a o, H1 a = some o -> upd (upd H1 dx (.own x)) x (.ins (U C) dx []) a = some o := fun a o h => by rw [cM (ne a o h).1, cM (ne a o h).2]; exact h
 have gr : ∀ a, upd (upd H1 dx (.own x)) x (.ins (U C) dx []) a = none -> H1 a = none := fun a h => by
  by_cases z : a = x
  ·rw [z]; exact hx
  ·rw [cM z] at h
   by_cases z2 : a = dx
   ·rw [z2]; exact hdx
   ·rwa [cM z2] at h
 have s2 : SameK H1 (upd (upd H1 dx (.own x)) x (.ins (U C) dx [])) := ⟨fun a o h _ => up a o h, gr⟩
 have r0 : Rep X.K U (upd (upd H1 dx (.own x)) x (.ins (U C) dx [])) (.ref x) (.obj true C [] []) [x] := .obj (fs := []) eE rfl .nil
 have ry2 : Reps X.K U (upd (upd H1 dx (.own x)) x (.ins (U C) dx [])) us ys [] := ry.move (fun a o h _ => up a o h) fun a ha => absurd ha (by simp)
 refine ⟨by rw [List.length_cons, ry.length], _, .non, d :: ds, pG [x], by simp, sG r0 (by simp) ry2, eg, fun u H' F' fv s o rv => ⟨by cases rv; rfl, ?_⟩⟩
 obtain ⟨v2, fp2, k1, k2, k3, _⟩ := s.rs.rep 0 d rfl
 have ek : v2 = .ref x := by
  have : (List.map some (V.ref x :: us))[0]? = some (some v2) := k1
  simp at this; exact this.symm
 subst ek
 have k3' := k3 (by simp [fxE, jY])
 subst k3'
 refine q (.ref x) H' (F' 0) ⟨fun a o h hk => ?_, fun a h => s1.grow a (gr a (s.fr.grow a h))⟩ (fun a ha => ?_) (s.rs.nd 0) k2
 ·have h1 := s1.keep a o h hk
  refine s.fr.keep a o (up a o h1) hk fun i hi => ?_
  have := (jQ hi).2
  simp at this
  exact (ne a o h1).1 this
 ·rcases s.nw 0 a ha with ⟨i, hi⟩ | z
  ·have := (jQ hi).2
   simp at this
   subst this
   exact s1.grow a hx
  ·exact s1.grow a (gr a z)
theorem nP (Kd : Kn X.K X.mg U C qual st ps f fd) (G : FnOk X.prog X.w X.K X.mg X.base CX0 k f fd ps (SpE np X.K U mk g)) (hr : Room (k + 1) X.A) (hg : Gl X C) (ha : PA X (e :: es) (tIO X.K U as)) (has : qU as = true) (hnp : np = as.length + 1) (hm : mk = jY)
  (hdb : (C == ("__debug__" : Str)) = false := by decide) (he : starEach (e :: es) X.env = (false, eval e X.env) :: starEach es X.env := by rfl) (hpl : (backTo pos (starEach es X.env)).any (·.1) = false := by rfl) :
  QP X U (.Call (.Name C p) (e :: es) [] pos) (dY C (aU as) g) := (yj0 Kd.M G hr hg Kd.m Kd.b .nil xK ha hdb he hpl).imp fun σ H Q hh_ => by
 obtain ⟨ps, d, w, e, q⟩ := hh_
 obtain ⟨ys, ds, e1, e2⟩ := zs1 e
 refine ⟨ps, ys, w, e1, fun us H1 s1 a1 x dx hx hdx hne => ?_⟩
 show SpE np X.K U mk g (_ :: (us ++ [])) _ _ E0
 rw [List.append_nil]
 exact yk1 s1 hx hdx hne (a1.reps has) (by rw [hnp, a1.len.2]) hm e2 q
end
section
variable {X : Cx} {U : tz9}
theorem zx7 : MtR X "str.startswith" (fun x xs H Q => ∃ z y, x = .str z /\ xs = [.str y] /\ Q (.bl (Txt.startswith z y)) H) := by
 intro pins s σ H x xs v us Q I rx r h
 obtain ⟨z, y, rfl, rfl, q⟩ := h
 obtain ⟨t, rfl⟩ := rx
 obtain ⟨u, rfl, t', rfl⟩ := qG r
 exact SC.startswith ⟨.bl _, H, I.tok _, rfl, q⟩
noncomputable def lY : D -> tz6
 | .str z, [.str y] => some (.bl (Txt.startswith z y))
 | _, _ => none
theorem pR : MtR X "str.startswith" (PMt X.K U lY) := by
 rintro pins s σ H x vs v us Q I rx r ⟨dx, ds, fx, fp, d, r1, rs, e, q⟩
 unfold lY at e
 split at e
 ·cases e
  obtain ⟨w, rfl, r2⟩ := rs.one_inv
  exact zx7 pins s σ H x _ v us Q I rx r ⟨_, _, r1.is_str, by rw [r2.is_str], q.now (.bl _)⟩
 ·cases e
end
theorem dM (n : Nat) : aZ (true :: List.replicate n false) = jY := by
 funext i
 unfold aZ jY
 cases i with
 | zero => rfl
 | succ i =>
  rw [List.getElem?_cons_succ, List.getElem?_replicate]
  split <;> simp
noncomputable def kap : List (Str × Addr) -> tz9
 | [], _ => mainGlobals
 | (x, a) :: r, y => if x = y then a else kap r y
section
variable {X : Cx} {pins : tzB} {σ : St} {H : Hp} {s : Shared} {a C dx : Addr} {fs : List (Str × V)}
theorem Inv.freeze (I : Inv X pins σ H s) (h : H a = some (.ins C dx fs)) : Inv X pins σ (upd H a (.frz (PySem.W.instObj C dx) (.ins C dx fs))) s := by
 have ne : ∀ b, H b = none -> b ≠ a := fun b hb z => by rw [z, h] at hb; cases hb
 have nt : ∀ b o, H b = some o -> (∀ C' dx' fs', o ≠ .ins C' dx' fs') -> b ≠ a := fun b o hb ho z => by
  rw [z, h] at hb
  cases hb
  exact ho _ _ _ rfl
 refine ⟨I.ok, I.os, I.bare, ⟨I.base.keep, I.base.slot, fun b o h1 h2 h3 => ?_, I.base.there, fun b xs h1 => ?_, fun b o u h1 => ?_, fun b ps h1 => ?_⟩, I.loc, I.cell, ?_, fun x c e => ?_, fun p hp => ?_, fun b o e => ?_, I.len⟩
 ·have := I.base.free b o h1 h2 h3
  rw [cM (ne b this)]; exact this
 ·have := I.base.tups b xs h1
  rw [cM (nt b _ this fun _ _ _ z => by cases z)]; exact this
 ·have := I.base.frzs b o u h1
  rw [cM (nt b _ this fun _ _ _ z => by cases z)]; exact this
 ·obtain ⟨more, this⟩ := I.base.tbls b ps h1
  exact ⟨more, by rw [cM (nt b _ this fun _ _ _ z => by cases z)]; exact this⟩
 ·rw [cM (ne _ I.free)]; exact I.free
 ·have := I.freeC x c e
  rw [cM (ne _ this)]; exact this
 ·obtain ⟨p1, p2, p3⟩ := I.pin p hp
  exact ⟨p1, by rw [cM (ne _ p2)]; exact p2, p3⟩
 ·have st : ∀ {b o}, fM X.prog X.w H s.heap b o -> fM X.prog X.w (upd H a (.frz (PySem.W.instObj C dx) (.ins C dx fs))) s.heap b o := fun x =>
   x.stay (fun _ _ _ q => q) (fun b' hb => by rw [cM (nt b' _ hb fun _ _ _ z => by cases z)]; exact hb) fun b' xs hb => by rw [cM (nt b' _ hb fun _ _ _ z => by cases z)]; exact hb
  by_cases z : b = a
  ·subst z
   rw [eE] at e
   cases e
   have x := I.hok b _ h
   obtain ⟨_, _, _, ob, _⟩ := (show fM X.prog X.w H s.heap b (.ins C dx fs) from x)
   exact ⟨ob, st x⟩
  ·rw [cM z] at e
   exact st (I.hok b o e)
end
theorem PE.frz {X : Cx} {e : Expr} {t : TE} (h : PE X e t) : PE X e (fun σ H Q => t σ H fun x H' => ∃ a C dx fs, x = .ref a /\ H' a = some (.ins C dx fs) /\ Q x (upd H' a (.frz (PySem.W.instObj C dx) (.ins C dx fs)))) := by
 intro pins s σ H Q I q
 exact thn (h pins s σ H _ I q) fun v s1 ⟨x, H1, I1, rx, a, C, dx, fs, ex, ea, q1⟩ => ⟨x, _, I1.freeze ea, rx, q1⟩
noncomputable def oC (f : tz2) : tz2 := fun ps => (f ps).bind fun d => match d with
 | .obj true C ns vs => if D.imms vs = true then some (.obj false C ns vs) else none
 | _ => none
theorem uB {X : Cx} {U : tz9} {e : Expr} {f : tz2} (h : QP X U e f) : QP X U e (oC f) :=
 (PE.frz h).imp fun σ H Q hh_ => by
  obtain ⟨ps, d, w, e, q⟩ := hh_
  obtain ⟨d0, e1, e2⟩ := bind_some e
  refine ⟨ps, d0, w, e1, fun v H1 fv s1 n1 nd1 r1 => ?_⟩
  cases d0 with
  | obj o C ns vs => cases o with
   | true =>
    have e2' : (if D.imms vs = true then some (D.obj false C ns vs) else none) = some d := e2
    obtain ⟨hi, e3⟩ := cN e2'
    cases e3
    obtain ⟨l, dx, fs, g, rfl, hl, hn, hs, rfl⟩ := r1.objT_inv
    have eg := hs.imm hi
    subst eg
    have hln := n1 l List.mem_cons_self
    have up : ∀ b o, H b = some o -> b ≠ l := fun b o hb z => by rw [z, hln] at hb; cases hb
    refine ⟨l, U C, dx, fs, rfl, hl, q (.ref l) _ [] ⟨fun b o hb hk => ?_, fun b hb => ?_⟩ (fun _ h => absurd h (by simp)) List.nodup_nil (.objF eE hn (hs.move (fun b o hb ht => ?_) fun _ h => absurd h (by simp)))⟩
    ·rw [cM (up b o hb)]; exact s1.keep b o hb hk
    ·by_cases z : b = l
     ·rw [z, eE] at hb; cases hb
     ·rw [cM z] at hb; exact s1.grow b hb
    ·by_cases z : b = l
     ·rw [z, hl] at hb; cases hb; cases ht
     ·rw [cM z]; exact hb
   | false => cases e2
  | _ => cases e2
section
variable {X : Cx} {U : tz9}
theorem ye1 : MtR X "str.rfind" (fun x xs H Q => ∃ z y, x = .str z /\ xs = [.str y] /\ Q (.int (Txt.rfind z y)) H) := by
 intro pins s σ H x xs v us Q I rx r h
 obtain ⟨z, y, rfl, rfl, q⟩ := h
 obtain ⟨t, rfl⟩ := rx
 obtain ⟨u, rfl, t', rfl⟩ := qG r
 exact SC.rfind ⟨.int _, H, I.tok _, ⟨_, rfl⟩, q⟩
noncomputable def uO : D -> tz6
 | .str z, [.str y] => some (.int (Txt.rfind z y))
 | _, _ => none
theorem zO : MtR X "str.rfind" (PMt X.K U uO) := by
 rintro pins s σ H x vs v us Q I rx r ⟨dx, ds, fx, fp, d, r1, rs, e, q⟩
 unfold uO at e
 split at e
 ·cases e
  obtain ⟨w, rfl, r2⟩ := rs.one_inv
  exact ye1 pins s σ H x _ v us Q I rx r ⟨_, _, r1.is_str, by rw [r2.is_str], q.now (.int _)⟩
 ·cases e
end
noncomputable def jL (f : PSt -> Option (Bool × PSt)) : PSt -> Option (Bool × PSt) := fun ps => (f ps).bind fun r => some (!r.1, r.2)
noncomputable def fTE (f : tz8) : PSt -> Option (Bool × PSt) := fun ps => (f ps).bind fun r => (cF r.1).bind fun b => some (b, r.2)
noncomputable def fE2 (g : D -> D -> Option D) (fa : tz8) (fb : tz2) : tz8 := fun ps => (fa ps).bind fun r => (fb r.2).bind fun y => (g r.1 y).bind fun d => some (d, r.2)
section
variable {X : Cx} {U : tz9} {φ : F0} {a b : Expr} {pos : Pos}
theorem pJ {f : PSt -> Option (Bool × PSt)} (h : QTE X U φ a f) : QTE X U φ (.UnaryOp .Not a pos) (jL f) := (zu8 h).imp fun σ H Q hh_ => by
 obtain ⟨ps, F, c, ps', R, e, q⟩ := hh_
 obtain ⟨⟨c1, p1⟩, e1, e2⟩ := bind_some e
 cases e2
 exact ⟨ps, F, c1, p1, R, e1, fun H' F' s => q H' F' s⟩
theorem nQ {f : tz8} (h : QE X U φ a f) (he : ∀ whole, isTrue a X.env whole = (do let v <- whole; standAt a.pos; holding [v] (truthy v)) := by intro _; rfl) : QTE X U φ a (fTE f) := (zf1 h he).imp fun σ H Q hh_ => by
 obtain ⟨ps, F, c, ps', R, e, q⟩ := hh_
 obtain ⟨⟨d, p1⟩, e1, e2⟩ := bind_some e
 obtain ⟨c1, e3, e4⟩ := bind_some e2
 cases e4
 exact ⟨ps, F, d, p1, R, e1, fun v H' F' fv s o r => ⟨_, zn2 r e3, q H' F' s⟩⟩
theorem zh2 {op : CmpOp} {g : D -> D -> Option D} {fa : tz8} {fb : tz2} (ho : OpR X (compareOp op) (POp X.K U g)) (ha : QE X U φ a fa) (hb : QV X U b fb) (hm : behindInMarks op b = false) : QE X U φ (.Compare a [op] [b] pos) (fE2 g fa fb) :=
 (zm7 ho ha hb hm).imp fun σ H Q hh_ => by
  obtain ⟨ps, F, d, ps', R, e, q⟩ := hh_
  obtain ⟨⟨dx, p1⟩, e1, e2⟩ := bind_some e
  obtain ⟨y, e3, e4⟩ := bind_some e2
  obtain ⟨d1, e5, e6⟩ := bind_some e4
  cases e6
  refine ⟨ps, F, dx, p1, R, e1, fun v H1 F1 fv s1 o1 r1 => ⟨p1, y, s1.rs.ws, e3, fun u H2 fu s2 r2 => ⟨dx, y, _, fv, fu, r1.same s2, r2, e5, fun w H3 fw s3 n3 nd3 r3 => ?_⟩⟩⟩
  exact q w H3 F1 fw (s1.trans (.same s1.rs (s2.trans s3))) (OwnV.after s1 (OwnV.new s1.rs (fun a ha => s2.grow a (n3 a ha)) nd3)) r3
end
theorem fM.get {P : Program} {w : World} {H : Hp} {h : Heap} {a : Addr} {o : HO} (x : fM P w H h a o) : ∃ u, h.get? a = some u := by
 cases o with
 | lst xs => obtain ⟨_, _, _, _, e⟩ := x; exact ⟨_, e⟩
 | tup xs => obtain ⟨_, _, _, _, e, _⟩ := x; exact ⟨_, e⟩
 | dK kvs => obtain ⟨_, _, _, _, o, _, _, e, _⟩ := x; exact ⟨_, e⟩
 | dT kvs => obtain ⟨_, _, _, _, o, _, _, e, _⟩ := x; exact ⟨_, e⟩
 | set S n => obtain ⟨o, _, _, _, e, _⟩ := x; exact ⟨_, e⟩
 | ins C dx fs => obtain ⟨_, _, _, e, _⟩ := x; exact ⟨_, e⟩
 | own y => exact x
 | xd fs => obtain ⟨_, ⟨_, _, _, e, _⟩, _⟩ := x; exact ⟨_, e⟩
 | rng lo hi => obtain ⟨_, _, _, e⟩ := x; exact ⟨_, e⟩
 | frz ob u => obtain ⟨e, _⟩ := x; exact ⟨_, e⟩
 | tbl ps => exact ⟨_, (show h.get? a = some _ from x)⟩
 | met f y => exact ⟨_, (show h.get? a = some _ from x)⟩
 | ext φ => obtain ⟨_, e, _⟩ := x; exact e
theorem HOk.none_of {P : Program} {w : World} {H : Hp} {h : Heap} (x : HOk P w H h) {a : Addr} (e : h.get? a = none) : H a = none := by
 cases q : H a with
 | none => rfl
 | some o => obtain ⟨u, z⟩ := (x a o q).get; rw [e] at z; cases z
theorem HOk.but {P : Program} {w : World} {H : Hp} {h h' : Heap} (x : HOk P w H h) (k : ∀ b o u, H b = some o -> h.get? b = some u -> h'.get? b = some u) : HOk P w H h' := fun a o e =>
 (x a o e).stay (fun b u hb q => by
  rcases hb with rfl | hb
  ·exact k _ _ _ e q
  ·exact k _ _ _ hb q) (fun _ q => q) fun _ _ q => q
theorem zb7 {h : Heap} {as : List Addr} {b : Addr} (e : (PySem.W.hideAll h as).get? b = none) : b ∈ as \/ h.get? b = none := by
 cases q : h.get? b with
 | none => exact .inr rfl
 | some o =>
  by_cases m : b ∈ as
  ·exact .inl m
  ·rw [PySem.W.hideAll_get as q m] at e; cases e
theorem zn7 {l : List Env} {env : Env} {a : Addr} (h : env ∈ l) (e : env.frame = some a) : a ∈ frs l := List.mem_filterMap.mpr ⟨env, h, e⟩
structure Fly (base : Heap) (C : Addr) (l : List Env) (H : Hp) (h0 : Heap) (e T : Addr) (a0 : Value) (h : Heap) : Prop where
 ne : h0.get? e = none
 nT : h0.get? T = none
 He : H e = none
 HT : H T = none
 st : base.StaysIn h
 be : base.get? e = none
 bT : base.get? T = none
 fr : h.FunFrames base l
 tr : ∃ oe vs oT ts, h.get? e = some oe /\ (oe.cls = .ref C /\ vs[0]? = some a0) /\ oe.data = .fields vs /\ vs[1]? = some (.ref T) /\ T ≠ e /\ h.get? T = some oT /\ oT.data = .fields ts /\ ts[3]? = some .none
noncomputable abbrev yg6 (h : Heap) (l : List Env) (e T : Addr) : Heap := PySem.W.hideAll h (e :: T :: frs l)
section
variable {base h0 h : Heap} {C e T : Addr} {l : List Env} {H : Hp} {a0 : Value}
theorem Fly.flying (x : Fly base C l H h0 e T a0 h) : Heap.FlyingW (yg6 h l e T) l e (.ref C) a0 h := by
 obtain ⟨oe, vs, oT, ts, h1, h2, h3, h4, h5, h6, h7, h8⟩ := x.tr
 refine ⟨fun b o q => PySem.W.of_hideAll _ q, PySem.W.hideAll_none _ List.mem_cons_self, PySem.W.funFrames_hide x.fr fun env m a q => List.mem_cons_of_mem _ (List.mem_cons_of_mem _ (zn7 m q)), ?_⟩
 exact ⟨oe, vs, T, oT, ts, h1, h2, h3, h4, PySem.W.hideAll_none _ (List.mem_cons_of_mem _ List.mem_cons_self), h5, h6, h7, h8⟩
theorem Fly.base_in (x : Fly base C l H h0 e T a0 h) : base.StaysIn (yg6 h l e T) := fun b o q => by
 refine PySem.W.hideAll_get _ (x.st b o q) fun m => ?_
 rcases List.mem_cons.mp m with z | m
 ·rw [z, x.be] at q; cases q
 ·rcases List.mem_cons.mp m with z | m
  ·rw [z, x.bT] at q; cases q
  ·rw [(x.fr.mem m).1] at q; cases q
theorem Fly.next {P : Program} {w : World} (x : Fly base C l H h0 e T a0 h) (ok : HOk P w H h) (th : ∀ b o, h0.get? b = some o -> ∃ o', h.get? b = some o') {h' : Heap} {l' : List Env} (ups : h.UpToSlots h') (f : Heap.FlyingW (yg6 h l e T) l' e (.ref C) a0 h') : ∃ T', Fly base C l' H h0 e T' a0 h' := by
 obtain ⟨k1, k2, k3, oe, vs, T', oT, ts, h1, h2, h3, h4, h5, h6, h7, h8, h9⟩ := f
 have hT : T' = T \/ h.get? T' = none := by
  rcases zb7 h5 with m | m
  ·rcases List.mem_cons.mp m with z | m
   ·exact absurd z h6
   ·rcases List.mem_cons.mp m with z | m
    ·exact .inl z
    ·obtain ⟨_, o, q1, q2⟩ := x.fr.mem m
     obtain ⟨sl, q3⟩ := ups T' o q1 q2
     rw [h7] at q3; cases q3
     exact absurd h8 (q2 _)
  ·exact .inr m
 refine ⟨T', x.ne, ?_, x.He, ?_, fun b o q => k1 b o (x.base_in b o q), x.be, ?_, PySem.W.funFrames_base x.base_in k3, oe, vs, oT, ts, h1, h2, h3, h4, h6, h7, h8, h9⟩
 ·rcases hT with z | z
  ·rw [z]; exact x.nT
  ·cases q : h0.get? T' with
   | none => rfl
   | some o => obtain ⟨o', q'⟩ := th _ _ q; rw [z] at q'; cases q'
 ·rcases hT with z | z
  ·rw [z]; exact x.HT
  ·exact ok.none_of z
 ·cases q : base.get? T' with
  | none => rfl
  | some o => have := x.base_in T' o q; rw [h5] at this; cases this
end
theorem zP {base h h' : Heap} {H : Hp} {S : List Addr} {l : List Env} (fr : h.FunFrames base l) (ups : h.UpToSlots h') (st : (PySem.W.hideAll h (S ++ frs l)).StaysIn h') : Un (frs l) S H H h h' := by
 have kp : ∀ b o, h.get? b = some o -> b ∉ frs l -> b ∉ S -> h'.get? b = some o := fun b o q n1 n2 => st b o (PySem.W.hideAll_get _ q fun m => (List.mem_append.mp m).elim n2 n1)
 have sl : ∀ b o, h.get? b = some o -> b ∈ frs l -> ∃ s, h'.get? b = some { o with slots := s } := fun b o q m => by
  obtain ⟨_, o', q1, q2⟩ := fr.mem m
  rw [q] at q1; cases q1
  exact ups b o q q2
 refine ⟨fun b o q _ hb hx => kp b o q hb hx, fun b o q _ hb _ => sl b o q hb, fun _ _ _ n _ => n, fun b o q hx => ?_, fun _ _ q => q, fun _ _ _ q => q, fun _ ps q => ⟨#[], by rw [q]; simp⟩⟩
 by_cases hb : b ∈ frs l
 ·obtain ⟨s, e⟩ := sl b o q hb; exact ⟨_, e⟩
 ·exact ⟨o, kp b o q hb hx⟩
theorem zQ {fs fs' ex' : List Addr} {H H' : Hp} {h h' : Heap} (u : Un fs' ex' H H' h h') (hx : ∀ b o, h.get? b = some o -> b ∉ ex') (hf : ∀ b o, h.get? b = some o -> b ∈ fs' -> b ∈ fs) : Un fs [] H H' h h' :=
 ⟨fun b o q n hb _ => u.keep b o q n (fun z => hb (hf b o q z)) (hx b o q), fun b o q n _ _ => u.any q n (hx b o q), fun b o q n _ => u.free b o q n (hx b o q), fun b o q _ => u.there b o q (hx b o q), u.tups, u.frzs, u.tbls⟩
theorem wQ {P : Program} {w : World} {h h' : Heap} {H : Hp} {S : List Addr} {l : List Env} (ok : HOk P w H h) (hS : ∀ b ∈ S, H b = none) (hF : ∀ b ∈ frs l, H b = none) (st : (PySem.W.hideAll h (S ++ frs l)).StaysIn h') : HOk P w H h' :=
 ok.but fun b o u e q => st b u (PySem.W.hideAll_get _ q fun m => by
  rcases List.mem_append.mp m with m | m
  ·rw [hS b m] at e; cases e
  ·rw [hF b m] at e; cases e)
noncomputable def CXn (P : Program) (w : World) (base : Heap) (C : Addr) : CXT := fun outer H s E e s' => ∃ ea T a0 H', e = .ref ea /\ s'.os = s.os /\ AllBare s'.gens /\ Un (frs outer) [] H H' s.heap s'.heap /\ HOk P w H' s'.heap /\ Fly base C outer H' s.heap ea T a0 s'.heap /\ E (.ref C) none H'
theorem Fly.down {base h0 h1 h : Heap} {C e T : Addr} {l : List Env} {H : Hp} {a0 : Value} (x : Fly base C l H h1 e T a0 h) (th : ∀ b o, h0.get? b = some o -> ∃ o', h1.get? b = some o') : Fly base C l H h0 e T a0 h := by
 have none : ∀ {b : Addr}, h1.get? b = none -> h0.get? b = none := fun {b} z => by
  cases q : h0.get? b with
  | none => rfl
  | some o => obtain ⟨o', q'⟩ := th _ _ q; rw [z] at q'; cases q'
 exact ⟨none x.ne, none x.nT, x.He, x.HT, x.st, x.be, x.bT, x.fr, x.tr⟩
section
variable {P : Program} {w : World} {K : tz0} {mg : tzA} {base : Heap} {N : List Str} {qual : Str} {scope : Scope} {f C : Addr} {cd : Value} {A : Around} {outer : List Env} {s : Shared} {H : Hp} {E : XK}
theorem vE : frs (envOfC qual scope s.heap.objs.size f cd :: outer) = s.heap.objs.size :: frs outer := rfl
theorem yh1 : nG (CXn P w base C) (eI (CXn P w base C) P w K mg base N qual scope f cd A outer s H E) E := by
 intro pins σ H1 s1 e s2 I h
 obtain ⟨ea, T, a0, H2, rfl, os, bare, un, hok, fly, q⟩ := h
 have stk : ∀ b ∈ frs (envOfC qual scope s.heap.objs.size f cd :: outer), H2 b = none := fun b m => by
  obtain ⟨_, o, q1, _⟩ := (show s1.heap.FunFrames base (envOfC qual scope s.heap.objs.size f cd :: outer) from I.stack).mem m
  exact un.free b o q1 (I.stkFree b m) (by simp)
 have th1 : ∀ b o, s1.heap.get? b = some o -> ∃ o', s2.heap.get? b = some o' := fun b o q => un.there b o q (by simp)
 have th0 : ∀ b o, s.heap.get? b = some o -> ∃ o', s1.heap.get? b = some o' := fun b o q => I.base.there b o q (by show b ∉ ([] : List Addr); simp)
 show wpAny (model P w) (A.deeper (envOfC qual scope s.heap.objs.size f cd)) (leaving (envOfC qual scope s.heap.objs.size f cd) (.ref ea)) (fun _ s'' => CXn P w base C outer H s E (.ref ea) s'') (fun e' s'' => CXn P w base C outer H s E e' s'') s2
 refine wpAny_leaves_onW (L := s.heap.objs.size) I.ok.frames rfl fly.flying fun h' fl ups => ?_
 obtain ⟨T', fly'⟩ := fly.next hok th1 ups fl
 have st : (PySem.W.hideAll s2.heap ([ea, T] ++ frs (envOfC qual scope s.heap.objs.size f cd :: outer))).StaysIn h' := fl.1
 have u1 : Un (frs (envOfC qual scope s.heap.objs.size f cd :: outer)) [ea, T] H H1 s.heap s1.heap := (show Un (frs outer) [] H H1 s.heap s1.heap from I.base).mono (fun b m => by rw [vE]; exact List.mem_cons_of_mem _ m) (fun b m => absurd m (by simp))
 have u2 := un.mono (fs' := frs (envOfC qual scope s.heap.objs.size f cd :: outer)) (ex' := [ea, T]) (fun b m => m) (fun b m => absurd m (by simp))
 have u3 : Un (frs (envOfC qual scope s.heap.objs.size f cd :: outer)) [ea, T] H2 H2 s2.heap h' := zP fly.fr ups st
 refine ⟨ea, T', a0, H2, rfl, os.trans (show s1.os = s.os from I.os), bare, zQ ((u1.trans u2).trans u3) (fun b o q m => ?_) (fun b o q m => ?_), wQ hok (fun b m => ?_) stk st, fly'.down th0, q⟩
 ·obtain ⟨o', q'⟩ := th0 b o q
  rcases List.mem_cons.mp m with z | m
  ·rw [z, fly.ne] at q'; cases q'
  ·rw [List.mem_singleton.mp m, fly.nT] at q'; cases q'
 ·rw [vE] at m
  rcases List.mem_cons.mp m with z | m
  ·exact absurd (Heap.lt_size q) (by rw [z]; exact Nat.lt_irrefl _)
  ·exact m
 ·rcases List.mem_cons.mp m with z | m
  ·rw [z]; exact fly.He
  ·rw [List.mem_singleton.mp m]; exact fly.HT
theorem zb8 {pins : tzB} {σ : St} {H1 : Hp} {s1 : Shared} {h' : Heap} {e : Addr} {vs : List Value} (I : Inv (eI (CXn P w base C) P w K mg base N qual scope f cd A outer s H E) pins σ H1 s1) (mk : Heap.MadeExcOf s1.heap h' e (.ref C) vs) (q : E (.ref C) none H1) :
  (eI (CXn P w base C) P w K mg base N qual scope f cd A outer s H E).xe (.ref e) { s1 with heap := h' } := by
 obtain ⟨t, he, ht, _⟩ := mk.there
 have fr0 : s1.heap.FunFrames base (envOfC qual scope s.heap.objs.size f cd :: outer) := I.stack
 have fr1 : h'.FunFrames base (envOfC qual scope s.heap.objs.size f cd :: outer) := fr0.of_keeps fun b o q _ => ⟨o, mk.keeps b o q, rfl⟩
 have nf : ∀ b ∈ frs (envOfC qual scope s.heap.objs.size f cd :: outer), base.get? b = none := fun b m => (fr0.mem m).1
 have th0 : ∀ b o, s.heap.get? b = some o -> ∃ o', s1.heap.get? b = some o' := fun b o q => I.base.there b o q (by show b ∉ ([] : List Addr); simp)
 have bin : base.StaysIn (PySem.W.hideAll h' ([e] ++ frs (envOfC qual scope s.heap.objs.size f cd :: outer))) := fun b o q => by
  have q1 := I.bk b o q
  refine PySem.W.hideAll_get _ (mk.keeps b o q1) fun m => ?_
  rcases List.mem_append.mp m with m | m
  ·rw [List.mem_singleton.mp m, mk.new] at q1; cases q1
  ·rw [nf b m] at q; cases q
 show wpAny (model P w) (A.deeper (envOfC qual scope s.heap.objs.size f cd)) (leaving (envOfC qual scope s.heap.objs.size f cd) (.ref e)) (fun _ s'' => CXn P w base C outer H s E (.ref e) s'') (fun e' s'' => CXn P w base C outer H s E e' s'') { s1 with heap := h' }
 refine wpAny_leaving_firstW (base := PySem.W.hideAll h' ([e] ++ frs (envOfC qual scope s.heap.objs.size f cd :: outer))) (L := s.heap.objs.size) (a0 := .ref t) I.ok.frames (PySem.W.funFrames_hide fr1 fun env m a q => List.mem_append_right _ (zn7 m q)) rfl he (fun b o q => PySem.W.of_hideAll _ q) (PySem.W.hideAll_none _ (List.mem_append_left _ (List.mem_singleton_self e))) rfl rfl rfl fun h'' hL => ?_
 obtain ⟨st, fr2, ⟨oe, vs2, T, oT, ts, h1, h2, h3, h4, h5, h6, h7, h8, h9⟩, ups⟩ := hL
 have hT : h'.get? T = none := by
  rcases zb7 h5 with m | m
  ·rcases List.mem_append.mp m with m | m
   ·exact absurd (List.mem_singleton.mp m) h6
   ·obtain ⟨_, o, q1, q2⟩ := fr1.mem m
    obtain ⟨sl, q3⟩ := ups T o q1 q2
    rw [h7] at q3; cases q3
    exact absurd h8 (q2 _)
  ·exact m
 have hT1 : s1.heap.get? T = none := by
  cases z : s1.heap.get? T with
  | none => rfl
  | some o => have := mk.keeps T o z; rw [hT] at this; cases this
 have u1 : Un (frs (envOfC qual scope s.heap.objs.size f cd :: outer)) [e] H H1 s.heap s1.heap := (show Un (frs outer) [] H H1 s.heap s1.heap from I.base).mono (fun b m => by rw [vE]; exact List.mem_cons_of_mem _ m) (fun b m => absurd m (by simp))
 have u2 : Un (frs (envOfC qual scope s.heap.objs.size f cd :: outer)) [e] H1 H1 s1.heap h' := Un.kept mk.keeps
 have u3 : Un (frs (envOfC qual scope s.heap.objs.size f cd :: outer)) [e] H1 H1 h' h'' := zP fr1 ups st
 have He : H1 e = none := I.hok.none_of mk.new
 have fly : Fly base C outer H1 s1.heap e T (.ref t) h'' := by
  refine ⟨mk.new, hT1, He, I.hok.none_of hT1, fun b o q => st b o (bin b o q), ?_, ?_, PySem.W.funFrames_base bin fr2.2.2, oe, vs2, oT, ts, h1, h2, h3, h4, h6, h7, h8, h9⟩
  ·cases z : base.get? e with
   | none => rfl
   | some o => have := I.bk e o z; rw [mk.new] at this; cases this
  ·cases z : base.get? T with
   | none => rfl
   | some o => have := I.bk T o z; rw [hT1] at this; cases this
 refine ⟨e, T, .ref t, H1, rfl, (show s1.os = s.os from I.os), I.bare, zQ ((u1.trans u2).trans u3) (fun b o q m => ?_) (fun b o q m => ?_), wQ (I.hok.kept mk.keeps) (fun b m => ?_) I.stkFree st, fly.down th0, q⟩
 ·obtain ⟨o', q'⟩ := th0 b o q
  rw [List.mem_singleton.mp m, mk.new] at q'; cases q'
 ·rw [vE] at m
  rcases List.mem_cons.mp m with z | m
  ·exact absurd (Heap.lt_size q) (by rw [z]; exact Nat.lt_irrefl _)
  ·exact m
 ·rw [List.mem_singleton.mp m]; exact He
theorem zx8 {x z : Str} {np cpos pos p1 : Pos} {j : Nat} {B newId initId : String} {bmB : List Value} (O : OwnCls x C bmB newId mg base) (FB : ExcBaseFacts B newId initId bmB) (hg : Gl (eI (CXn P w base C) P w K mg base N qual scope f cd A outer s H E) x)
  (hd : (x == ("__debug__" : Str)) = false := by decide) (hs : starEach [.Constant (.str z) j p1] (envOfC qual scope s.heap.objs.size f cd) = [(false, eval (.Constant (.str z) j p1) (envOfC qual scope s.heap.objs.size f cd))] := by rfl) :
  PS (eI (CXn P w base C) P w K mg base N qual scope f cd A outer s H E) (.Raise (some (.Call (.Name x np) [.Constant (.str z) j p1] [] cpos)) none pos) (fun _ _ H' => E (.ref C) none H') := by
 intro pins s1 σ H1 D I h
 obtain ⟨tl, N', nm, q, bs, hdct, sn, sub, ab, col, dd, k0, k1, k2, k3, k5, mN, hC, hN, hni, T⟩ := O.obj
 refine wpAny_Raise_call_subT (C := C) (nm := nm) (q := q) (N := N') (bs := bs) (bm := tl) (hdct := hdct) (sn := sn) (sub := sub) (ab := ab) (col := col) (dd := dd) (k0 := k0) (k1 := k1) (k2 := k2) (k3 := k3) (k5 := k5)
  FB (mN := mN) (T.hasType FB.hasBase) (I.ok.hd rfl) (by show (backTo cpos (starEach [.Constant (.str z) j p1] (envOfC qual scope s.heap.objs.size f cd))).any (·.1) = false; rw [hs]; rfl) hni (nM I hg O.bound ⟨rfl, ?_⟩ hd)
 show wpAny (model P w) (A.deeper (envOfC qual scope s.heap.objs.size f cd)) (evalArgs (.ref C) true (backTo cpos (starEach [.Constant (.str z) j p1] (envOfC qual scope s.heap.objs.size f cd))) []) _ _ s1
 rw [hs]
 refine Calls.evalArgs_plain (Calls.spliced_cons (Calls.Constant_str (k := j) (pos := p1) (Calls.spliced_nil ?_)))
 have kp : ∀ b o, base.get? b = some o -> s1.heap.get? b = some o := I.bk
 refine ⟨rfl, (show 1 <= sizeLine from Nat.le_trans (by decide) (qH (n := 1) (by decide))), kp _ _ hC, hN.keeps kp, T.keeps kp, fun h' e mk => ?_⟩
 exact zb8 (I.tok (s1.toks + 1)) mk h
end
noncomputable def tX (φ : Fx) (fx : tz5) (Ex : Hp -> Prop) : TS := fun _ σ H => ∃ ps F, RS φ H σ ps F /\ fx ps = true /\ ∀ H', Frm F H H' -> Ex H'
noncomputable def rD (np : Nat) (K : tz0) (U : tz9) (C : Addr) (g : List D -> Bool) : Sp := fun vs H _ E => vs.length = np /\ ∃ ds fp, Reps K U H vs ds fp /\ g ds = true /\ ∀ H', SameK H H' -> E (.ref C) none H'
noncomputable def gX (np n : Nat) (fx : tz5) : List D -> Bool := fun ds => decide (ds.length = np) && fx (ds.map some ++ List.replicate n none)
noncomputable def iU (f : tz1) (fx : tz5) : tz5 := fun ps => match f ps with
 | some (.nx, p) => fx p
 | _ => false
noncomputable def rE (ft : tz4) (fx : tz5) : tz5 := fun ps => match ft ps with
 | some true => fx ps
 | _ => false
noncomputable def yR : tz5 := fun _ => true
noncomputable def vQ (C m : Str) (fo : tz2) (g : List D -> Bool) : tz5 := fun ps => match eS C m fo ps with
 | some d => g [d]
 | none => false
noncomputable abbrev QX (X : Cx) (U : tz9) (φ : F0) (Ex : Hp -> Prop) (st : Stmt) (fx : tz5) : Prop := PS X st (tX (φ.fx X.K U) fx Ex)
noncomputable abbrev QXs (X : Cx) (U : tz9) (φ : F0) (Ex : Hp -> Prop) (st : List Stmt) (fx : tz5) : Prop := PSs X st (tX (φ.fx X.K U) fx Ex)
theorem PS.nox {X : Cx} {st : Stmt} {t : TS} (h : PS X.nox st t) : PS X st t := fun pins s σ H D I hw =>
 wpAny_mono (h pins s σ H D (I.wish _) hw) (fun _ _ q => q.unwish) fun _ _ z => False.elim z
theorem zx9 {H H' : Hp} (k : Frm (fun _ => []) H H') : SameK H H' := ⟨fun a o h kk => k.keep a o h kk (fun _ => by simp), k.grow⟩
section
variable {P : Program} {w : World} {K : tz0} {mg : tzA} {base : Heap} {U : tz9} {C : Addr}
theorem qL {x qual : Str} {st : Stmt} {f : Addr} {fd : FuncData} {N ps : List Str} {k : Nat} {fx : tz5} (F : Fun K x qual st f fd) (S : FnScope N ps (aM st))
  (hbody : ∀ (cdv : Value) (A : Around) (outer : List Env) (s : Shared) (H : Hp) (E : XK) (B : Nat -> Addr -> Prop), Room k (A.deeper (envOfC qual (aM st) s.heap.objs.size f cdv)) ->
   QXs (eI (CXn P w base C) P w K mg base N qual (aM st) f cdv A outer s H E) U (f0P ps.length B) (E (.ref C) none) (bR st) fx) :
  FnOk P w K mg base (CXn P w base C) (k + 1) f fd ps (rD ps.length K U C (gX ps.length (N.length - ps.length) fx)) := by
 obtain ⟨oc, od, kV, doc, pm, an, cdv, ct, osl, rfl, lk, hcd⟩ := F.ex
 refine zq6 lk hcd S (fun vs H Q E h => h.1) fun A outer s H vs Q E hr hsp => ?_
 obtain ⟨hl, ds, fp, r, e, q⟩ := hsp
 have hn : ps.length <= N.length := by have := congrArg List.length S.pre; rw [List.length_take] at this; omega
 refine ⟨_, hbody cdv A outer s H E (fun _ a => a ∈ fp) hr, _, fun _ => [], RS.start r hl hn, ?_, fun H' fr => q H' (zx9 fr)⟩
 unfold gX at e
 exact (Bool.and_eq_true_iff.mp e).2
end
section
variable {X : Cx} {U : tz9} {φ : F0} {Ex : Hp -> Prop} {fx : tz5} {st : Stmt} {rest : List Stmt} {pos : Pos}
theorem zb9 : PSs X rest (fun _ _ _ => False) := fun _ _ _ _ _ _ h => h.elim
theorem lL {f : tz1} (h1 : QS X.nox U φ st f) (h2 : QXs X U φ Ex rest fx) : QXs X U φ Ex (st :: rest) (iU f fx) :=
 (jT (PS.nox h1) h2).imp fun D σ H hh_ => by
  obtain ⟨ps, F, R, e, q⟩ := hh_
  unfold iU at e
  split at e
  ·rename_i p he
   refine ⟨ps, F, .nx, p, R, he, fun σ' H' F' s => ⟨p, F', s.rs, e, fun H'' fr => q H'' ⟨fun a o h k n => fr.keep a o (s.fr.keep a o h k n) k fun i m => ?_, fun a z => s.fr.grow a (fr.grow a z)⟩⟩⟩
   rcases s.nw i a m with ⟨j, z⟩ | z
   ·exact n j z
   ·rw [z] at h; cases h
  ·cases e
theorem fO (h1 : QX X U φ Ex st fx) : QXs X U φ Ex (st :: rest) fx := (jT h1 zb9).imp fun D σ H h => h
theorem sH {c : Expr} {a b : List Stmt} {ft : tz4} (hc : QT X.nox U c ft) (ha : QXs X U φ Ex a fx) : QX X U φ Ex (.If c a b pos) (rE ft fx) :=
 (zd3 (PT.nox hc) ha zb9).imp fun D σ H hh_ => by
  obtain ⟨ps, F, R, e, q⟩ := hh_
  unfold rE at e
  split at e
  ·rename_i he
   refine ⟨ps, true, R.ws, he, fun H' s => ?_⟩
   show (if true = true then tX (φ.fx X.K U) fx Ex D σ H' else _)
   rw [if_pos rfl]
   exact ⟨ps, F, R.same s, e, fun H'' fr => q H'' ⟨fun a o h k n => fr.keep a o (s.keep a o h k) k n, fun a z => s.grow a (fr.grow a z)⟩⟩
  ·cases e
end
section
variable {P : Program} {w : World} {K : tz0} {mg : tzA} {base : Heap} {N : List Str} {qual : Str} {scope : Scope} {f C : Addr} {cd : Value} {A : Around} {outer : List Env} {s : Shared} {H : Hp} {E : XK} {U : tz9} {φ : F0}
theorem pS {x z : Str} {np cpos pos p1 : Pos} {j : Nat} {B newId initId : String} {bmB : List Value} (O : OwnCls x C bmB newId mg base) (FB : ExcBaseFacts B newId initId bmB) (hg : Gl (eI (CXn P w base C) P w K mg base N qual scope f cd A outer s H E) x)
  (hd : (x == ("__debug__" : Str)) = false := by decide) (hs : starEach [.Constant (.str z) j p1] (envOfC qual scope s.heap.objs.size f cd) = [(false, eval (.Constant (.str z) j p1) (envOfC qual scope s.heap.objs.size f cd))] := by rfl) :
  QX (eI (CXn P w base C) P w K mg base N qual scope f cd A outer s H E) U φ (E (.ref C) none) (.Raise (some (.Call (.Name x np) [.Constant (.str z) j p1] [] cpos)) none pos) yR :=
 (zx8 O FB hg hd hs).imp fun D σ H' hh_ => by
  obtain ⟨ps, F, R, e, q⟩ := hh_
  exact q H' ⟨fun a o h _ _ => h, fun a h => h⟩
theorem zR {Cn m qual' : Str} {st : Stmt} {ps : List Str} {fm : Addr} {fd : FuncData} {k : Nat} {g : List D -> Bool} {o : Expr} {fo : tz2} {apos pos pos' : Pos} {pl : Sem Bool} (M : Mn K U Cn m qual' st ps fm fd) (G : FnOk P w K mg base (CXn P w base C) k fm fd ps (rD 1 K U C g))
  (hr : Room k (A.deeper (envOfC qual scope s.heap.objs.size f cd))) (ho : QV (eI (CXn P w base C) P w K mg base N qual scope f cd A outer s H E).nox U o fo)
  (ht : eval (.Call (.Attribute o m apos) [] [] pos) (envOfC qual scope s.heap.objs.size f cd) = (do
   let ov <- eval o (envOfC qual scope s.heap.objs.size f cd)
   standAt apos.atName
   let (f', first) <- holding [ov] (getMethod ov m pl)
   callWith pos f' first (backTo pos (starEach [] (envOfC qual scope s.heap.objs.size f cd))) (backToKw pos (keywordEach [] (envOfC qual scope s.heap.objs.size f cd)))) := by rfl) :
  QX (eI (CXn P w base C) P w K mg base N qual scope f cd A outer s H E) U φ (E (.ref C) none) (.Return (some (.Call (.Attribute o m apos) [] [] pos)) pos') (vQ Cn m fo g) :=
 (rJ (zf2 (X := eI (CXn P w base C) P w K mg base N qual scope f cd A outer s H E) (PE.nox ho) M.c M.h G hr M.b .nil yh1 ht)).imp fun D σ H1 hh_ => by
  obtain ⟨ps, F, R, e, q⟩ := hh_
  unfold vQ at e
  split at e
  ·rename_i d he
   obtain ⟨ns, vs, rfl, k5, k6⟩ := xR he
   refine ⟨ps, _, R.ws, k5, fun v H2 fp s1 r1 => ?_⟩
   have r1' := r1
   obtain ⟨_, _, _, _, rfl, hl, hn, hs, rfl⟩ := r1.objT_inv
   subst hn
   exact ⟨_, _, _, rfl, hl, lX k6, rfl, _, _, Reps.one r1', e, fun H' s2 => q H' ⟨fun a o h kk _ => (s1.trans s2).keep a o h kk, (s1.trans s2).grow⟩⟩
  ·cases e
end
theorem PA.nox {X : Cx} {es : List Expr} {t : TA} (h : PA X.nox es t) : PA X es t := fun pos pins s σ H Q I hw =>
 wpAny_mono (h pos pins s σ H Q (I.wish _) hw) (fun _ _ q => by obtain ⟨vs, H', I', r, q⟩ := q; exact ⟨vs, H', I'.unwish, r, q⟩) fun _ _ z => False.elim z
noncomputable def zk4 (g : List D -> Bool) (fa : tz3) : tz1 := fun ps => (fa ps).bind fun ds => if g ds = true then some (.ret (.bl true), ps) else none
section
variable {X : Cx} {C : Addr} {pins : tzB} {σ : St} {H1 : Hp} {s1 s2 : Shared} {D : Ends} {E1 : XK} {e : Value}
theorem yk2 {x : Str} {np p3 p4 p5 : Pos} {j : Nat} {bmB : List Value} {newId : String} {E : Value -> Shared -> Prop} (I : Inv X pins σ H1 s1) (hstk : X.stack = X.env :: X.outer) (hf : X.env.frame = some X.env.locals) (O : OwnCls x C bmB newId X.mg X.base) (hbase : bmB.contains (.type "BaseException") = true) (hg : Gl X x)
  (h : CXn X.prog X.w X.base C X.stack H1 s1 E1 e s2) (q : ∀ H', E1 (.ref C) none H' -> D.rt (.bl true) H') (hd : (x == ("__debug__" : Str)) = false := by decide) :
  wpAny (model X.prog X.w) X.A (noteFrame e X.env) (fun _ s3 => wpAny (model X.prog X.w) X.A (setFlight e none) (fun _ s4 => wpAny (model X.prog X.w) X.A (handleBy e X.env [.ExceptHandler (some (.Name x np)) none [.Return (some (.Constant (.bool true) j p3)) p4] p5]) (SP X pins D) E s4) E s3) E s2 := by
 obtain ⟨ea, T, a0, H2, rfl, os, bare, un, hok, fly, q0⟩ := h
 rw [hstk] at un fly
 have hfr : X.A.frames = some (X.env :: X.outer) := by rw [<- hstk]; exact I.ok.frames
 refine wpAny_looks_onW (L := X.env.locals) hfr hf fly.flying fun h4 held4 ups4 => ?_
 refine wpAny_landsW held4 fun h5 held ups5 => ?_
 have kp5 : ∀ b o, X.base.get? b = some o -> h5.get? b = some o := fun b o z => held.1 b o (fly.base_in b o z)
 obtain ⟨ob, hob, hobc⟩ := held.there
 obtain ⟨bm, N, nm, qn, bs, hdct, sn, sub, ab, col, dd, k0, k1, k2, k3, k5, mN, hC, hN, hni, TL⟩ := (O.keeps kp5).obj
 refine wpAny_handleBy_cons (codeAny_handlers_test (Calls.Name_function_global I.ok.kind hg (Calls.loadGlobal_global (by rw [I.ok.glob]; exact I.ok.mod.glob.keeps kp5) O.bound ?_) hd)) (by intro q; cases q)
 refine wpAny_excMatches_sub_self hC hob hobc (TL.hasType hbase) (codeAny_handlers_suite ?_)
 refine lands_againW held fun h6 fl6 ups6 => ?_
 refine wpAny_execs_cons (wpAny_Return_some (Constant_bool ?_))
 have ups : s2.heap.UpToSlots h6 := (ups4.trans ups5).trans ups6
 have st : (PySem.W.hideAll s2.heap ([ea, T] ++ frs (X.env :: X.outer))).StaysIn h6 := fl6.1
 have stk : ∀ b ∈ frs (X.env :: X.outer), H2 b = none := fun b m => by
  have m' : b ∈ frs X.stack := by rw [hstk]; exact m
  obtain ⟨_, o, q1, _⟩ := I.stack.mem m'
  exact un.free b o q1 (I.stkFree b m') (by simp)
 have u2 := un.mono (fs' := frs (X.env :: X.outer)) (ex' := [ea, T]) (fun b m => m) (fun b m => absurd m (by simp))
 have u3 : Un (frs (X.env :: X.outer)) [ea, T] H2 H2 s2.heap h6 := zP fly.fr ups st
 have ce : CE X.stack X.prog X.w H1 s1 D.rt (.bool true) { s2 with heap := h6 } := by
  rw [hstk]
  refine ⟨.bl true, H2, os, bare, zQ (u2.trans u3) (fun b o z m => ?_) (fun _ _ _ m => m), wQ hok (fun b m => ?_) stk st, rfl, q H2 q0⟩
  ·rcases List.mem_cons.mp m with y | m
   ·rw [y, fly.ne] at z; cases z
   ·rw [List.mem_singleton.mp m, fly.nT] at z; cases z
  ·rcases List.mem_cons.mp m with z | m
   ·rw [z]; exact fly.He
   ·rw [List.mem_singleton.mp m]; exact fly.HT
 obtain ⟨v, H', I', r, qv⟩ := I.after ce
 exact ⟨v, σ, H', I', r, qv⟩
end
section
variable {X : Cx} {C : Addr} {U : tz9} {φ : F0}
theorem zh3 {x cx : Str} {st : Stmt} {ps : List Str} {fa : Addr} {fd : FuncData} {k np : Nat} {g : List D -> Bool} {e : Expr} {es : List Expr} {ga : tz3} {p pos pos2 np' p3 p4 p5 pos6 : Pos} {j : Nat} {bmB : List Value} {newId : String}
  (Dd : Dn X.K X.mg x st ps fa fd) (G : FnOk X.prog X.w X.K X.mg X.base (CXn X.prog X.w X.base C) k fa fd ps (rD np X.K U C g)) (O : OwnCls cx C bmB newId X.mg X.base) (hbase : bmB.contains (.type "BaseException") = true) (hr : Room k X.A) (hg : Gl X x) (hgc : Gl X cx) (hnp : (e :: es).length = np) (ha : QVA X.nox U (e :: es) ga) (hlen : ∀ ps ds, ga ps = some ds -> ds.length = (e :: es).length)
  (hstk : X.stack = X.env :: X.outer) (hf : X.env.frame = some X.env.locals)
  (hdb : (x == ("__debug__" : Str)) = false := by decide) (hdc : (cx == ("__debug__" : Str)) = false := by decide) (he : starEach (e :: es) X.env = (false, eval e X.env) :: starEach es X.env := by rfl) (hpl : (backTo pos (starEach es X.env)).any (·.1) = false := by rfl)
  (hs : swapsWith (.Call (.Name x p) (e :: es) [] pos) none pos2.line X.env = pure false := by rfl) :
  QS X.nox U φ (.Try [.Expr (.Call (.Name x p) (e :: es) [] pos) pos2] [.ExceptHandler (some (.Name cx np')) none [.Return (some (.Constant (.bool true) j p3)) p4] p5] [] [] pos6) (zk4 g ga) := by
 intro pins s σ H D I hh_
 obtain ⟨pp, F, fl, ps', R, e1, q⟩ := hh_
 obtain ⟨ds, e2, e3⟩ := bind_some e1
 obtain ⟨hgd, e4⟩ := cN e3
 cases e4
 have J : Inv X pins σ H s := I.unwish
 refine wpAny_Try_except ?_
 show wpAny (model X.prog X.w) X.A (execs [.Expr (.Call (.Name x p) (e :: es) [] pos) pos2] X.env) _ _ s
 refine wpAny_execs_cons (wpAny_Expr_any ?_ J.quiet hs)
 refine wpAny_Call_Name_kw (nM J hg Dd.m ?_ hdb)
 refine PySem.W.callWith_K (h₀ := X.base) J.ok.mod.kin Dd.F.kp (wpAny_mono (ha pos pins s σ H (fun vs H1 => SameK H H1 /\ ∃ fp, Reps X.K U H1 vs ds fp) I ⟨pp, ds, R.ws, e2, fun vs H1 fp s1 r1 => ⟨s1, fp, r1⟩⟩) (fun us s1 hu => ?_) fun _ _ z => z.elim) he hpl
 obtain ⟨vs, H1, I1, r, sm, fp, rs⟩ := hu
 have J1 : Inv X pins σ H1 s1 := I1.unwish
 refine ⟨J1.kIn, ?_⟩
 have hl : vs.length = np := by rw [rs.length, hlen pp ds e2, hnp]
 have hps : ps.length = np := (G.len vs H1 (fun _ _ => False) (fun _ _ _ => True) ⟨hl, ds, fp, rs, hgd, fun _ _ => trivial⟩).symm.trans hl
 have hlu : (us ++ ([] : List Value)).length = ps.length := by rw [List.append_nil, hps, <- hl, r.length]
 refine wpAny_call (codeAny_mono (G.run X.A X.stack s1 H1 ⟨us, []⟩ us vs (fun _ _ => False) (fun _ _ H' => D.rt (.bl true) H') hr J1.env0 (by have := Dd.b s1 us J1.kIn hlu; rwa [List.append_nil] at this) r ⟨hl, ds, fp, rs, hgd, fun H' s2 => ?_⟩) fun rr s' hq => ?_)
 ·exact q (.bl true) σ H' F [] (Stp.same R (sm.trans s2)) (OwnV.new R (fun _ h => absurd h (by simp)) List.nodup_nil) (.bl true)
 ·cases rr with
  | error ee =>
   exact yk2 (X := X.nox) (D := D) (E1 := fun _ _ H' => D.rt (.bl true) H') I1 hstk hf O hbase hgc hq (fun H' z => z) hdc
  | ok f2 =>
   cases f2 with
   | ret u => obtain ⟨_, _, _, _, _, _, _, z⟩ := hq; exact z.elim
   | next => exact hq.elim
   | brk => exact hq.elim
   | cont => exact hq.elim
end
noncomputable abbrev bmV : List Value := [.type "ValueError", .type "Exception", .type "BaseException", .type "object"]
theorem yk3 {K : tz0} {h : Heap} {C : Addr} {bm : List Value} {nid : String} (X : K.In h) (q : PySem.W.excIn K C bm nid = true) :
  ∃ bm' N nm qn bs hd sn sub ab col dd k0 k1 k2 k3 k5 mN, h.get? C = some (excClassObj nm qn C N bs bm' hd sn sub ab col dd k0 k1 k2 k3 k5 nid) /\ h.Ns N mN /\ mN "__init__" = none /\ OwnTail h bm bm' := by
 unfold PySem.W.excIn at q
 split at q
 case h_2 => cases q
 rename_i dd c sl look
 split at q
 case h_2 => cases q
 rename_i C1 bm1 a0 a1 a2 a3 n1 a5 em es
 rw [Bool.and_eq_true, Bool.and_eq_true, Bool.and_eq_true, Bool.and_eq_true, Bool.and_eq_true] at q
 obtain ⟨⟨⟨⟨⟨q1, q2⟩, q3⟩, q4⟩, q5⟩, q6⟩ := q
 have z1 := eq_of_beq q1
 have z2 := eq_of_beq q2
 have z6 := eq_of_beq q6
 subst z1 z2
 cases c with
 | mk nm bs mro ns qn hd sn sub ab col del =>
  dsimp only at em q3 q5 z6
  have z3 : del = false := by cases del <;> first | rfl | cases q3
  subst em z3
  have zs : sl = #[a0, a1, a2, a3, some (.builtin n1), a5] := by
   cases sl
   dsimp only at es
   rw [es]
  subst zs
  exact ⟨bm1, ns, nm, qn, bs, hd, sn, sub, ab, col, dd, a0, a1, a2, a3, a5, _, X _ _ look, .of_isNs (PySem.W.isNs_of_in X q5), PySem.W.nsMap_none_of_in X q5 z6, PySem.W.tail_of_in X q4⟩
noncomputable def tXe (φ : Fx) (fx : tz5) (Ex : Hp -> Prop) : TE := fun σ H _ => ∃ ps F, RS φ H σ ps F /\ fx ps = true /\ ∀ H', Frm F H H' -> Ex H'
noncomputable def lV (np : Nat) (K : tz0) (U : tz9) (m : Nat -> Bool) (C : Addr) (g : List D -> Bool) : Sp := fun vs H _ E => vs.length = np /\ ∃ ds F, ds.length = np /\ RS (fxE K U np m) H (vs.map some) (ds.map some) F /\ g ds = true /\ ∀ H', Frm F H H' -> E (.ref C) none H'
noncomputable abbrev QXe (X : Cx) (U : tz9) (φ : F0) (Ex : Hp -> Prop) (e : Expr) (fx : tz5) : Prop := PE X e (tXe (φ.fx X.K U) fx Ex)
noncomputable def kD (C m : Str) (g : List D -> Bool) (ys : List D) : D -> Bool := fun d => match d with
 | .obj true C' ns vs => decide (C' = C /\ bI ns m = none) && g (.obj true C' ns vs :: ys)
 | _ => false
noncomputable def sX (h : List D -> D -> Bool) (ys : List D) : D -> Option (Unit × D) := fun d => if h ys d = true then some ((), d) else none
noncomputable def lS (j : Nat) (pf : PSt -> Option (List Ps1)) (ga : tz3) (h : List D -> D -> Bool) : tz5 := fun ps => match (ps[j]?).join with
 | some d0 => match pf ps with
  | some p => match ga ps with
   | some ys => (bM (sX h ys) d0 p).isSome
   | none => false
  | none => false
 | none => false
noncomputable def pH (ft : tz4) (fa fb : tz5) : tz5 := fun ps => match ft ps with
 | some true => fa ps
 | some false => fb ps
 | none => false
noncomputable def rF (f g : tz5) : tz5 := fun ps => f ps || g ps
noncomputable def iO (i : Nat) (f : tz1) (fx : tz5) : List D -> tz5
 | [], _ => false
 | d :: ds, ps => fx (ps.set i (some d)) || (match f (ps.set i (some d)) with
   | some (.nx, p) => iO i f fx ds p
   | some (.ct, p) => iO i f fx ds p
   | _ => false)
noncomputable def ze3 (i : Nat) (fi : tz3) (f : tz1) (fx : tz5) : tz5 := fun ps => match fi ps with
 | some ds => iO i f fx ds ps
 | none => false
theorem wD {C m : Str} {g : List D -> Bool} {ys : List D} {d d' : D} {r : Unit} (h : sX (kD C m g) ys d = some (r, d')) : ∃ ns vs, d = .obj true C ns vs /\ bI ns m = none /\ g (d :: ys) = true := by
 obtain ⟨h1, _⟩ := cN h
 unfold kD at h1
 split at h1
 ·obtain ⟨h2, h3⟩ := Bool.and_eq_true_iff.mp h1
  obtain ⟨rfl, h4⟩ := of_decide_eq_true h2
  exact ⟨_, _, rfl, h4, h3⟩
 ·cases h1
theorem zs2 {j : Nat} {pf : PSt -> Option (List Ps1)} {ga : tz3} {h : List D -> D -> Bool} {ps : PSt} (e : lS j pf ga h ps = true) : ∃ d0 p ys r, ps[j]? = some (some d0) /\ pf ps = some p /\ ga ps = some ys /\ bM (sX h ys) d0 p = some r := by
 unfold lS at e
 split at e
 ·rename_i d0 h0
  split at e
  ·rename_i p hp
   split at e
   ·rename_i ys hy
    obtain ⟨r, hr⟩ := Option.isSome_iff_exists.mp e
    exact ⟨d0, p, ys, r, join_some h0, hp, hy, hr⟩
   ·cases e
  ·cases e
 ·cases e
theorem Stp.frm {φ : Fx} {σ σ1 : St} {H H1 H2 : Hp} {F F1 : Nat -> List Addr} {ps1 : PSt} (s : Stp φ σ H F σ1 H1 ps1 F1) (fr : Frm F1 H1 H2) : Frm F H H2 :=
 ⟨fun a o h k n => fr.keep a o (s.fr.keep a o h k n) k fun i m => by
  exact (s.nw i a m).elim (fun ⟨j, z⟩ => n j z) (fun z => by rw [z] at h; cases h), fun a z => s.fr.grow a (fr.grow a z)⟩
theorem yp8 {X : Cx} {l : List Stmt} {t u : TS} (h1 : PSs X l t) (h2 : PSs X l u) : PSs X l (fun D σ H => t D σ H \/ u D σ H) := fun pins s σ H D I h => h.elim (h1 pins s σ H D I) (h2 pins s σ H D I)
section
variable {P : Program} {w : World} {K : tz0} {mg : tzA} {base : Heap} {U : tz9} {C : Addr}
theorem mP {x qual : Str} {st : Stmt} {f : Addr} {fd : FuncData} {N ps : List Str} {k : Nat} {fx : tz5} {m : Nat -> Bool} (F : Fun K x qual st f fd) (S : FnScope N ps (aM st))
  (hbody : ∀ (cdv : Value) (A : Around) (outer : List Env) (s : Shared) (H : Hp) (E : XK), Room k (A.deeper (envOfC qual (aM st) s.heap.objs.size f cdv)) ->
   QXs (eI (CXn P w base C) P w K mg base N qual (aM st) f cdv A outer s H E) U (f0E ps.length m) (E (.ref C) none) (bR st) fx) :
  FnOk P w K mg base (CXn P w base C) (k + 1) f fd ps (lV ps.length K U m C (gX ps.length (N.length - ps.length) fx)) := by
 obtain ⟨oc, od, kV, doc, pm, an, cdv, ct, osl, rfl, lk, hcd⟩ := F.ex
 refine zq6 lk hcd S (fun vs H Q E h => h.1) fun A outer s H vs Q E hr hsp => ?_
 obtain ⟨hl, ds, F0, hd, R, e, q⟩ := hsp
 have hn : ps.length <= N.length := by have := congrArg List.length S.pre; rw [List.length_take] at this; omega
 have R0 := R.more (σ2 := List.replicate (N.length - vs.length) none) (n := N.length - ps.length) (by simp [hl, hd]) (by simp [hl])
 refine ⟨_, hbody cdv A outer s H E hr, _, F0, R0, ?_, q⟩
 unfold gX at e
 exact (Bool.and_eq_true_iff.mp e).2
theorem FnOk.noneXE {f : Addr} {fd : FuncData} {ps : List Str} {k : Nat} {m : Nat -> Bool} : FnOk P w K mg base (CXn P w base C) k f fd ps (lV ps.length K U m C fun _ => false) :=
 ⟨fun vs H Q E h => h.1, fun A outer s H args us vs Q E _ _ _ _ h => by obtain ⟨_, ds, F, _, _, e, _⟩ := h; cases e⟩
end
section
variable {X : Cx} {U : tz9} {φ : F0} {Ex : Hp -> Prop} {fx fy : tz5} {st : Stmt} {rest l : List Stmt} {pos : Pos}
theorem yp9 (h1 : QXs X U φ Ex l fx) (h2 : QXs X U φ Ex l fy) : QXs X U φ Ex l (rF fx fy) := fun pins s σ H D I h => by
 obtain ⟨ps, F, R, e, q⟩ := h
 rcases Bool.or_eq_true_iff.mp e with e | e
 ·exact h1 pins s σ H D I ⟨ps, F, R, e, q⟩
 ·exact h2 pins s σ H D I ⟨ps, F, R, e, q⟩
theorem pT {f : tz1} (h1 : QX X U φ Ex st fx) (hs : QS X.nox U φ st f) (h2 : QXs X U φ Ex rest fy) : QXs X U φ Ex (st :: rest) (rF fx (iU f fy)) := yp9 (fO h1) (lL hs h2)
theorem zh4 {c : Expr} {a b : List Stmt} {ft : tz4} (hc : QT X.nox U c ft) (ha : QXs X U φ Ex a fx) (hb : QXs X U φ Ex b fy) : QX X U φ Ex (.If c a b pos) (pH ft fx fy) :=
 (zd3 (PT.nox hc) ha hb).imp fun D σ H hh_ => by
  obtain ⟨ps, F, R, e, q⟩ := hh_
  unfold pH at e
  have fin : ∀ {g : tz5} {H' : Hp}, g ps = true -> SameK H H' -> tX (φ.fx X.K U) g Ex D σ H' := fun e s => ⟨ps, F, R.same s, e, fun H'' fr => q H'' ⟨fun a o h k n => fr.keep a o (s.keep a o h k) k n, fun a z => s.grow a (fr.grow a z)⟩⟩
  split at e
  ·rename_i he
   exact ⟨ps, true, R.ws, he, fun H' s => by show (if true = true then tX (φ.fx X.K U) fx Ex D σ H' else _); rw [if_pos rfl]; exact fin e s⟩
  ·rename_i he
   exact ⟨ps, false, R.ws, he, fun H' s => by show (if false = true then _ else tX (φ.fx X.K U) fy Ex D σ H'); rw [if_neg Bool.false_ne_true]; exact fin e s⟩
  ·cases e
theorem pK {e : Expr} (he : QXe X U φ Ex e fx) (hs : swapsWith e none pos.line X.env = pure false := by rfl) : QX X U φ Ex (.Expr e pos) fx := (zm2 he hs).imp fun _ _ _ h => h
theorem zh5 (i : Nat) {x : Str} {e : Expr} {pos' : Pos} (hN : X.N.Nodup) (hi : X.N[i]? = some x) (hx : Loc X.env.scope x) (he : QXe X U φ Ex e fx) (hs : swapsWith e (some (.Name x pos')) pos.line X.env = pure false := by rfl) (hf : X.fn x = true \/ X.env.scope.names.lookup x = some .local := by first | exact .inl rfl | exact .inr rfl | assumption) :
  QX X U φ Ex (.Assign [.Name x pos'] e pos) fx := (pN hN hi hx he hs hf).imp fun _ _ _ h => h
noncomputable def yv9 (φ : Fx) (σ : St) (H : Hp) (F : Nat -> List Addr) (i : Nat) (f : tz1) (fx : tz5) (ds : List D) (k m : Nat) (σ1 : St) (H1 : Hp) : Prop := k <= ds.length /\ m = ds.length - k /\ ∃ ps1 F1, Stp φ σ H F σ1 H1 ps1 F1 /\ iO i f fx (ds.drop k) ps1 = true
theorem zy0 {φ : Fx} {f : tz1} {E : Ends} {σ : St} {H : Hp} {F : Nat -> List Addr} {ps : PSt} {ds : List D} {J : It} {Z : List Addr} {i : Nat} (R : RS φ H σ ps F) (hz : ∀ a ∈ Z, H a ≠ none /\ ∀ i, a ∉ F i) (W : Walk φ.K φ.U J Z H ds) (hb : φ.bor i = false) (hm : φ.M i = false)
  (e : iO i f fx ds ps = true) (q : ∀ H', Frm F H H' -> Ex H') : ∃ V : Nat -> Nat -> St -> Hp -> Prop, (∃ m, V 0 m σ H) /\ ∀ k m σ H, V k m σ H -> yi0 J E V (nF i) (fun D σ H => tS φ f D σ H \/ tX φ fx Ex D σ H) k m σ H := by
 refine ⟨yv9 φ σ H F i f fx ds, ⟨_, Nat.zero_le _, rfl, ps, F, .refl R, by rw [List.drop_zero]; exact e⟩, ?_⟩
 rintro k m σ1 H1 ⟨hk, rfl, ps1, F1, s1, e1⟩
 have kp : rC Z H H1 := s1.fr.kept R fun a ha => (hz a ha).2
 by_cases hlt : k < ds.length
 ·right
  have ed : ds[k]? = some ds[k] := List.getElem?_eq_getElem hlt
  obtain ⟨hgo, hy⟩ := W.go H1 kp k _ ed
  rw [List.drop_eq_getElem_cons hlt, iO] at e1
  have set1 : ∀ x H', J.yld k H1 x H' -> ∃ F2, Stp φ σ H F (σ1.set i (some x)) H' (ps1.set i (some ds[k])) F2 := fun x H' y => by
   obtain ⟨rfl, rx⟩ := hy x H' y
   obtain ⟨F2, s2⟩ := (Stp.refl s1.rs).set (i := i) (fv := []) (v := x) (d := ds[k]) ⟨fun _ h => absurd h (by simp), List.nodup_nil, fun _ _ _ h => absurd h (by simp)⟩ s1.rs rx (.inl hb) hm
   exact ⟨F2, s1.trans s2⟩
  rcases Bool.or_eq_true_iff.mp e1 with e1 | e1
  ·refine ⟨hgo, fun _ _ => False, fun _ _ h => h.elim, fun x H' y => ?_⟩
   obtain ⟨F2, s12⟩ := set1 x H' y
   exact .inr ⟨_, F2, s12.rs, e1, fun H'' fr => q H'' (s12.frm fr)⟩
  ·split at e1
   ·rename_i p2 e2
    refine ⟨hgo, fun σ' H' => ∃ F', Stp φ σ H F σ' H' p2 F' /\ iO i f fx (ds.drop (k + 1)) p2 = true, fun σ' H' ⟨F', s, e⟩ => ⟨ds.length - (k + 1), by omega, hlt, rfl, p2, F', s, e⟩, fun x H' y => ?_⟩
    obtain ⟨F2, s12⟩ := set1 x H' y
    exact .inl ⟨_, F2, .nx, p2, s12.rs, e2, fun σ' H' F' s => ⟨F', s12.trans s, e1⟩⟩
   ·rename_i p2 e2
    refine ⟨hgo, fun σ' H' => ∃ F', Stp φ σ H F σ' H' p2 F' /\ iO i f fx (ds.drop (k + 1)) p2 = true, fun σ' H' ⟨F', s, e⟩ => ⟨ds.length - (k + 1), by omega, hlt, rfl, p2, F', s, e⟩, fun x H' y => ?_⟩
    obtain ⟨F2, s12⟩ := set1 x H' y
    exact .inl ⟨_, F2, .ct, p2, s12.rs, e2, fun σ' H' F' s => ⟨F', s12.trans s, e1⟩⟩
   ·cases e1
 ·rw [List.drop_eq_nil_of_le (Nat.le_of_not_lt hlt), iO] at e1
  cases e1
theorem zS (i j : Nat) {body : List Stmt} {f : tz1} {x y : Str} {px py : Pos} (hp : PassesOwn (model X.prog X.w) X.A X.env X.xe) (hc : X.calm = true) (hN : X.N.Nodup) (hi : X.N[i]? = some x) (hx : Loc X.env.scope x) (hb : φ.bor i = false) (hm : φ.M i = false) (hj : φ.bor j = true)
  (hbd : QSs X.nox U φ body f) (hbx : QXs X U φ Ex body fx) (hNj : X.N[j]? = some y := by rfl) (hv : Vis X.env.scope y := by first | exact Or.inl rfl | exact Or.inr (Or.inl rfl) | exact Or.inr (Or.inr rfl)) (hd : (y == ("__debug__" : Str)) = false := by decide)
  (hcd : (y == ("__classdict__" : Str)) = false := by decide) (hs : ∀ x, foldedSetIterable (.Name y py) X.env x = pure x := by intro _; rfl) (hf : X.fn x = true \/ X.env.scope.names.lookup x = some .local := by first | exact .inl rfl | exact .inr rfl | assumption) :
  QX X U φ Ex (.For (.Name x px) (.Name y py) body [] pos) (ze3 i (gA (aA j)) f fx) :=
 (zf0 hp hc (zg2 (pM hNj hv hd hcd)) (kE hN hi hx hf) (yp8 (t := tS (φ.fx X.K U) f) (PSs.nox hbd) hbx) hs).imp fun E σ H hh_ => by
 obtain ⟨ps, F, R, e, q⟩ := hh_
 unfold ze3 at e
 split at e
 ·rename_i ds e1
  obtain ⟨d, e3, e4⟩ := bind_some e1
  obtain ⟨v, fp, h1, h2, _, h4⟩ := R.rep j d (join_some e3)
  refine ⟨v, h1, ?_⟩
  refine zI (R := ys7 (nF i) (fun D σ H => tS (φ.fx X.K U) f D σ H \/ tX (φ.fx X.K U) fx Ex D σ H) E σ) h2 e4 fun J Z hz W => ?_
  exact zy0 R (fun a ha => ⟨R.bt j a (h4 hj a (hz a ha)), fun k hk => R.nb k a hk j (h4 hj a (hz a ha))⟩) W hb hm e q
 ·cases e
end
section
variable {P : Program} {w : World} {K : tz0} {mg : tzA} {base : Heap} {N : List Str} {qual : Str} {scope : Scope} {f C : Addr} {cd : Value} {A : Around} {outer : List Env} {s : Shared} {H : Hp} {E : XK} {U : tz9} {φ : F0}
theorem nR {Cn m qual' : Str} {st : Stmt} {ps : List Str} {fm : Addr} {fd : FuncData} {k np j : Nat} {mk : Nat -> Bool} {g : List D -> Bool} {o e : Expr} {es : List Expr} {as : List Arg} {pf : PSt -> Option (List Ps1)} {apos pos : Pos} {pl : Sem Bool} (M : Mn K U Cn m qual' st ps fm fd) (G : FnOk P w K mg base (CXn P w base C) k fm fd ps (lV np K U mk C g))
  (hr : Room k (A.deeper (envOfC qual scope s.heap.objs.size f cd))) (hb : φ.bor j = false) (ho : PE (eI (CXn P w base C) P w K mg base N qual scope f cd A outer s H E).nox o (gB K U j pf)) (ha : PA (eI (CXn P w base C) P w K mg base N qual scope f cd A outer s H E).nox (e :: es) (tIO K U as)) (has : qU as = true) (hnp : np = as.length + 1) (hm : mk = jY)
  (hst : starEach (e :: es) (envOfC qual scope s.heap.objs.size f cd) = (false, eval e (envOfC qual scope s.heap.objs.size f cd)) :: starEach es (envOfC qual scope s.heap.objs.size f cd) := by rfl) (hpl : (backTo pos (starEach es (envOfC qual scope s.heap.objs.size f cd))).any (·.1) = false := by rfl)
  (ht : eval (.Call (.Attribute o m apos) (e :: es) [] pos) (envOfC qual scope s.heap.objs.size f cd) = (do
   let ov <- eval o (envOfC qual scope s.heap.objs.size f cd)
   standAt apos.atName
   let (f', first) <- holding [ov] (getMethod ov m pl)
   callWith pos f' first (backTo pos (starEach (e :: es) (envOfC qual scope s.heap.objs.size f cd))) (backToKw pos (keywordEach [] (envOfC qual scope s.heap.objs.size f cd)))) := by rfl) :
  QXe (eI (CXn P w base C) P w K mg base N qual scope f cd A outer s H E) U φ (E (.ref C) none) (.Call (.Attribute o m apos) (e :: es) [] pos) (lS j pf (aU as) (kD Cn m g)) :=
 (zn1 (X := eI (CXn P w base C) P w K mg base N qual scope f cd A outer s H E) (PE.nox ho) M.c M.h G hr M.b .nil yh1 (PA.nox ha) hst hpl ht).imp fun σ H0 Q hh_ => by
 obtain ⟨ps, F, R, e, q⟩ := hh_
 obtain ⟨d0, pp, ys, ⟨r, d0'⟩, e0, ep, eg, em⟩ := zs2 e
 obtain ⟨dd, dn, gp, hh⟩ := mJ em
 refine ⟨ps, pp, d0, dd, R.ws, e0, ep, gp, fun v H1 v0 s1 ev a1 => ?_⟩
 obtain ⟨ns, vs, rfl, hn, _⟩ := wD hh
 obtain ⟨fdd, rd⟩ := vC R.ws s1 e0 ev gp a1
 obtain ⟨_, _, _, _, rfl, hl, hk, hs, rfl⟩ := rd.objT_inv
 subst hk
 refine ⟨_, _, _, rfl, hl, lX hn, ps, ys, R.ws.same s1, eg, fun us H2 s2 a2 => ?_⟩
 show lV np K U mk C g (_ :: (us ++ [])) H2 Q E
 rw [List.append_nil]
 have ry := a2.reps has
 have hly : np = ys.length + 1 := by rw [hnp, a2.len.2]
 subst hly hm
 obtain ⟨d1, d1', fd1, m1, m2, m3, m4, _⟩ := rO R (s1.trans s2) hb e0 ev em (a1.same s2)
 obtain ⟨_, _, _, _, eg1⟩ := wD m2
 refine ⟨by rw [List.length_cons, ry.length], _, pG fd1, by simp, sG m1 m3 ry, eg1, fun H' fr => q H' ⟨fun a o h kk n => fr.keep a o ((s1.trans s2).keep a o h kk) kk fun i hi => n j (m4 a (jQ hi).2), fun a z => (s1.trans s2).grow a (fr.grow a z)⟩⟩
end
noncomputable def yi1 (d : D) : Bool := match d with
 | .int a => decide (a.natAbs.log2 < 1920)
 | _ => false
noncomputable def yS : List (tz2) -> tz5
 | [], _ => true
 | f :: fs, ps => (match f ps with
   | some d => yi1 d
   | none => false) && yS fs ps
noncomputable def PJ (X : Cx) (U : tz9) (es : List Expr) (fs : List (tz2)) : Prop := ∀ (pins : tzB) (s : Shared) (σ : St) (H : Hp) (ps : PSt) (out : Str) (Q : Value -> Shared -> Prop), Inv X pins σ H s -> WS X.K U H σ ps -> yS fs ps = true -> out.length + 2000 * es.length <= sizeLine ->
 (∀ v s' H', Inv X pins σ H' s' -> SameK H H' -> Q v s') -> wpAny (model X.prog X.w) X.A (joinParts out (evalEach es X.env)) Q X.xe s
section
variable {X : Cx} {U : tz9} {es : List Expr} {fs : List (tz2)}
theorem PJ.nox (h : PJ X.nox U es fs) : PJ X U es fs := fun pins s σ H ps out Q I w e hl q =>
 wpAny_mono (h pins s σ H ps out Q (I.wish _) w e hl fun v s' H' I' sm => q v s' H' I'.unwish sm) (fun _ _ x => x) fun _ _ z => False.elim z
theorem yq0 : PJ X U [] [] := fun pins s σ H ps out Q I _ _ hl q => joinParts_nil (q _ _ H (I.tok _) (.refl H)) (by simpa using hl)
theorem zh6 {z : Str} {j : Nat} {p : Pos} (hr : PJ X U es fs) (hz : decide (z.length <= 2000) = true := by decide +kernel) : PJ X U (.Constant (.str z) j p :: es) fs := fun pins s σ H ps out Q I w e hl q => by
 show wpAny _ _ (joinParts out (eval (.Constant (.str z) j p) X.env :: evalEach es X.env)) Q X.xe s
 have hz' := of_decide_eq_true hz
 rw [List.length_cons] at hl
 have hl2 : (out ++ z).length + 2000 * es.length <= sizeLine := by rw [strLen_append]; omega
 refine joinParts_cons (Calls.Constant_str (k := j) (pos := p) ⟨by omega, ?_⟩)
 exact hr pins _ σ H ps (out ++ z) Q (I.tok _) w e hl2 q
theorem xT {a : Expr} {f : tz2} {p : Pos} (ha : PE X a (tV X.K U f)) (hr : PJ X U es fs) : PJ X U (.FormattedValue a (-1) none p :: es) (f :: fs) := fun pins s σ H ps out Q I w e hl q => by
 show wpAny _ _ (joinParts out (eval (.FormattedValue a (-1) none p) X.env :: evalEach es X.env)) Q X.xe s
 obtain ⟨e1, e2⟩ := Bool.and_eq_true_iff.mp e
 split at e1
 ·rename_i d hd
  unfold yi1 at e1
  split at e1
  ·rename_i i
   have hi := of_decide_eq_true e1
   refine joinParts_cons (FormattedValue_plain (thn (ha pins s σ H (fun v H' => SameK H H' /\ v = .int i) I ⟨ps, _, w, hd, fun v H' fp sm r => ⟨sm, r.is_int⟩⟩) fun u s1 hu => ?_))
   obtain ⟨x, H1, I1, r1, sm, rfl⟩ := hu
   obtain ⟨t, rfl⟩ := r1
   refine formatField_int_small hi ?_
   rw [List.length_cons] at hl
   have hs : (toString i).length <= 1920 + 1 := int_text_length_le (by decide) hi
   have hs2 : (Str.ofString (toString i)).length <= 1921 := by rw [PySem.ofString_length]; exact hs
   have hl2 : (out ++ Str.ofString (toString i)).length + 2000 * es.length <= sizeLine := by rw [strLen_append]; omega
   exact ⟨by omega, hr pins _ σ H1 ps _ Q (I1.tok _) (w.same sm) e2 hl2 fun v s' H' I' sm' => q v s' H' I' (sm.trans sm')⟩
  ·cases e1
 ·cases e1
end
section
variable {P : Program} {w : World} {K : tz0} {mg : tzA} {base : Heap} {N : List Str} {qual : Str} {scope : Scope} {f C : Addr} {cd : Value} {A : Around} {outer : List Env} {s : Shared} {H : Hp} {E : XK} {U : tz9} {φ : F0}
theorem uC {x : Str} {np cpos pos p1 : Pos} {v1 v2 : Expr} {rest : List Expr} {fs : List (tz2)} {B newId initId : String} {bmB : List Value} (O : OwnCls x C bmB newId mg base) (FB : ExcBaseFacts B newId initId bmB) (hg : Gl (eI (CXn P w base C) P w K mg base N qual scope f cd A outer s H E) x)
  (hj : PJ (eI (CXn P w base C) P w K mg base N qual scope f cd A outer s H E).nox U (v1 :: v2 :: rest) fs) (hln : decide ((v1 :: v2 :: rest).length <= 100) = true := by decide +kernel)
  (hd : (x == ("__debug__" : Str)) = false := by decide) (hs : starEach [.JoinedStr (v1 :: v2 :: rest) p1] (envOfC qual scope s.heap.objs.size f cd) = [(false, eval (.JoinedStr (v1 :: v2 :: rest) p1) (envOfC qual scope s.heap.objs.size f cd))] := by rfl) :
  QX (eI (CXn P w base C) P w K mg base N qual scope f cd A outer s H E) U φ (E (.ref C) none) (.Raise (some (.Call (.Name x np) [.JoinedStr (v1 :: v2 :: rest) p1] [] cpos)) none pos) (yS fs) := by
 intro pins s1 σ H1 D I h
 obtain ⟨ps, F, R, ef, q0⟩ := h
 obtain ⟨tl, N', nm, q, bs, hdct, sn, sub, ab, col, dd, k0, k1, k2, k3, k5, mN, hC, hN, hni, T⟩ := O.obj
 refine wpAny_Raise_call_subT (C := C) (nm := nm) (q := q) (N := N') (bs := bs) (bm := tl) (hdct := hdct) (sn := sn) (sub := sub) (ab := ab) (col := col) (dd := dd) (k0 := k0) (k1 := k1) (k2 := k2) (k3 := k3) (k5 := k5)
  FB (mN := mN) (T.hasType FB.hasBase) (I.ok.hd rfl) (by show (backTo cpos (starEach [.JoinedStr (v1 :: v2 :: rest) p1] (envOfC qual scope s.heap.objs.size f cd))).any (·.1) = false; rw [hs]; rfl) hni (nM I hg O.bound ⟨rfl, ?_⟩ hd)
 show wpAny (model P w) (A.deeper (envOfC qual scope s.heap.objs.size f cd)) (evalArgs (.ref C) true (backTo cpos (starEach [.JoinedStr (v1 :: v2 :: rest) p1] (envOfC qual scope s.heap.objs.size f cd))) []) _ _ s1
 rw [hs]
 have hz : (Str.empty).length + 2000 * (v1 :: v2 :: rest).length <= sizeLine := by
  have := of_decide_eq_true hln
  have hs : sizeLine = 16777216 := sizeLine_eq
  have h0 : Str.empty.length = 0 := rfl
  omega
 refine Calls.evalArgs_plain (Calls.spliced_cons (JoinedStr_many (pos := p1) (hj.nox pins s1 σ H1 ps Str.empty _ I R.ws ef hz fun v s2 H2 I2 sm => Calls.spliced_nil ?_)))
 have kp : ∀ b o, base.get? b = some o -> s2.heap.get? b = some o := I2.bk
 refine ⟨rfl, (show 1 <= sizeLine from Nat.le_trans (by decide) (qH (n := 1) (by decide))), kp _ _ hC, hN.keeps kp, T.keeps kp, fun h' e mk => ?_⟩
 exact zb8 I2 mk (q0 H2 ⟨fun a o h k _ => sm.keep a o h k, sm.grow⟩)
end
end L2
namespace L3
open PySem PySem.Spec PyProof.Rows L2
@[irreducible] def PE := @L2.PE
@[irreducible] def PT := @L2.PT
@[irreducible] def PW := @L2.PW
@[irreducible] def PA := @L2.PA
@[irreducible] def PS := @L2.PS
@[irreducible] def PSs := @L2.PSs
@[irreducible] def PI := @L2.PI
@[irreducible] def PG := @L2.PG
@[irreducible] def PGs := @L2.PGs
@[irreducible] def PTs := @L2.PTs
@[irreducible] def OpR := @L2.OpR
@[irreducible] def fY := @L2.fY
@[irreducible] def MtR := @L2.MtR
noncomputable abbrev QV (X : Cx) (U : tz9) (e : Expr) (f : tz2) : Prop := PE X e (tV X.K U f)
noncomputable abbrev QP (X : Cx) (U : tz9) (e : Expr) (f : tz2) : Prop := PE X e (tP X.K U f)
noncomputable abbrev QT (X : Cx) (U : tz9) (e : Expr) (f : tz4) : Prop := PT X e (tQ X.K U f)
noncomputable abbrev QW (X : Cx) (U : tz9) (e : Expr) (f : tz4) : Prop := PW X e (tQ X.K U f)
noncomputable abbrev QVA (X : Cx) (U : tz9) (es : List Expr) (f : tz3) : Prop := PA X es (tVA X.K U f)
noncomputable abbrev QPA (X : Cx) (U : tz9) (es : List Expr) (f : tz3) : Prop := PA X es (tPA X.K U f)
noncomputable abbrev QS (X : Cx) (U : tz9) (φ : F0) (st : Stmt) (f : tz1) : Prop := PS X st (tS (φ.fx X.K U) f)
noncomputable abbrev QSs (X : Cx) (U : tz9) (φ : F0) (st : List Stmt) (f : tz1) : Prop := PSs X st (tS (φ.fx X.K U) f)
noncomputable abbrev QE (X : Cx) (U : tz9) (φ : F0) (e : Expr) (f : tz8) : Prop := PE X e (tE (φ.fx X.K U) f)
noncomputable abbrev QTE (X : Cx) (U : tz9) (φ : F0) (e : Expr) (f : PSt -> Option (Bool × PSt)) : Prop := PT X e (tTE (φ.fx X.K U) f)
noncomputable abbrev QIV (X : Cx) (U : tz9) (tg iter : Expr) (f : tz3) : Prop := PI X tg iter (tIV X.K U f)
noncomputable abbrev QIP (X : Cx) (U : tz9) (tg iter : Expr) (f : tz3) : Prop := PI X tg iter (tIP X.K U f)
noncomputable abbrev QX (X : Cx) (U : tz9) (φ : F0) (Ex : Hp -> Prop) (st : Stmt) (fx : tz5) : Prop := PS X st (tX (φ.fx X.K U) fx Ex)
noncomputable abbrev QXs (X : Cx) (U : tz9) (φ : F0) (Ex : Hp -> Prop) (st : List Stmt) (fx : tz5) : Prop := PSs X st (tX (φ.fx X.K U) fx Ex)
noncomputable abbrev QXe (X : Cx) (U : tz9) (φ : F0) (Ex : Hp -> Prop) (e : Expr) (fx : tz5) : Prop := PE X e (tXe (φ.fx X.K U) fx Ex)
section
variable {X : Cx} {pos : Pos}
theorem kE {i : Nat} {x : Str} (hN : X.N.Nodup) (hi : X.N[i]? = some x) (hx : Loc X.env.scope x) (hf : X.fn x = true \/ X.env.scope.names.lookup x = some .local := by first | exact .inl rfl | exact .inr rfl | assumption) : PG X (.Name x pos) (nF i) := by with_unfolding_all exact L2.kE hN hi hx hf
theorem zA : PGs X [] yg2 := by with_unfolding_all exact L2.zA
theorem nN {e : Expr} {es : List Expr} {t : TG} {u : TGs} (h1 : PG X e t) (h2 : PGs X es u)
  (hs : (assignEach (e :: es) X.env).map (·.2) = assign e X.env :: (assignEach es X.env).map (·.2) := by rfl) : PGs X (e :: es) (zt8 t u) := by with_unfolding_all exact L2.nN h1 h2 hs
end
section
variable {X : Cx} {U : tz9} {e a b : Expr} {f fa fb : tz2}
theorem QP.v (h : QP X U e f) : QV X U e f := by with_unfolding_all exact L2.QP.v h
theorem QV.p (h : QV X U e f) : QP X U e (aX f) := by with_unfolding_all exact L2.QV.p h
theorem aC (i : Nat) {x : Str} {pos : Pos} (hN : X.N[i]? = some x := by rfl) (hv : Vis X.env.scope x := by first | exact Or.inl rfl | exact Or.inr (Or.inl rfl) | exact Or.inr (Or.inr rfl)) (hd : (x == ("__debug__" : Str)) = false := by decide)
  (hcd : (x == ("__classdict__" : Str)) = false := by decide) : QV X U (.Name x pos) (aA i) := by with_unfolding_all exact L2.aC i hN hv hd hcd
theorem aH {i j pos} : QP X U (.Constant (.int i) j pos) (fC (.int i)) := by with_unfolding_all exact L2.aH
theorem cC {x j pos} : QP X U (.Constant (.str x) j pos) (fC (.str x)) := by with_unfolding_all exact L2.cC
theorem iW {b j pos} : QP X U (.Constant (.bool b) j pos) (fC (.bl b)) := by with_unfolding_all exact L2.iW
theorem tM {j pos} : QP X U (.Constant .none j pos) (fC .non) := by with_unfolding_all exact L2.tM
theorem zE {x : Str} {v : V} {u : Value} {d : D} {pos : Pos} (hg : Gl X x) (hm : X.mg x = some u) (r : cW v u) (hd : ∀ H, Rep X.K U H v d []) (hdb : (x == ("__debug__" : Str)) = false := by decide) : QP X U (.Name x pos) (fC d) := by with_unfolding_all exact L2.zE hg hm r hd hdb
theorem zr3 {x : Str} {n : String} {pos : Pos} (hg : Gl X x) (hm : X.mg x = none) (hv : bootBuiltins x = some (.type n)) (hn : x ≠ "__name__" := by decide) (hd : (x == ("__debug__" : Str)) = false := by decide) : QP X U (.Name x pos) (fC (.ty n)) := by with_unfolding_all exact L2.zr3 hg hm hv hn hd
theorem bS {op : Operator} {g : D -> D -> Option D} {pos : Pos} (ho : OpR X (binaryOp op) (POp X.K U g)) (ha : QV X U a fa) (hb : QV X U b fb) : QP X U (.BinOp a op b pos) (f2 g fa fb) := by with_unfolding_all exact L2.bS ho ha hb
theorem rL {op : CmpOp} {g : D -> D -> Option D} {pos : Pos} (ho : OpR X (compareOp op) (POp X.K U g)) (ha : QV X U a fa) (hb : QV X U b fb) (hm : behindInMarks op b = false) : QP X U (.Compare a [op] [b] pos) (f2 g fa fb) := by with_unfolding_all exact L2.rL ho ha hb hm
theorem cB {op : CmpOp} {g : D -> D -> Option D} {pos : Pos} (ho : OpR X (compareOp op) (POp X.K U g)) (ha : QV X U a fa) (hb : QV X U b fb) (hm : behindInMarks op b = false) : QT X U (.Compare a [op] [b] pos) (fB (f2 g fa fb)) := by with_unfolding_all exact L2.cB ho ha hb hm
theorem fG (ha : QV X U a fa) (he : ∀ whole, isTrue a X.env whole = (do let v <- whole; standAt a.pos; holding [v] (truthy v)) := by intro _; rfl) : QT X U a (fT fa) := by with_unfolding_all exact L2.fG ha he
variable {pos : Pos} {rest : List Expr} {ta tb : tz4}
theorem iI (ha : QT X U a ta) : QW X U (.BoolOp .And [a] pos) ta := by with_unfolding_all exact L2.iI ha
end
section
variable {X : Cx} {U : tz9} {e a b : Expr} {f fa fb : tz2}
variable {pos : Pos} {rest : List Expr} {ta tb : tz4}
theorem rM (ha : QT X U a ta) : QW X U (.BoolOp .Or [a] pos) ta := by with_unfolding_all exact L2.rM ha
end
section
variable {X : Cx} {U : tz9} {e a b : Expr} {f fa fb : tz2}
variable {pos : Pos} {rest : List Expr} {ta tb : tz4}
theorem iX (ha : QT X U a ta) (hb : QW X U (.BoolOp .And (b :: rest) pos) tb) : QW X U (.BoolOp .And (a :: b :: rest) pos) (cE ta tb) := by with_unfolding_all exact L2.iX ha hb
end
section
variable {X : Cx} {U : tz9} {e a b : Expr} {f fa fb : tz2}
variable {pos : Pos} {rest : List Expr} {ta tb : tz4}
theorem uZ (ha : QT X U a ta) (hb : QW X U (.BoolOp .Or (b :: rest) pos) tb) : QW X U (.BoolOp .Or (a :: b :: rest) pos) (dS ta tb) := by with_unfolding_all exact L2.uZ ha hb
end
section
variable {X : Cx} {U : tz9} {e a b : Expr} {f fa fb : tz2}
variable {pos : Pos} {rest : List Expr} {ta tb : tz4}
theorem kQ (h : QW X U a ta) : QT X U a ta := by with_unfolding_all exact L2.kQ h
end
section
variable {X : Cx} {U : tz9} {e a b : Expr} {f fa fb : tz2}
variable {pos : Pos} {rest : List Expr} {ta tb : tz4}
theorem lW (ha : QT X U a ta) : QT X U (.UnaryOp .Not a pos) (cX ta) := by with_unfolding_all exact L2.lW ha
end
section
variable {X : Cx} {U : tz9} {e a b : Expr} {f fa fb : tz2}
variable {pos : Pos} {rest : List Expr} {ta tb : tz4}
theorem xL {op} (h : QP X U a fa) : QP X U (.BoolOp op [a] pos) fa := by with_unfolding_all exact L2.xL h
end
section
variable {X : Cx} {U : tz9} {e a b : Expr} {f fa fb : tz2}
variable {pos : Pos} {rest : List Expr} {ta tb : tz4}
theorem zf8 (ha : QP X U a fa) (hb : QP X U (.BoolOp .And (b :: rest) pos) fb) : QP X U (.BoolOp .And (a :: b :: rest) pos) (sT fa fb) := by with_unfolding_all exact L2.zf8 ha hb
end
section
variable {X : Cx} {U : tz9} {e a b : Expr} {f fa fb : tz2}
variable {pos : Pos} {rest : List Expr} {ta tb : tz4}
theorem zr4 (ha : QP X U a fa) (hb : QP X U (.BoolOp .Or (b :: rest) pos) fb) : QP X U (.BoolOp .Or (a :: b :: rest) pos) (fOr fa fb) := by with_unfolding_all exact L2.zr4 ha hb
end
section
variable {X : Cx} {U : tz9} {e a b : Expr} {f fa fb : tz2}
variable {pos : Pos} {rest : List Expr} {ta tb : tz4}
theorem mY (ha : QV X U a fa) : QP X U (.UnaryOp .USub a pos) (eQ fa) := by with_unfolding_all exact L2.mY ha
end
section
variable {X : Cx} {U : tz9}
theorem fQ : OpR X (binaryOp .Add) (POp X.K U bG) := by with_unfolding_all exact L2.fQ
theorem sB : OpR X (binaryOp .Sub) (POp X.K U fI) := by with_unfolding_all exact L2.sB
theorem qJ : OpR X (binaryOp .Mult) (POp X.K U iN) := by with_unfolding_all exact L2.qJ
theorem gY : OpR X (binaryOp .Mod) (POp X.K U eB) := by with_unfolding_all exact L2.gY
theorem mC : OpR X (binaryOp .FloorDiv) (POp X.K U gJ) := by with_unfolding_all exact L2.mC
theorem oW (hu : X.A.units < cLine) : OpR X (compareOp .Lt) (POp X.K U dLt) := by with_unfolding_all exact L2.oW hu
theorem zr6 : OpR X (compareOp .LtE) (POp X.K U dLe) := by with_unfolding_all exact L2.zr6
theorem wH : OpR X (compareOp .Gt) (POp X.K U dGt) := by with_unfolding_all exact L2.wH
theorem wI : OpR X (compareOp .GtE) (POp X.K U dGe) := by with_unfolding_all exact L2.wI
theorem fW (hu : X.A.units + 64 < cLine) : OpR X (compareOp .Eq) (POp X.K U dEq) := by with_unfolding_all exact L2.fW hu
theorem yd1 (hu : X.A.units + 64 < cLine) : OpR X (compareOp .NotEq) (POp X.K U dNe) := by with_unfolding_all exact L2.yd1 hu
theorem zr7 : OpR X (compareOp .Is) (POp X.K U dIs) := by with_unfolding_all exact L2.zr7
theorem yd3 : OpR X (compareOp .In) (POp X.K U dIn) := by with_unfolding_all exact L2.yd3
end
section
variable {X : Cx} {U : tz9} {e a b : Expr} {es : List Expr} {f fa fb : tz2} {g : tz3} {pos p2 : Pos}
theorem bB : QVA X U [] aD := by with_unfolding_all exact L2.bB
theorem aL (ha : QV X U e f) (hr : QVA X U es g) (hs : starEach (e :: es) X.env = (false, eval e X.env) :: starEach es X.env := by rfl) : QVA X U (e :: es) (aB f g) := by with_unfolding_all exact L2.aL ha hr hs
theorem bQ : QPA X U [] aD := by with_unfolding_all exact L2.bQ
theorem aW (ha : QP X U e f) (hr : QPA X U es g) (hs : starEach (e :: es) X.env = (false, eval e X.env) :: starEach es X.env := by rfl) : QPA X U (e :: es) (aB f g) := by with_unfolding_all exact L2.aW ha hr hs
theorem gD {x1} (h : QPA X U es g) : QP X U (.Tuple es x1 pos) (cU g) := by with_unfolding_all exact L2.gD h
theorem dR (h : QPA X U es g) : QP X U (.List es pos) (bL g) := by with_unfolding_all exact L2.dR h
theorem bK (ha : QV X U a fa) (hb : QV X U b fb) (hs : nZ b := by exact fun _ _ => rfl) : QV X U (.Subscript a b pos) (f2 dIx fa fb) := by with_unfolding_all exact L2.bK ha hb hs
theorem oJ (ha : QP X U a fa) (hb : QV X U b fb) (hs : nZ b := by exact fun _ _ => rfl) : QP X U (.Subscript a b pos) (f2 dIx fa fb) := by with_unfolding_all exact L2.oJ ha hb hs
theorem eG {x : Str} {id : String} {p : Pos} {h : tz6} (hc : fY X (.builtin id) (PCl X.K U h)) (hg : Gl X x) (hm : X.mg x = none) (hv : bootBuiltins x = some (.builtin id)) (ha : QVA X U (e :: es) g) (hn : x ≠ "__name__" := by decide) (hdb : (x == ("__debug__" : Str)) = false := by decide)
  (hs : starEach (e :: es) X.env = (false, eval e X.env) :: starEach es X.env := by rfl) (hpl : (backTo pos (starEach es X.env)).any (·.1) = false := by rfl) : QP X U (.Call (.Name x p) (e :: es) [] pos) (aG h g) := by with_unfolding_all exact L2.eG hc hg hm hv ha hn hdb hs hpl
theorem iF {x : Str} {T : String} {p : Pos} {h : tz6} (hc : fY X (.type T) (PCl X.K U h)) (hg : Gl X x) (hm : X.mg x = none) (hv : bootBuiltins x = some (.type T)) (ha : QVA X U (e :: es) g) (hn : x ≠ "__name__" := by decide) (hdb : (x == ("__debug__" : Str)) = false := by decide)
  (hs : starEach (e :: es) X.env = (false, eval e X.env) :: starEach es X.env := by rfl) (hpl : (backTo pos (starEach es X.env)).any (·.1) = false := by rfl) : QP X U (.Call (.Name x p) (e :: es) [] pos) (aG h g) := by with_unfolding_all exact L2.iF hc hg hm hv ha hn hdb hs hpl
theorem hX : fY X (.builtin "len") (PCl X.K U bP) := by with_unfolding_all exact L2.hX
theorem zr8 : fY X (.builtin "isinstance") (PCl X.K U uN) := by with_unfolding_all exact L2.zr8
theorem lJ : fY X (.type "tuple") (PCl X.K U cQ) := by with_unfolding_all exact L2.lJ
theorem zr9 : fY X (.type "int") (PCl X.K U nH) := by with_unfolding_all exact L2.zr9
theorem xM {name : Str} {id : String} {apos : Pos} {h : D -> tz6} (slot : Slot "str" name id) (hty : typeOf (.builtin id) = pure (.type "method_descriptor")) (hm : MtR X id (PMt X.K U h)) (ho : QV X U a fa) (ha : QVA X U (e :: es) g)
  (hbase : attributeBase a name X.env (eval a X.env) = eval a X.env := by rfl)
  (hfew : ((backTo pos (starEach (e :: es) X.env)).all (fun x => !x.1) && (backToKw pos (keywordEach [] X.env)).all (fun x => x.1.isSome)
   && decide ((e :: es).length + ([] : List Keyword).length + (if ([] : List Keyword).isEmpty then 0 else 1) < 30)) = true := by rfl)
  (hline : (apos.endLine == pos.line) = true := by rfl) (hs : starEach (e :: es) X.env = (false, eval e X.env) :: starEach es X.env := by rfl) (hplain : (backTo pos (starEach es X.env)).any (·.1) = false := by rfl) :
  QP X U (.Call (.Attribute a name apos) (e :: es) [] pos) (fMt h fa g) := by with_unfolding_all exact L2.xM slot hty hm ho ha hbase hfew hline hs hplain
theorem zg1 : MtR X "str.join" (PMt X.K U vN) := by with_unfolding_all exact L2.zg1
end
section
variable {X : Cx} {U : tz9} {φ : F0} {st : Stmt} {rest : List Stmt} {f g : tz1} {pos : Pos}
theorem bZ : QSs X U φ [] aY := by with_unfolding_all exact L2.bZ
theorem aS (h : QS X U φ st f) : QSs X U φ [st] f := by with_unfolding_all exact L2.aS h
theorem aO (h1 : QS X U φ st f) (h2 : QSs X U φ rest g) : QSs X U φ (st :: rest) (aK f g) := by with_unfolding_all exact L2.aO h1 h2
theorem mI : QS X U φ st pZ := by with_unfolding_all exact L2.mI
theorem QP.e {e : Expr} {f : tz2} (h : PE X e (tP X.K U f)) : QE X U φ e (aE f) := by with_unfolding_all exact L2.QP.e h
theorem QT.e {e : Expr} {f : tz4} (h : PT X e (tQ X.K U f)) : QTE X U φ e (aI f) := by with_unfolding_all exact L2.QT.e h
theorem bY (i : Nat) {x : Str} {e : Expr} {pos' : Pos} {f : tz8} (hN : X.N.Nodup) (hi : X.N[i]? = some x) (hx : Loc X.env.scope x) (hb : φ.bor i = false) (hm : φ.M i = false) (he : QE X U φ e f) (hs : swapsWith e (some (.Name x pos')) pos.line X.env = pure false := by rfl) (hf : X.fn x = true \/ X.env.scope.names.lookup x = some .local := by first | exact .inl rfl | exact .inr rfl | assumption) :
  QS X U φ (.Assign [.Name x pos'] e pos) (aR i f) := by with_unfolding_all exact L2.bY i hN hi hx hb hm he hs hf
theorem eL {e : Expr} {f : tz8} (he : QE X U φ e f) (hs : swapsWith e none pos.line X.env = pure false := by rfl) : QS X U φ (.Expr e pos) (aV f) := by with_unfolding_all exact L2.eL he hs
theorem cP {e : Expr} {f : tz8} (he : QE X U φ e f) : QS X U φ (.Return (some e) pos) (bJ f) := by with_unfolding_all exact L2.cP he
theorem vA (i : Nat) {x : Str} {p : Pos} (hb : φ.bor i = false) (hN : X.N[i]? = some x := by rfl) (hv : Vis X.env.scope x := by first | exact Or.inl rfl | exact Or.inr (Or.inl rfl) | exact Or.inr (Or.inr rfl)) (hd : (x == ("__debug__" : Str)) = false := by decide)
  (hcd : (x == ("__classdict__" : Str)) = false := by decide) : QS X U φ (.Return (some (.Name x p)) pos) (eZ i) := by with_unfolding_all exact L2.vA i hb hN hv hd hcd
theorem cO {c : Expr} {a b : List Stmt} {tc : PSt -> Option (Bool × PSt)} (hc : QTE X U φ c tc) (ha : QSs X U φ a f) (hb : QSs X U φ b g) : QS X U φ (.If c a b pos) (fIf tc f g) := by with_unfolding_all exact L2.cO hc ha hb
end
section
variable {X : Cx} {φ : Fx} {pos : Pos} {body : List Stmt} {f : tz1}
theorem wK {U : tz9} {φ : F0} (n : Nat) {c : Expr} {tc : PSt -> Option (Bool × PSt)} (hp : PassesOwn (model X.prog X.w) X.A X.env X.xe) (hc : QTE X U φ c tc) (hb : QSs X U φ body f) : QS X U φ (.While c body [] pos) (kC tc f n) := by with_unfolding_all exact L2.wK n hp hc hb
end
section
variable {X : Cx} {U : tz9} {tg l a b : Expr} {f : tz2} {g : tz3} {p pos : Pos}
theorem qK (hg : Gl X "range") (hm : X.mg "range" = none) (ha : QVA X U [a] g) (hs : starEach [a] X.env = [(false, eval a X.env)] := by rfl) : QIP X U tg (.Call (.Name "range" p) [a] [] pos) (pF g) := by with_unfolding_all exact L2.qK hg hm ha hs
theorem tN (hg : Gl X "range") (hm : X.mg "range" = none) (ha : QVA X U [a, b] g) (hs : starEach [a, b] X.env = [(false, eval a X.env), (false, eval b X.env)] := by rfl) (hs2 : starEach [b] X.env = [(false, eval b X.env)] := by rfl) : QIP X U tg (.Call (.Name "range" p) [a, b] [] pos) (vP g) := by with_unfolding_all exact L2.tN hg hm ha hs hs2
theorem zg3 (h : QV X U l f) : QIV X U tg l (gA f) := by with_unfolding_all exact L2.zg3 h
end
section
variable {X : Cx} {φ : Fx} {pos : Pos} {body : List Stmt} {f : tz1}
theorem tO {U : tz9} {φ : F0} (i : Nat) {x : Str} {px : Pos} {iter : Expr} {fi : tz3} (hp : PassesOwn (model X.prog X.w) X.A X.env X.xe) (hc : X.calm = true) (hN : X.N.Nodup) (hi : X.N[i]? = some x) (hx : Loc X.env.scope x) (hb : φ.bor i = false) (hm : φ.M i = false)
  (hit : PI X (.Name x px) iter (tIP X.K U fi)) (hbd : QSs X U φ body f) (hs : ∀ x, foldedSetIterable iter X.env x = pure x := by intro _; rfl) (hf : X.fn x = true \/ X.env.scope.names.lookup x = some .local := by first | exact .inl rfl | exact .inr rfl | assumption) :
  QS X U φ (.For (.Name x px) iter body [] pos) (kH i fi f) := by with_unfolding_all exact L2.tO i hp hc hN hi hx hb hm hit hbd hs hf
theorem vB {U : tz9} {φ : F0} (i j : Nat) {x y : Str} {px py : Pos} (hp : PassesOwn (model X.prog X.w) X.A X.env X.xe) (hc : X.calm = true) (hN : X.N.Nodup) (hi : X.N[i]? = some x) (hx : Loc X.env.scope x) (hb : φ.bor i = false) (hm : φ.M i = false) (hj : φ.bor j = true)
  (hbd : QSs X U φ body f) (hNj : X.N[j]? = some y := by rfl) (hv : Vis X.env.scope y := by first | exact Or.inl rfl | exact Or.inr (Or.inl rfl) | exact Or.inr (Or.inr rfl)) (hd : (y == ("__debug__" : Str)) = false := by decide)
  (hcd : (y == ("__classdict__" : Str)) = false := by decide) (hs : ∀ x, foldedSetIterable (.Name y py) X.env x = pure x := by intro _; rfl) (hf : X.fn x = true \/ X.env.scope.names.lookup x = some .local := by first | exact .inl rfl | exact .inr rfl | assumption) :
  QS X U φ (.For (.Name x px) (.Name y py) body [] pos) (kH i (gA (aA j)) f) := by with_unfolding_all exact L2.vB i j hp hc hN hi hx hb hm hj hbd hNj hv hd hcd hs hf
end
section
variable {P : Program} {w : World} {K : tz0} {mg : tzA} {base : Heap} {U : tz9}
theorem eW {x qual : Str} {st : Stmt} {f : Addr} {fd : FuncData} {N ps : List Str} {k : Nat} {fb : tz1} (F : Fun K x qual st f fd) (S : FnScope N ps (aM st))
  (hbody : ∀ (cdv : Value) (A : Around) (outer : List Env) (s : Shared) (H : Hp) (E : XK) (B : Nat -> Addr -> Prop), Room k (A.deeper (envOfC qual (aM st) s.heap.objs.size f cdv)) ->
   QSs (eI CX0 P w K mg base N qual (aM st) f cdv A outer s H E).nox U (f0P ps.length B) (bR st) fb) :
  FnOk P w K mg base CX0 (k + 1) f fd ps (SpP ps.length K U (gP ps.length (N.length - ps.length) fb)) := by with_unfolding_all exact L2.eW F S hbody
end
section
variable {X : Cx} {U : tz9} {e : Expr} {es : List Expr} {g : tz3} {pos p : Pos}
theorem eM {x : Str} {st : Stmt} {ps : List Str} {f : Addr} {fd : FuncData} {k np : Nat} {h : tz6} (Dd : Dn X.K X.mg x st ps f fd) (G : FnOk X.prog X.w X.K X.mg X.base CX0 k f fd ps (SpP np X.K U h)) (hr : Room k X.A) (hg : Gl X x) (hnp : (e :: es).length = np) (ha : QVA X U (e :: es) g)
  (hlen : ∀ ps ds, g ps = some ds -> ds.length = (e :: es).length)
  (hdb : (x == ("__debug__" : Str)) = false := by decide) (he : starEach (e :: es) X.env = (false, eval e X.env) :: starEach es X.env := by rfl) (hpl : (backTo pos (starEach es X.env)).any (·.1) = false := by rfl) :
  QP X U (.Call (.Name x p) (e :: es) [] pos) (aG h g) := by with_unfolding_all exact L2.eM Dd G hr hg hnp ha hlen hdb he hpl
theorem tR {x : Str} {st : Stmt} {ps : List Str} {f : Addr} {fd : FuncData} {k : Nat} {h : tz6} (Dd : Dn X.K X.mg x st ps f fd) (G : FnOk X.prog X.w X.K X.mg X.base CX0 k f fd ps (SpP 0 X.K U h)) (hr : Room k X.A) (hg : Gl X x)
  (hdb : (x == ("__debug__" : Str)) = false := by decide) : QP X U (.Call (.Name x p) [] [] pos) (aG h aD) := by with_unfolding_all exact L2.tR Dd G hr hg hdb
end
section
variable {X : Cx} {U : tz9} {sc : Scope} {NX N : List Str} {pick : List (Option Nat)} {elt iter : Expr} {ifs : List Expr} {scope : Scope} {pos px : Pos} {x : Str} {fi : tz3} {ft : tz4} {fe : tz2}
theorem zJ {X : Cx} : PTs X [] (tQ X.K U xB) := by with_unfolding_all exact L2.zJ
theorem zK (S : CScope sc NX N pick scope) (hsc : X.env.scope = sc) (hNX : X.N = NX) (hc : X.calm = true) (hi : QIV X U (.Name x px) iter fi)
  (hg : ∀ cl fp s H, PG (cxB X N scope cl fp s H) (.Name x px) (nF 0)) (ht : ∀ cl fp s H, PTs (cxB X N scope cl fp s H) ifs (tQ X.K U ft)) (he : ∀ cl fp s H, PE (cxB X N scope cl fp s H) elt (tP X.K U fe))
  (hs : ∀ x, foldedSetIterable iter X.env x = pure x := by intro _; rfl) : QP X U (.ListComp elt [⟨.Name x px, iter, ifs, 0⟩] scope pos) (yP pick fi ft fe) := by with_unfolding_all exact L2.zK S hsc hNX hc hi hg ht he hs
end
section
variable {X : Cx} {φ : F0} {U : tz9} {K : tz0} {o e a b : Expr} {f fb fe : tz2} {g : tz3} {pf : PSt -> Option (List Ps1)} {j : Nat} {pos apos : Pos}
theorem bH (j : Nat) {x : Str} (hN : X.N[j]? = some x := by rfl) (hv : Vis X.env.scope x := by first | exact Or.inl rfl | exact Or.inr (Or.inl rfl) | exact Or.inr (Or.inr rfl)) (hd : (x == ("__debug__" : Str)) = false := by decide)
  (hcd : (x == ("__classdict__" : Str)) = false := by decide) : PE X (.Name x pos) (gB K U j aP) := by with_unfolding_all exact L2.bH j hN hv hd hcd
theorem iL (ha : PE X a (gB X.K U j pf)) (hb : QV X U b fb) (hs : nZ b := by exact fun _ _ => rfl) : PE X (.Subscript a b pos) (gB X.K U j (dF j pf fb)) := by with_unfolding_all exact L2.iL ha hb hs
theorem tT {C fn : Str} (hc : Cls X.K (U C)) (hna : cH X.K (U C) fn) (ha : PE X a (gB X.K U j pf)) (hb : attributeBase a fn X.env (eval a X.env) = eval a X.env := by rfl) : PE X (.Attribute a fn pos) (gB X.K U j (gC j pf C fn)) := by with_unfolding_all exact L2.tT hc hna ha hb
theorem iY (hb : φ.bor j = false) (ho : PE X o (gB X.K U j pf)) (ha : PA X [e] (tPA X.K U g))
  (hbase : attributeBase o "append" X.env (eval o X.env) = eval o X.env := by rfl)
  (hfew : ((backTo pos (starEach [e] X.env)).all (fun x => !x.1) && (backToKw pos (keywordEach [] X.env)).all (fun x => x.1.isSome)
   && decide ([e].length + ([] : List Keyword).length + (if ([] : List Keyword).isEmpty then 0 else 1) < 30)) = true := by rfl)
  (hline : (apos.endLine == pos.line) = true := by rfl) (hs : starEach [e] X.env = (false, eval e X.env) :: starEach [] X.env := by rfl) (hplain : (backTo pos (starEach [] X.env)).any (·.1) = false := by rfl) :
  QE X U φ (.Call (.Attribute o "append" apos) [e] [] pos) (bE j pf g bD) := by with_unfolding_all exact L2.iY hb ho ha hbase hfew hline hs hplain
end
section
variable {X : Cx} {φ : F0} {U : tz9} {K : tz0} {o e a b : Expr} {f fi fe : tz2} {g : tz3} {pf : PSt -> Option (List Ps1)} {j : Nat} {pos apos : Pos}
theorem zg6 (hb : φ.bor j = false) (ho : PE X o (gB X.K U j pf))
  (hbase : attributeBase o "pop" X.env (eval o X.env) = eval o X.env := by rfl) (hline : (apos.endLine == pos.line) = true := by rfl) : QE X U φ (.Call (.Attribute o "pop" apos) [] [] pos) (bE j pf aD qB) := by with_unfolding_all exact L2.zg6 hb ho hbase hline
theorem kR {i : Expr} (hb : φ.bor j = false) (he : PE X e (tP X.K U fe)) (ho : PE X o (gB X.K U j pf)) (hi : PE X i (tV X.K U fi)) (hs : swapsWithSole [.Subscript o i apos] e pos.line X.env = pure false := by rfl) (hw : swappedStores [.Subscript o i apos] e X.env = pure none := by rfl)
  (h1 : (assignEach [.Subscript o i apos] X.env).map (·.2) = [assign (.Subscript o i apos) X.env] := by rfl)
  (ha : ∀ v, assign (.Subscript o i apos) X.env v = (do
   let ov <- holding [v] (eval o X.env)
   let iv <- holding [v, ov] (eval i X.env)
   standAt apos
   holding [v, ov, iv] (setItem ov iv v)
   release [v, ov, iv] []) := by intro _; rfl) : QS X U φ (.Assign [.Subscript o i apos] e pos) (dG j pf fi fe) := by with_unfolding_all exact L2.kR hb he ho hi hs hw h1 ha
end
section
variable {X : Cx} {U : tz9} {φ : F0} {es : List Expr} {pos p : Pos} {k : Nat} {is : List Nat} {e : Expr} {f : tz8}
theorem tZ (hc : X.calm = true) (hg : PGs X es (yQ is)) (he : QE X U φ e f) (hb : ∀ i ∈ is, φ.bor i = false /\ φ.M i = false) (hn : (assignEach es X.env).length = is.length := by rfl) (hst : (assignEach es X.env).findIdx? (·.1) = none := by rfl)
  (hs : swapsWithSole [.Tuple es k p] e pos.line X.env = pure false := by rfl) (hw : swappedStores [.Tuple es k p] e X.env = pure none := by rfl)
  (h1 : (assignEach [.Tuple es k p] X.env).map (·.2) = [assign (.Tuple es k p) X.env] := by rfl) : QS X U φ (.Assign [.Tuple es k p] e pos) (sW is f) := by with_unfolding_all exact L2.tZ hc hg he hb hn hst hs hw h1
end
section
variable {P : Program} {w : World} {K : tz0} {mg : tzA} {base : Heap} {U : tz9}
theorem mD {x qual : Str} {st : Stmt} {f : Addr} {fd : FuncData} {N ps : List Str} {k : Nat} {fb : tz1} {m : Nat -> Bool} (F : Fun K x qual st f fd) (S : FnScope N ps (aM st)) (hm : ∀ i, m i = true -> i < ps.length)
  (hbody : ∀ (cdv : Value) (A : Around) (outer : List Env) (s : Shared) (H : Hp) (E : XK), Room k (A.deeper (envOfC qual (aM st) s.heap.objs.size f cdv)) ->
   QSs (eI CX0 P w K mg base N qual (aM st) f cdv A outer s H E).nox U (f0E ps.length m) (bR st) fb) :
  FnOk P w K mg base CX0 (k + 1) f fd ps (SpE ps.length K U m (gE ps.length (N.length - ps.length) m fb)) := by with_unfolding_all exact L2.mD F S hm hbody
end
section
variable {X : Cx} {φ : F0} {U : tz9} {e : Expr} {es : List Expr} {as : List L2.Arg} {f : tz2} {pos p : Pos}
theorem cR : PA X [] (tIO X.K U []) := by with_unfolding_all exact L2.cR
theorem iM (j : Nat) {x : Str} (hr : PA X es (tIO X.K U as)) (hN : X.N[j]? = some x := by rfl) (hv : Vis X.env.scope x := by first | exact Or.inl rfl | exact Or.inr (Or.inl rfl) | exact Or.inr (Or.inr rfl)) (hd : (x == ("__debug__" : Str)) = false := by decide)
  (hcd : (x == ("__classdict__" : Str)) = false := by decide) (hs : starEach (.Name x pos :: es) X.env = (false, eval (.Name x pos) X.env) :: starEach es X.env := by rfl) : PA X (.Name x pos :: es) (tIO X.K U (.io j :: as)) := by with_unfolding_all exact L2.iM j hr hN hv hd hcd hs
theorem bC (ha : QV X U e f) (hr : PA X es (tIO X.K U as)) (hs : starEach (e :: es) X.env = (false, eval e X.env) :: starEach es X.env := by rfl) : PA X (e :: es) (tIO X.K U (.im f :: as)) := by with_unfolding_all exact L2.bC ha hr hs
theorem jW {x : Str} {st : Stmt} {ps : List Str} {fa : Addr} {fd : FuncData} {k np : Nat} {m : Nat -> Bool} {g : tz7} (Dd : Dn X.K X.mg x st ps fa fd) (G : FnOk X.prog X.w X.K X.mg X.base CX0 k fa fd ps (SpE np X.K U m g)) (hr : Room k X.A) (hg : Gl X x) (ha : PA X (e :: es) (tIO X.K U as))
  (hnp : np = as.length) (hm : m = kX as) (nd : (slots as).Nodup) (hb : ∀ j ∈ slots as, φ.bor j = false)
  (hdb : (x == ("__debug__" : Str)) = false := by decide) (he : starEach (e :: es) X.env = (false, eval e X.env) :: starEach es X.env := by rfl) (hpl : (backTo pos (starEach es X.env)).any (·.1) = false := by rfl) :
  QE X U φ (.Call (.Name x p) (e :: es) [] pos) (fIO as g) := by with_unfolding_all exact L2.jW Dd G hr hg ha hnp hm nd hb hdb he hpl
end
section
theorem hZ {X : Cx} {U : tz9} {es : List Expr} {ds : List D} (h : AreD es ds) : QPA X U es (fKs ds) := by with_unfolding_all exact L2.hZ h
end
section
variable {X : Cx} {U : tz9} {o e : Expr} {C fn : Str} {fo : tz2} {pos : Pos}
theorem dW (hc : Cls X.K (U C)) (hna : cH X.K (U C) fn) (ho : QV X U o fo) (hb : attributeBase o fn X.env (eval o X.env) = eval o X.env := by rfl) : QV X U (.Attribute o fn pos) (cL C fn fo) := by with_unfolding_all exact L2.dW hc hna ho hb
end
section
variable {X : Cx} {U : tz9} {φ : F0} {o e : Expr} {C fn : Str} {j : Nat} {pf : PSt -> Option (List Ps1)} {fe : tz2} {pos pos' : Pos}
theorem iG (hc : Cls X.K (U C)) (hna : cH X.K (U C) fn) (hb : φ.bor j = false) (he : PE X e (tP X.K U fe)) (ho : PE X o (gB X.K U j pf)) (hs : swapsWith e (some (.Attribute o fn pos')) pos.line X.env = pure false := by rfl) :
  QS X U φ (.Assign [.Attribute o fn pos'] e pos) (dE j pf C fn fe) := by with_unfolding_all exact L2.iG hc hna hb he ho hs
end
section
variable {X : Cx} {U : tz9} {o e : Expr} {es : List Expr} {C m qual : Str} {st : Stmt} {ps : List Str} {f : Addr} {fd : FuncData} {k np : Nat} {h : tz6} {fo : tz2} {g : tz3} {apos pos p : Pos} {pl : Sem Bool}
theorem wP (M : Mn X.K U C m qual st ps f fd) (G : FnOk X.prog X.w X.K X.mg X.base CX0 k f fd ps (SpP 1 X.K U h)) (hr : Room k X.A) (ho : QV X U o fo)
  (ht : eval (.Call (.Attribute o m apos) [] [] pos) X.env = (do
   let ov <- eval o X.env
   standAt apos.atName
   let (f, first) <- holding [ov] (getMethod ov m pl)
   callWith pos f first (backTo pos (starEach [] X.env)) (backToKw pos (keywordEach [] X.env))) := by rfl) :
  QP X U (.Call (.Attribute o m apos) [] [] pos) (aG h (aB (eS C m fo) aD)) := by with_unfolding_all exact L2.wP M G hr ho ht
end
section
variable {X : Cx} {U : tz9} {φ : F0} {o e : Expr} {es : List Expr} {C m qual : Str} {st : Stmt} {ps : List Str} {f : Addr} {fd : FuncData} {k np j : Nat} {mk : Nat -> Bool} {g : tz7} {pf : PSt -> Option (List Ps1)} {as : List L2.Arg} {apos pos p : Pos} {pl : Sem Bool}
theorem jO (M : Mn X.K U C m qual st ps f fd) (G : FnOk X.prog X.w X.K X.mg X.base CX0 k f fd ps (SpE np X.K U mk g)) (hr : Room k X.A) (hb : φ.bor j = false) (ho : PE X o (gB X.K U j pf)) (ha : PA X (e :: es) (tIO X.K U as)) (has : qU as = true) (hnp : np = as.length + 1) (hm : mk = jY)
  (hst : starEach (e :: es) X.env = (false, eval e X.env) :: starEach es X.env := by rfl) (hpl : (backTo pos (starEach es X.env)).any (·.1) = false := by rfl)
  (ht : eval (.Call (.Attribute o m apos) (e :: es) [] pos) X.env = (do
   let ov <- eval o X.env
   standAt apos.atName
   let (f, first) <- holding [ov] (getMethod ov m pl)
   callWith pos f first (backTo pos (starEach (e :: es) X.env)) (backToKw pos (keywordEach [] X.env))) := by rfl) :
  QE X U φ (.Call (.Attribute o m apos) (e :: es) [] pos) (bE j pf (aU as) (eO C m g)) := by with_unfolding_all exact L2.jO M G hr hb ho ha has hnp hm hst hpl ht
end
section
variable {X : Cx} {U : tz9} {e : Expr} {es : List Expr} {C qual : Str} {st : Stmt} {ps : List Str} {f : Addr} {fd : FuncData} {k np : Nat} {mk : Nat -> Bool} {g : tz7} {as : List L2.Arg} {pos p : Pos}
theorem nP (Kd : Kn X.K X.mg U C qual st ps f fd) (G : FnOk X.prog X.w X.K X.mg X.base CX0 k f fd ps (SpE np X.K U mk g)) (hr : Room (k + 1) X.A) (hg : Gl X C) (ha : PA X (e :: es) (tIO X.K U as)) (has : qU as = true) (hnp : np = as.length + 1) (hm : mk = jY)
  (hdb : (C == ("__debug__" : Str)) = false := by decide) (he : starEach (e :: es) X.env = (false, eval e X.env) :: starEach es X.env := by rfl) (hpl : (backTo pos (starEach es X.env)).any (·.1) = false := by rfl) :
  QP X U (.Call (.Name C p) (e :: es) [] pos) (dY C (aU as) g) := by with_unfolding_all exact L2.nP Kd G hr hg ha has hnp hm hdb he hpl
end
section
variable {X : Cx} {U : tz9}
theorem pR : MtR X "str.startswith" (PMt X.K U lY) := by with_unfolding_all exact L2.pR
end
section
theorem uB {X : Cx} {U : tz9} {e : Expr} {f : tz2} (h : QP X U e f) : QP X U e (oC f) := by with_unfolding_all exact L2.uB h
end
section
variable {X : Cx} {U : tz9}
theorem zO : MtR X "str.rfind" (PMt X.K U uO) := by with_unfolding_all exact L2.zO
end
section
variable {X : Cx} {U : tz9} {φ : F0} {a b : Expr} {pos : Pos}
theorem pJ {f : PSt -> Option (Bool × PSt)} (h : QTE X U φ a f) : QTE X U φ (.UnaryOp .Not a pos) (jL f) := by with_unfolding_all exact L2.pJ h
theorem nQ {f : tz8} (h : QE X U φ a f) (he : ∀ whole, isTrue a X.env whole = (do let v <- whole; standAt a.pos; holding [v] (truthy v)) := by intro _; rfl) : QTE X U φ a (fTE f) := by with_unfolding_all exact L2.nQ h he
theorem zh2 {op : CmpOp} {g : D -> D -> Option D} {fa : tz8} {fb : tz2} (ho : OpR X (compareOp op) (POp X.K U g)) (ha : QE X U φ a fa) (hb : QV X U b fb) (hm : behindInMarks op b = false) : QE X U φ (.Compare a [op] [b] pos) (fE2 g fa fb) := by with_unfolding_all exact L2.zh2 ho ha hb hm
end
section
variable {P : Program} {w : World} {K : tz0} {mg : tzA} {base : Heap} {U : tz9} {C : Addr}
theorem qL {x qual : Str} {st : Stmt} {f : Addr} {fd : FuncData} {N ps : List Str} {k : Nat} {fx : tz5} (F : Fun K x qual st f fd) (S : FnScope N ps (aM st))
  (hbody : ∀ (cdv : Value) (A : Around) (outer : List Env) (s : Shared) (H : Hp) (E : XK) (B : Nat -> Addr -> Prop), Room k (A.deeper (envOfC qual (aM st) s.heap.objs.size f cdv)) ->
   QXs (eI (CXn P w base C) P w K mg base N qual (aM st) f cdv A outer s H E) U (f0P ps.length B) (E (.ref C) none) (bR st) fx) :
  FnOk P w K mg base (CXn P w base C) (k + 1) f fd ps (rD ps.length K U C (gX ps.length (N.length - ps.length) fx)) := by with_unfolding_all exact L2.qL F S hbody
end
section
variable {X : Cx} {U : tz9} {φ : F0} {Ex : Hp -> Prop} {fx : tz5} {st : Stmt} {rest : List Stmt} {pos : Pos}
theorem lL {f : tz1} (h1 : QS X.nox U φ st f) (h2 : QXs X U φ Ex rest fx) : QXs X U φ Ex (st :: rest) (iU f fx) := by with_unfolding_all exact L2.lL h1 h2
theorem fO (h1 : QX X U φ Ex st fx) : QXs X U φ Ex (st :: rest) fx := by with_unfolding_all exact L2.fO h1
theorem sH {c : Expr} {a b : List Stmt} {ft : tz4} (hc : QT X.nox U c ft) (ha : QXs X U φ Ex a fx) : QX X U φ Ex (.If c a b pos) (rE ft fx) := by with_unfolding_all exact L2.sH hc ha
end
section
variable {P : Program} {w : World} {K : tz0} {mg : tzA} {base : Heap} {N : List Str} {qual : Str} {scope : Scope} {f C : Addr} {cd : Value} {A : Around} {outer : List Env} {s : Shared} {H : Hp} {E : XK} {U : tz9} {φ : F0}
theorem pS {x z : Str} {np cpos pos p1 : Pos} {j : Nat} {B newId initId : String} {bmB : List Value} (O : OwnCls x C bmB newId mg base) (FB : ExcBaseFacts B newId initId bmB) (hg : Gl (eI (CXn P w base C) P w K mg base N qual scope f cd A outer s H E) x)
  (hd : (x == ("__debug__" : Str)) = false := by decide) (hs : starEach [.Constant (.str z) j p1] (envOfC qual scope s.heap.objs.size f cd) = [(false, eval (.Constant (.str z) j p1) (envOfC qual scope s.heap.objs.size f cd))] := by rfl) :
  QX (eI (CXn P w base C) P w K mg base N qual scope f cd A outer s H E) U φ (E (.ref C) none) (.Raise (some (.Call (.Name x np) [.Constant (.str z) j p1] [] cpos)) none pos) yR := by with_unfolding_all exact L2.pS O FB hg hd hs
theorem zR {Cn m qual' : Str} {st : Stmt} {ps : List Str} {fm : Addr} {fd : FuncData} {k : Nat} {g : List D -> Bool} {o : Expr} {fo : tz2} {apos pos pos' : Pos} {pl : Sem Bool} (M : Mn K U Cn m qual' st ps fm fd) (G : FnOk P w K mg base (CXn P w base C) k fm fd ps (rD 1 K U C g))
  (hr : Room k (A.deeper (envOfC qual scope s.heap.objs.size f cd))) (ho : QV (eI (CXn P w base C) P w K mg base N qual scope f cd A outer s H E).nox U o fo)
  (ht : eval (.Call (.Attribute o m apos) [] [] pos) (envOfC qual scope s.heap.objs.size f cd) = (do
   let ov <- eval o (envOfC qual scope s.heap.objs.size f cd)
   standAt apos.atName
   let (f', first) <- holding [ov] (getMethod ov m pl)
   callWith pos f' first (backTo pos (starEach [] (envOfC qual scope s.heap.objs.size f cd))) (backToKw pos (keywordEach [] (envOfC qual scope s.heap.objs.size f cd)))) := by rfl) :
  QX (eI (CXn P w base C) P w K mg base N qual scope f cd A outer s H E) U φ (E (.ref C) none) (.Return (some (.Call (.Attribute o m apos) [] [] pos)) pos') (vQ Cn m fo g) := by with_unfolding_all exact L2.zR M G hr ho ht
end
section
variable {X : Cx} {C : Addr} {U : tz9} {φ : F0}
theorem zh3 {x cx : Str} {st : Stmt} {ps : List Str} {fa : Addr} {fd : FuncData} {k np : Nat} {g : List D -> Bool} {e : Expr} {es : List Expr} {ga : tz3} {p pos pos2 np' p3 p4 p5 pos6 : Pos} {j : Nat} {bmB : List Value} {newId : String}
  (Dd : Dn X.K X.mg x st ps fa fd) (G : FnOk X.prog X.w X.K X.mg X.base (CXn X.prog X.w X.base C) k fa fd ps (rD np X.K U C g)) (O : OwnCls cx C bmB newId X.mg X.base) (hbase : bmB.contains (.type "BaseException") = true) (hr : Room k X.A) (hg : Gl X x) (hgc : Gl X cx) (hnp : (e :: es).length = np) (ha : QVA X.nox U (e :: es) ga) (hlen : ∀ ps ds, ga ps = some ds -> ds.length = (e :: es).length)
  (hstk : X.stack = X.env :: X.outer) (hf : X.env.frame = some X.env.locals)
  (hdb : (x == ("__debug__" : Str)) = false := by decide) (hdc : (cx == ("__debug__" : Str)) = false := by decide) (he : starEach (e :: es) X.env = (false, eval e X.env) :: starEach es X.env := by rfl) (hpl : (backTo pos (starEach es X.env)).any (·.1) = false := by rfl)
  (hs : swapsWith (.Call (.Name x p) (e :: es) [] pos) none pos2.line X.env = pure false := by rfl) :
  QS X.nox U φ (.Try [.Expr (.Call (.Name x p) (e :: es) [] pos) pos2] [.ExceptHandler (some (.Name cx np')) none [.Return (some (.Constant (.bool true) j p3)) p4] p5] [] [] pos6) (zk4 g ga) := by with_unfolding_all exact L2.zh3 Dd G O hbase hr hg hgc hnp ha hlen hstk hf hdb hdc he hpl hs
end
section
variable {P : Program} {w : World} {K : tz0} {mg : tzA} {base : Heap} {U : tz9} {C : Addr}
theorem mP {x qual : Str} {st : Stmt} {f : Addr} {fd : FuncData} {N ps : List Str} {k : Nat} {fx : tz5} {m : Nat -> Bool} (F : Fun K x qual st f fd) (S : FnScope N ps (aM st))
  (hbody : ∀ (cdv : Value) (A : Around) (outer : List Env) (s : Shared) (H : Hp) (E : XK), Room k (A.deeper (envOfC qual (aM st) s.heap.objs.size f cdv)) ->
   QXs (eI (CXn P w base C) P w K mg base N qual (aM st) f cdv A outer s H E) U (f0E ps.length m) (E (.ref C) none) (bR st) fx) :
  FnOk P w K mg base (CXn P w base C) (k + 1) f fd ps (lV ps.length K U m C (gX ps.length (N.length - ps.length) fx)) := by with_unfolding_all exact L2.mP F S hbody
end
section
variable {X : Cx} {U : tz9} {φ : F0} {Ex : Hp -> Prop} {fx fy : tz5} {st : Stmt} {rest l : List Stmt} {pos : Pos}
theorem pT {f : tz1} (h1 : QX X U φ Ex st fx) (hs : QS X.nox U φ st f) (h2 : QXs X U φ Ex rest fy) : QXs X U φ Ex (st :: rest) (rF fx (iU f fy)) := by with_unfolding_all exact L2.pT h1 hs h2
theorem zh4 {c : Expr} {a b : List Stmt} {ft : tz4} (hc : QT X.nox U c ft) (ha : QXs X U φ Ex a fx) (hb : QXs X U φ Ex b fy) : QX X U φ Ex (.If c a b pos) (pH ft fx fy) := by with_unfolding_all exact L2.zh4 hc ha hb
theorem pK {e : Expr} (he : QXe X U φ Ex e fx) (hs : swapsWith e none pos.line X.env = pure false := by rfl) : QX X U φ Ex (.Expr e pos) fx := by with_unfolding_all exact L2.pK he hs
theorem zh5 (i : Nat) {x : Str} {e : Expr} {pos' : Pos} (hN : X.N.Nodup) (hi : X.N[i]? = some x) (hx : Loc X.env.scope x) (he : QXe X U φ Ex e fx) (hs : swapsWith e (some (.Name x pos')) pos.line X.env = pure false := by rfl) (hf : X.fn x = true \/ X.env.scope.names.lookup x = some .local := by first | exact .inl rfl | exact .inr rfl | assumption) :
  QX X U φ Ex (.Assign [.Name x pos'] e pos) fx := by with_unfolding_all exact L2.zh5 i hN hi hx he hs hf
theorem zS (i j : Nat) {body : List Stmt} {f : tz1} {x y : Str} {px py : Pos} (hp : PassesOwn (model X.prog X.w) X.A X.env X.xe) (hc : X.calm = true) (hN : X.N.Nodup) (hi : X.N[i]? = some x) (hx : Loc X.env.scope x) (hb : φ.bor i = false) (hm : φ.M i = false) (hj : φ.bor j = true)
  (hbd : QSs X.nox U φ body f) (hbx : QXs X U φ Ex body fx) (hNj : X.N[j]? = some y := by rfl) (hv : Vis X.env.scope y := by first | exact Or.inl rfl | exact Or.inr (Or.inl rfl) | exact Or.inr (Or.inr rfl)) (hd : (y == ("__debug__" : Str)) = false := by decide)
  (hcd : (y == ("__classdict__" : Str)) = false := by decide) (hs : ∀ x, foldedSetIterable (.Name y py) X.env x = pure x := by intro _; rfl) (hf : X.fn x = true \/ X.env.scope.names.lookup x = some .local := by first | exact .inl rfl | exact .inr rfl | assumption) :
  QX X U φ Ex (.For (.Name x px) (.Name y py) body [] pos) (ze3 i (gA (aA j)) f fx) := by with_unfolding_all exact L2.zS i j hp hc hN hi hx hb hm hj hbd hbx hNj hv hd hcd hs hf
end
section
variable {P : Program} {w : World} {K : tz0} {mg : tzA} {base : Heap} {N : List Str} {qual : Str} {scope : Scope} {f C : Addr} {cd : Value} {A : Around} {outer : List Env} {s : Shared} {H : Hp} {E : XK} {U : tz9} {φ : F0}
theorem nR {Cn m qual' : Str} {st : Stmt} {ps : List Str} {fm : Addr} {fd : FuncData} {k np j : Nat} {mk : Nat -> Bool} {g : List D -> Bool} {o e : Expr} {es : List Expr} {as : List L2.Arg} {pf : PSt -> Option (List Ps1)} {apos pos : Pos} {pl : Sem Bool} (M : Mn K U Cn m qual' st ps fm fd) (G : FnOk P w K mg base (CXn P w base C) k fm fd ps (lV np K U mk C g))
  (hr : Room k (A.deeper (envOfC qual scope s.heap.objs.size f cd))) (hb : φ.bor j = false) (ho : PE (eI (CXn P w base C) P w K mg base N qual scope f cd A outer s H E).nox o (gB K U j pf)) (ha : PA (eI (CXn P w base C) P w K mg base N qual scope f cd A outer s H E).nox (e :: es) (tIO K U as)) (has : qU as = true) (hnp : np = as.length + 1) (hm : mk = jY)
  (hst : starEach (e :: es) (envOfC qual scope s.heap.objs.size f cd) = (false, eval e (envOfC qual scope s.heap.objs.size f cd)) :: starEach es (envOfC qual scope s.heap.objs.size f cd) := by rfl) (hpl : (backTo pos (starEach es (envOfC qual scope s.heap.objs.size f cd))).any (·.1) = false := by rfl)
  (ht : eval (.Call (.Attribute o m apos) (e :: es) [] pos) (envOfC qual scope s.heap.objs.size f cd) = (do
   let ov <- eval o (envOfC qual scope s.heap.objs.size f cd)
   standAt apos.atName
   let (f', first) <- holding [ov] (getMethod ov m pl)
   callWith pos f' first (backTo pos (starEach (e :: es) (envOfC qual scope s.heap.objs.size f cd))) (backToKw pos (keywordEach [] (envOfC qual scope s.heap.objs.size f cd)))) := by rfl) :
  QXe (eI (CXn P w base C) P w K mg base N qual scope f cd A outer s H E) U φ (E (.ref C) none) (.Call (.Attribute o m apos) (e :: es) [] pos) (lS j pf (aU as) (kD Cn m g)) := by with_unfolding_all exact L2.nR M G hr hb ho ha has hnp hm hst hpl ht
end
section
variable {X : Cx} {U : tz9} {es : List Expr} {fs : List (tz2)}
theorem xT {a : Expr} {f : tz2} {p : Pos} (ha : PE X a (tV X.K U f)) (hr : PJ X U es fs) : PJ X U (.FormattedValue a (-1) none p :: es) (f :: fs) := by with_unfolding_all exact L2.xT ha hr
end
section
variable {P : Program} {w : World} {K : tz0} {mg : tzA} {base : Heap} {N : List Str} {qual : Str} {scope : Scope} {f C : Addr} {cd : Value} {A : Around} {outer : List Env} {s : Shared} {H : Hp} {E : XK} {U : tz9} {φ : F0}
theorem uC {x : Str} {np cpos pos p1 : Pos} {v1 v2 : Expr} {rest : List Expr} {fs : List (tz2)} {B newId initId : String} {bmB : List Value} (O : OwnCls x C bmB newId mg base) (FB : ExcBaseFacts B newId initId bmB) (hg : Gl (eI (CXn P w base C) P w K mg base N qual scope f cd A outer s H E) x)
  (hj : PJ (eI (CXn P w base C) P w K mg base N qual scope f cd A outer s H E).nox U (v1 :: v2 :: rest) fs) (hln : decide ((v1 :: v2 :: rest).length <= 100) = true := by decide +kernel)
  (hd : (x == ("__debug__" : Str)) = false := by decide) (hs : starEach [.JoinedStr (v1 :: v2 :: rest) p1] (envOfC qual scope s.heap.objs.size f cd) = [(false, eval (.JoinedStr (v1 :: v2 :: rest) p1) (envOfC qual scope s.heap.objs.size f cd))] := by rfl) :
  QX (eI (CXn P w base C) P w K mg base N qual scope f cd A outer s H E) U φ (E (.ref C) none) (.Raise (some (.Call (.Name x np) [.JoinedStr (v1 :: v2 :: rest) p1] [] cpos)) none pos) (yS fs) := by with_unfolding_all exact L2.uC O FB hg hj hln hd hs
end
end L3
namespace L3
open PySem PySem.Spec PyProof.Rows L2
noncomputable def top (i : Nat) : Stmt := PySem.Challenge.pw_linepress_k11_set_by_choices.main.body.getD i (.Pass ⟨0, 0, 0, 0⟩)
end L3
namespace My
open PySem PySem.Spec PyProof.Rows L2 L3
variable {P : Program} {w : World} {K : tz0} {mg : tzA} {base : Heap} {U : tz9}
inductive Leaf where
 | word (x : Str) | gap (x : Str) | stop (c : Int) | fin
inductive Tk where
 | leaf (l : Leaf) | opn | cls | hng (n : Int) | bck | eit | orr | don
inductive Pc where
 | leaf (l : Leaf) | group (r : List Pc) | hang (n : Int) (r : List Pc) | either (rs : List (List Pc))
mutual
noncomputable def dH : Pc -> List Tk
 | .leaf l => [.leaf l]
 | .group r => .opn :: (bO r ++ [.cls])
 | .hang n r => .hng n :: (bO r ++ [.bck])
 | .either rs => .eit :: (oE rs ++ [.don])
noncomputable def bO : List Pc -> List Tk
 | [] => []
 | p :: r => dH p ++ bO r
noncomputable def oE : List (List Pc) -> List Tk
 | [] => []
 | r :: rs => bO r ++ eK rs
noncomputable def eK : List (List Pc) -> List Tk
 | [] => []
 | r :: rs => .orr :: (bO r ++ eK rs)
end
theorem pU : ∀ r s : List Pc, bO (r ++ s) = bO r ++ bO s
 | [], s => rfl
 | p :: r, s => by
  show dH p ++ bO (r ++ s) = (dH p ++ bO r) ++ bO s
  rw [pU r s, List.append_assoc]
theorem zy1 (p : Pc) : bO [p] = dH p := by
 show dH p ++ [] = dH p
 rw [List.append_nil]
structure Fm where
 op : Option Tk
 full : List (List Pc)
 parts : List Pc
mutual
noncomputable def fK : Pc -> Nat
 | .leaf _ => 0
 | .group r => cT r + 1
 | .hang _ r => cT r + 1
 | .either rs => kL rs + 1
noncomputable def cT : List Pc -> Nat
 | [] => 0
 | p :: r => max (fK p) (cT r)
noncomputable def kL : List (List Pc) -> Nat
 | [] => 0
 | r :: rs => max (cT r) (kL rs)
end
theorem uD : ∀ (r : List Pc) (p : Pc), cT (r ++ [p]) = max (cT r) (fK p)
 | [], p => by
  exact Nat.max_comm (fK p) 0
 | q :: r, p => by
  show max (fK q) (cT (r ++ [p])) = max (max (fK q) (cT r)) (fK p)
  rw [uD r p, Nat.max_assoc]
theorem sI : ∀ (rs : List (List Pc)) (r : List Pc), kL (rs ++ [r]) = max (kL rs) (cT r)
 | [], r => by
  exact Nat.max_comm (cT r) 0
 | q :: rs, r => by
  show max (cT q) (kL (rs ++ [r])) = max (max (cT q) (kL rs)) (cT r)
  rw [sI rs r, Nat.max_assoc]
noncomputable def vR (c : Nat) : Bool := decide (33 <= c) && decide (c <= 126)
noncomputable def zk5 (z : Str) : Prop := 1 <= z.length /\ z.length <= 12 /\ z.cps.toList.all vR = true
noncomputable def jC : Leaf -> Prop
 | .word x => zk5 x
 | .gap x => x = "" \/ x = " "
 | .stop c => 0 <= c /\ c <= 40
 | .fin => True
end My
namespace My
open PySem PySem.Spec PyProof.Rows L2 L3
variable {P : Program} {w : World} {K : tz0} {mg : tzA} {base : Heap} {U : tz9}
noncomputable def oQ (ns : List Int) (k : Int) : Int := ns.getD (k % (ns.length : Int)).toNat 0
noncomputable def yT (ns : List Int) (k : Int) : Int := k / (if (ns.length : Int) > 1 then (ns.length : Int) else 1)
noncomputable def ys8 (ns : List Int) (k salt : Int) : Int := PySem.Builtin.bitAnd (oQ ns k) 2147483647 + 1009 * k * k + 7919 * salt * salt + 12
noncomputable def vS (ns : List Int) (k salt : Int) : Int := ys8 ns k salt * 48271 % 2147483647
noncomputable def yi2 (ns : List Int) (k salt : Int) : Int := vS ns k salt * vS ns k salt % 2147483629
noncomputable def sY (ns : List Int) (k salt : Int) : Int := PySem.Builtin.bitAnd (oQ ns k / 2 ^ (31 * (salt + 128 * yT ns k)).toNat + yi2 ns k salt) 2147483647
theorem zl5 (ns : List Int) (k salt : Int) : 0 <= sY ns k salt /\ sY ns k salt < 2147483648 := by
 have e : sY ns k salt = (oQ ns k / 2 ^ (31 * (salt + 128 * yT ns k)).toNat + yi2 ns k salt) % 2147483648 := PySem.W.kbt_mask _ 31
 rw [e]
 exact ⟨Int.emod_nonneg _ (by decide), Int.emod_lt_of_pos _ (by decide)⟩
noncomputable def zk6 (K : tz0) : Sp := fun vs H Q _ => ∃ (a : Addr) (ns : List Int) (k : Int), vs = [.ref a, .int k] /\ SqL K H a (ns.map V.int) /\ Q (.int (oQ ns k)) H
noncomputable def zp1 (K : tz0) : Sp := fun vs H Q _ => ∃ (a : Addr) (ns : List Int) (k salt : Int), vs = [.ref a, .int k, .int salt] /\ SqL K H a (ns.map V.int) /\ ns.length <= 63 /\ (0 <= k /\ k < 1000000) /\ (0 <= salt /\ salt < 1000000) /\ Q (.int (sY ns k salt)) H
noncomputable abbrev gS : Stmt := top 18
theorem zh7 : FnScope ["_law_script", "_law_k"] ["_law_script", "_law_k"] (aM gS) := ⟨rfl, rfl, rfl, by decide +kernel, rfl, by decide +kernel, by decide +kernel⟩
theorem zh8 {n : Nat} {f : Addr} {fd : FuncData} (D : Dn K mg "_law_cell_at" gS ["_law_script", "_law_k"] f fd) (z_len : mg "len" = none) :
  FnOk P w K mg base CX0 (n + 1) f fd ["_law_script", "_law_k"] (zk6 K) := by
 refine D.F.ok zh7 (fun vs H Q E h => ?_) (fun cdv A outer s H vs Q E hr h => ?_)
 ·obtain ⟨a, ns, k, rfl, _⟩ := h
  rfl
 obtain ⟨a, ns, k, rfl, hS, q⟩ := h
 refine ⟨_, (jT (zd3 (zm8 zp8 (pP jN rfl z_len boot_len (gG (pv 0) mW)) iK (bX _)) (uW (rJ iK)) zm1)
  (uW (rJ (zd4 zC (pv 0) (gM xF (pv 1) (pP jN rfl z_len boot_len (gG (pv 0) mW))) (fun _ _ => rfl))))), ?_⟩
 have hl : (ns.map V.int).length = ns.length := List.length_map _
 refine ⟨_, rfl, a, _, rfl, .inl hS, rfl, _, rfl, ?_⟩
 refine yw0 (fun c => ?_) (fun c => ?_)
 ·have e : (((ns.map V.int).length : Nat) : Int) = 0 := by simpa using c
  have e' : ns = [] := by
   rw [hl] at e
   exact List.eq_nil_of_length_eq_zero (by omega)
  subst e'
  exact q
 ·have e : ¬ (((ns.map V.int).length : Nat) : Int) = 0 := by simpa using c
  rw [hl] at e
  have hp : (0 : Int) < ((ns.map V.int).length : Nat) := by rw [hl]; omega
  refine ⟨_, rfl, _, rfl, _, rfl, a, _, rfl, .inl hS, _, _, rfl, rfl, hp, a, _, _, _, rfl, rfl, hS, ?_, q⟩
  rw [hl]
  have h0 := Int.emod_nonneg k e
  have h1 := Int.emod_lt_of_pos k (show (0 : Int) < ns.length by omega)
  have ek : k % (ns.length : Int) = (((k % (ns.length : Int)).toNat : Nat) : Int) := by omega
  rw [ek]
  refine zB ?_
  rw [List.getElem?_map, List.getElem?_eq_getElem (by omega)]
  unfold oQ
  rw [List.getD_eq_getElem?_getD, List.getElem?_eq_getElem (by omega)]
  rfl
noncomputable abbrev iB : Stmt := top 19
theorem lM : FnScope ["_law_script", "_law_k", "_law_salt", "_law_cell", "_law_lap", "_law_near"] ["_law_script", "_law_k", "_law_salt"] (aM iB) := ⟨rfl, rfl, rfl, by decide +kernel, rfl, by decide +kernel, by decide +kernel⟩
theorem zs3 {n : Nat} {f f1 : Addr} {fd fd1 : FuncData} (D : Dn K mg "_law_mixed" iB ["_law_script", "_law_k", "_law_salt"] f fd) (D_l_cell_at : Dn K mg "_law_cell_at" gS ["_law_script", "_law_k"] f1 fd1)
  (G_l_cell_at : FnOk P w K mg base CX0 n f1 fd1 ["_law_script", "_law_k"] (zk6 K)) (z_len : mg "len" = none) (z_max : mg "max" = none) :
  FnOk P w K mg base CX0 (n + 1) f fd ["_law_script", "_law_k", "_law_salt"] (zp1 K) := by
 refine D.F.ok lM (fun vs H Q E h => ?_) (fun cdv A outer s H vs Q E hr h => ?_)
 ·obtain ⟨a, ns, k, salt, rfl, _⟩ := h
  rfl
 obtain ⟨a, ns, k, salt, rfl, hS, h63, ⟨hk0, hk1⟩, ⟨hs0, hs1⟩, q⟩ := h
 refine ⟨_, (jT (pN (i := 3) lM.nd rfl (.inl rfl) (zq9 D_l_cell_at G_l_cell_at hr rfl (gG (pv 0) (gG (pv 1) mW))))
  (jT (pN (i := 4) lM.nd rfl (.inl rfl) (gM zm3 (pv 1) (pP (zv6 rfl) rfl z_max boot_max (gG iK (gG (pP jN rfl z_len boot_len (gG (pv 0) mW)) mW)))))
  (jT (pN (i := 5) lM.nd rfl (.inl rfl) (gM rK (gM rK (gM rK (gM zv4 (pv 3) iK) (gM mV (gM mV iK (pv 1)) (pv 1))) (gM mV (gM mV iK (pv 2)) (pv 2))) iK))
  (jT (pN (i := 5) lM.nd rfl (.inl rfl) (gM xF (gM mV (pv 5) iK) iK))
  (jT (pN (i := 5) lM.nd rfl (.inl rfl) (gM xF (gM mV (pv 5) (pv 5)) iK))
  (uW (rJ (gM zv4 (gM rK (gM yn6 (pv 3) (gM mV iK (gM rK (pv 2) (gM mV iK (pv 4))))) (pv 5)) iK)))))))), ?_⟩
 have hl : (ns.map V.int).length = ns.length := List.length_map _
 have hlap : 0 <= yT ns k := by unfold yT; exact Int.ediv_nonneg hk0 (by split <;> omega)
 have hn1 : 0 <= vS ns k salt /\ vS ns k salt < 2147483647 := ⟨Int.emod_nonneg _ (by decide), Int.emod_lt_of_pos _ (by decide)⟩
 refine ⟨_, rfl, _, rfl, a, ns, k, rfl, hS, ?_⟩
 refine ⟨_, rfl, _, rfl, a, _, rfl, .inl hS, _, _, rfl, _, _, rfl, rfl, ?_, ?_⟩
 ·rw [hl]; constructor
  ·split <;> omega
  ·split <;> omega
 rw [hl]
 refine ⟨_, rfl, _, _, rfl, rfl, _, rfl, _, _, rfl, rfl, .inl ⟨by decide, by decide⟩, _, rfl, _, _, rfl, rfl, .inr ⟨by omega, by omega⟩, _, _, rfl, rfl, _, rfl, _, _, rfl, rfl, .inl ⟨by decide, by decide⟩, _, rfl, _, _, rfl, rfl, .inr ⟨by omega, by omega⟩, _, _, rfl, rfl, _, _, rfl, rfl, ?_⟩
 refine ⟨_, rfl, _, _, rfl, rfl, .inr ⟨by decide, by decide⟩, _, _, rfl, rfl, (by show (0 : Int) < 2147483647; decide), ?_⟩
 refine ⟨_, rfl, _, rfl, _, _, rfl, rfl, .inl ⟨by show -(2 ^ 64) < vS ns k salt; omega, by show vS ns k salt < 2 ^ 64; omega⟩, _, _, rfl, rfl, (by show (0 : Int) < 2147483629; decide), ?_⟩
 refine ⟨_, rfl, _, rfl, _, rfl, _, _, rfl, rfl, .inl ⟨by decide, by decide⟩, _, _, rfl, rfl, _, _, rfl, rfl, .inl ⟨by decide, by decide⟩, _, _, rfl, rfl, ?_, _, rfl, _, _, rfl, rfl, _, _, rfl, rfl, q⟩
 show 0 <= 31 * (salt + 128 * yT ns k)
 omega
end My
namespace L3
open PySem PySem.Spec PyProof.Rows L2 My
variable {P : Program} {w : World} {K : tz0} {mg : tzA} {base : Heap} {U : tz9}
noncomputable def qC (g_Place_init : (tz7)) : tz1 :=
 (bJ (aE (oC (dY "Place" (aU [.im (fC (.bl true)), .im (fC (.int 0))]) g_Place_init))))
noncomputable abbrev eU : Stmt := top 6
theorem wR : FnScope [] [] (aM eU) := ⟨rfl, rfl, rfl, by decide +kernel, rfl, by decide +kernel, by decide +kernel⟩
theorem wS {n : Nat} {f : Addr} {fd : FuncData} {g_Place_init : (tz7)} {f_Place_init : Addr} {fd_Place_init : FuncData} (D_p_first_place : Dn K mg "first_place" eU [] f fd)
  (K_Place : Kn K mg U "Place" "Place.__init__" fV ["self", "broken", "margin"] f_Place_init fd_Place_init) (G_Place_init : FnOk P w K mg base CX0 n f_Place_init fd_Place_init ["self", "broken", "margin"] (SpE 3 K U (aZ [true, false, false]) g_Place_init)) :
  FnOk P w K mg base CX0 ((n + 1) + 1) f fd [] (SpP 0 K U (gP 0 0 (qC g_Place_init))) :=
 eW D_p_first_place.F wR fun cdv A outer s H E B hr =>
 (aS (cP (QP.e (uB (nP K_Place G_Place_init hr rfl (bC (QP.v iW) (bC (QP.v aH) cR)) rfl rfl (dM 2))))))
noncomputable def qV  : tz1 :=
 (bJ (aE (f2 dIn (f2 dIx (aA 0) (fC (.int 0))) (fC (.tup [(.str "group"), (.str "hang"), (.str "either")])))))
noncomputable abbrev fE : Stmt := top 7
theorem xU : FnScope ["piece"] ["piece"] (aM fE) := ⟨rfl, rfl, rfl, by decide +kernel, rfl, by decide +kernel, by decide +kernel⟩
theorem xV {n : Nat} {f : Addr} {fd : FuncData} {a_HOLDERS : Addr} (D_p_holds_rows : Dn K mg "holds_rows" fE ["piece"] f fd)
  (g_HOLDERS : mg "HOLDERS" = some (.ref a_HOLDERS)) (k_HOLDERS : ∀ H, Rep K U H (.ref a_HOLDERS) (.tup [(.str "group"), (.str "hang"), (.str "either")]) []) :
  FnOk P w K mg base CX0 (n + 1) f fd ["piece"] (SpP 1 K U (gP 1 0 (qV ))) :=
 eW D_p_holds_rows.F xU fun cdv A outer s H E B hr =>
 (aS (cP (QP.e (rL yd3 (bK (aC 0) (QP.v aH)) (QP.v (zE (v := .ref a_HOLDERS) (d := (.tup [(.str "group"), (.str "hang"), (.str "either")])) rfl g_HOLDERS rfl k_HOLDERS)) (by with_unfolding_all rfl)))))
noncomputable def pC  : tz1 :=
 (bJ (aE (fOr (f2 dEq (f2 dIx (aA 0) (fC (.int 0))) (fC (.str "either"))) (sT (f2 dEq (f2 dIx (aA 0) (fC (.int 0))) (fC (.str "group"))) (aX (cL "Place" "broken" (aA 1)))))))
noncomputable abbrev eR : Stmt := top 8
theorem vY : FnScope ["piece", "place"] ["piece", "place"] (aM eR) := ⟨rfl, rfl, rfl, by decide +kernel, rfl, by decide +kernel, by decide +kernel⟩
theorem vZ {n : Nat} {f : Addr} {fd : FuncData}  (D_p_takes_choice : Dn K mg "takes_choice" eR ["piece", "place"] f fd)
  (cl_Place : Cls K (U "Place"))
  (na_broken : cH K (U "Place") "broken") :
  FnOk P w K mg base CX0 (n + 1) f fd ["piece", "place"] (SpP 2 K U (gP 2 0 (pC ))) :=
 eW D_p_takes_choice.F vY fun cdv A outer s H E B hr =>
 (aS (cP (QP.e (zr4 (rL (fW (Room.units hr)) (bK (aC 0) (QP.v aH)) (QP.v cC) (bX _)) (xL (zf8 (rL (fW (Room.units hr)) (bK (aC 0) (QP.v aH)) (QP.v cC) (bX _)) (xL (QV.p (dW (C := "Place") cl_Place na_broken (aC 1))))))))))
noncomputable def kY (g_Place_init : (tz7)) : tz1 :=
 (aK (aR 2 (aE (aX (f2 dIx (aA 0) (fC (.int 0))))))
 (aK (fIf (aI (fB (f2 dEq (aA 2) (fC (.str "hang")))))
  (bJ (aE (bL (aB (cU (aB (aX (f2 dIx (aA 0) (fC (.int 2)))) (aB (oC (dY "Place" (aU [.im (cL "Place" "broken" (aA 1)), .im (f2 bG (cL "Place" "margin" (aA 1)) (f2 dIx (aA 0) (fC (.int 1))))]) g_Place_init)) aD))) aD))))
  aY)
 (aK (fIf (aI (fB (f2 dEq (aA 2) (fC (.str "either")))))
  (bJ (aE (yP [none, some 1] (gA (f2 dIx (aA 0) (fC (.int 1)))) xB (cU (aB (aX (aA 0)) (aB (aX (aA 1)) aD))))))
  aY)
 (aK (aR 3 (aE (cU (aB (aX (f2 dIx (aA 0) (fC (.int 1)))) (aB (oC (dY "Place" (aU [.im (fC (.bl false)), .im (cL "Place" "margin" (aA 1))]) g_Place_init)) aD)))))
 (aK (fIf (aI (fT (cL "Place" "broken" (aA 1))))
  (bJ (aE (bL (aB (aX (aA 3)) (aB (cU (aB (aX (f2 dIx (aA 0) (fC (.int 1)))) (aB (aX (aA 1)) aD))) aD)))))
  aY)
 (bJ (aE (bL (aB (aX (aA 3)) aD)))))))))
noncomputable abbrev jD : Stmt := top 9
theorem uE : FnScope ["piece", "place", "kind", "on_one_line"] ["piece", "place"] (aM jD) := ⟨rfl, rfl, rfl, by decide +kernel, rfl, by decide +kernel, by decide +kernel⟩
theorem zy2 {n : Nat} {f : Addr} {fd : FuncData} {g_Place_init : (tz7)} {f_Place_init : Addr} {fd_Place_init : FuncData} (D_p_ways : Dn K mg "ways" jD ["piece", "place"] f fd)
  (K_Place : Kn K mg U "Place" "Place.__init__" fV ["self", "broken", "margin"] f_Place_init fd_Place_init) (G_Place_init : FnOk P w K mg base CX0 n f_Place_init fd_Place_init ["self", "broken", "margin"] (SpE 3 K U (aZ [true, false, false]) g_Place_init))
  (cl_Place : Cls K (U "Place"))
  (na_broken : cH K (U "Place") "broken")
  (na_margin : cH K (U "Place") "margin") :
  FnOk P w K mg base CX0 ((n + 1) + 1) f fd ["piece", "place"] (SpP 2 K U (gP 2 2 (kY g_Place_init))) :=
 eW D_p_ways.F uE fun cdv A outer s H E B hr =>
 (aO (bY 2 uE.nd rfl (.inl rfl) rfl rfl (QP.e (QV.p (bK (aC 0) (QP.v aH)))))
 (aO (cO (QT.e (cB (fW (Room.units hr)) (aC 2) (QP.v cC) (bX _)))
  (aS (cP (QP.e (dR (aW (gD (aW (QV.p (bK (aC 0) (QP.v aH))) (aW (uB (nP K_Place G_Place_init hr rfl (bC (dW (C := "Place") cl_Place na_broken (aC 1)) (bC (QP.v (bS fQ (dW (C := "Place") cl_Place na_margin (aC 1)) (bK (aC 0) (QP.v aH)))) cR)) rfl rfl (dM 2))) bQ))) bQ)))))
  bZ)
 (aO (cO (QT.e (cB (fW (Room.units hr)) (aC 2) (QP.v cC) (bX _)))
  (aS (cP (QP.e (zK (sc := aM jD) (NX := ["piece", "place", "kind", "on_one_line"]) (N := ["row", "place"]) (pick := [none, some 1]) ⟨rfl, by decide +kernel, by decide +kernel, by decide +kernel, by decide +kernel, by decide, rfl⟩ rfl rfl rfl (zg3 (bK (aC 0) (QP.v aH))) (fun _ _ _ _ => (kE (i := 0) (show (["row", "place"] : List Str).Nodup by decide) rfl (.inl rfl))) (fun _ _ _ _ => zJ) (fun _ _ _ _ => (gD (aW (QV.p (aC 0)) (aW (QV.p (aC 1)) bQ))))))))
  bZ)
 (aO (bY 3 uE.nd rfl (.inl rfl) rfl rfl (QP.e (gD (aW (QV.p (bK (aC 0) (QP.v aH))) (aW (uB (nP K_Place G_Place_init hr rfl (bC (QP.v iW) (bC (dW (C := "Place") cl_Place na_margin (aC 1)) cR)) rfl rfl (dM 2))) bQ)))))
 (aO (cO (QT.e (fG (dW (C := "Place") cl_Place na_broken (aC 1))))
  (aS (cP (QP.e (dR (aW (QV.p (aC 3)) (aW (gD (aW (QV.p (bK (aC 0) (QP.v aH))) (aW (QV.p (aC 1)) bQ))) bQ))))))
  bZ)
 (aS (cP (QP.e (dR (aW (QV.p (aC 3)) bQ))))))))))
noncomputable def tH  : tz1 :=
 (bJ (aE (f2 bG (fC (.str "\n")) (f2 iN (fC (.str " ")) (aA 0)))))
noncomputable abbrev hE : Stmt := top 10
theorem zc9 : FnScope ["blanks"] ["blanks"] (aM hE) := ⟨rfl, rfl, rfl, by decide +kernel, rfl, by decide +kernel, by decide +kernel⟩
theorem zd0 {n : Nat} {f : Addr} {fd : FuncData}  (D_p_new_line : Dn K mg "new_line" hE ["blanks"] f fd)
     :
  FnOk P w K mg base CX0 (n + 1) f fd ["blanks"] (SpP 1 K U (gP 1 0 (tH ))) :=
 eW D_p_new_line.F zc9 fun cdv A outer s H E B hr =>
 (aS (cP (QP.e (bS fQ (QP.v cC) (QP.v (bS qJ (QP.v cC) (aC 0)))))))
noncomputable def nJ (g_p_new_line : (tz6)) : tz1 :=
 (aK (aR 3 (aE (aX (f2 dIx (aA 0) (fC (.int 0))))))
 (aK (fIf (aI (fB (f2 dEq (aA 3) (fC (.str "word")))))
  (bJ (aE (aX (f2 dIx (aA 0) (fC (.int 1))))))
  aY)
 (aK (fIf (aI (cE (fB (f2 dEq (aA 3) (fC (.str "gap")))) (cX (fT (cL "Place" "broken" (aA 1))))))
  (bJ (aE (aX (f2 dIx (aA 0) (fC (.int 1))))))
  aY)
 (aK (fIf (aI (cE (fB (f2 dEq (aA 3) (fC (.str "stop")))) (fB (f2 dLe (aA 2) (f2 dIx (aA 0) (fC (.int 1)))))))
  (bJ (aE (f2 iN (fC (.str " ")) (f2 fI (f2 dIx (aA 0) (fC (.int 1))) (aA 2)))))
  aY)
 (aK (fIf (aI (cX (fT (cL "Place" "broken" (aA 1)))))
  (bJ (aE (fC .non)))
  aY)
 (aK (fIf (aI (fB (f2 dEq (aA 3) (fC (.str "stop")))))
  (bJ (aE (aG g_p_new_line (aB (f2 dIx (aA 0) (fC (.int 1))) aD))))
  aY)
 (bJ (aE (aG g_p_new_line (aB (cL "Place" "margin" (aA 1)) aD))))))))))
noncomputable abbrev gT : Stmt := top 11
theorem uF : FnScope ["piece", "place", "column", "kind"] ["piece", "place", "column"] (aM gT) := ⟨rfl, rfl, rfl, by decide +kernel, rfl, by decide +kernel, by decide +kernel⟩
theorem zh9 {n : Nat} {f : Addr} {fd : FuncData} {g_p_new_line : (tz6)} {f_p_new_line : Addr} {fd_p_new_line : FuncData} (D_p_writing : Dn K mg "writing" gT ["piece", "place", "column"] f fd)
  (D_p_new_line : Dn K mg "new_line" hE ["blanks"] f_p_new_line fd_p_new_line) (G_p_new_line : FnOk P w K mg base CX0 n f_p_new_line fd_p_new_line ["blanks"] (SpP 1 K U g_p_new_line))
  (cl_Place : Cls K (U "Place"))
  (na_broken : cH K (U "Place") "broken")
  (na_margin : cH K (U "Place") "margin") :
  FnOk P w K mg base CX0 (n + 1) f fd ["piece", "place", "column"] (SpP 3 K U (gP 3 1 (nJ g_p_new_line))) :=
 eW D_p_writing.F uF fun cdv A outer s H E B hr =>
 (aO (bY 3 uF.nd rfl (.inl rfl) rfl rfl (QP.e (QV.p (bK (aC 0) (QP.v aH)))))
 (aO (cO (QT.e (cB (fW (Room.units hr)) (aC 3) (QP.v cC) (bX _)))
  (aS (cP (QP.e (QV.p (bK (aC 0) (QP.v aH))))))
  bZ)
 (aO (cO (QT.e (kQ (iX (cB (fW (Room.units hr)) (aC 3) (QP.v cC) (bX _)) (iI (lW (fG (dW (C := "Place") cl_Place na_broken (aC 1))))))))
  (aS (cP (QP.e (QV.p (bK (aC 0) (QP.v aH))))))
  bZ)
 (aO (cO (QT.e (kQ (iX (cB (fW (Room.units hr)) (aC 3) (QP.v cC) (bX _)) (iI (cB zr6 (aC 2) (bK (aC 0) (QP.v aH)) (bX _))))))
  (aS (cP (QP.e (bS qJ (QP.v cC) (QP.v (bS sB (bK (aC 0) (QP.v aH)) (aC 2)))))))
  bZ)
 (aO (cO (QT.e (lW (fG (dW (C := "Place") cl_Place na_broken (aC 1)))))
  (aS (cP (QP.e tM)))
  bZ)
 (aO (cO (QT.e (cB (fW (Room.units hr)) (aC 3) (QP.v cC) (bX _)))
  (aS (cP (QP.e (eM D_p_new_line G_p_new_line hr rfl rfl (aL (bK (aC 0) (QP.v aH)) bB) (bA dA)))))
  bZ)
 (aS (cP (QP.e (eM D_p_new_line G_p_new_line hr rfl rfl (aL (dW (C := "Place") cl_Place na_margin (aC 1)) bB) (bA dA)))))))))))
noncomputable def oF  : tz1 :=
 (bJ (aE (fMt lY (aA 0) (aB (fC (.str "\n")) aD))))
noncomputable abbrev gK : Stmt := top 12
theorem zT : FnScope ["wrote"] ["wrote"] (aM gK) := ⟨rfl, rfl, rfl, by decide +kernel, rfl, by decide +kernel, by decide +kernel⟩
theorem zU {n : Nat} {f : Addr} {fd : FuncData}  (D_p_ends_line : Dn K mg "ends_line" gK ["wrote"] f fd)
     :
  FnOk P w K mg base CX0 (n + 1) f fd ["wrote"] (SpP 1 K U (gP 1 0 (oF ))) :=
 eW D_p_ends_line.F zT fun cdv A outer s H E B hr =>
 (aS (cP (QP.e (xM PySem.F.slot_str_startswith PySem.F.type_str_startswith pR (aC 0) (aL (QP.v cC) bB)))))
noncomputable def gU (g_p_ends_line : (tz6)) : tz1 :=
 (aK (fIf (aI (fT (aG g_p_ends_line (aB (aA 1) aD))))
  (bJ (aE (f2 fI (aG bP (aB (aA 1) aD)) (fC (.int 1)))))
  aY)
 (bJ (aE (f2 bG (aA 0) (aG bP (aB (aA 1) aD))))))
noncomputable abbrev eV : Stmt := top 13
theorem uG : FnScope ["column", "wrote"] ["column", "wrote"] (aM eV) := ⟨rfl, rfl, rfl, by decide +kernel, rfl, by decide +kernel, by decide +kernel⟩
theorem uH {n : Nat} {f : Addr} {fd : FuncData} {g_p_ends_line : (tz6)} {f_p_ends_line : Addr} {fd_p_ends_line : FuncData} (D_p_column_behind : Dn K mg "column_behind" eV ["column", "wrote"] f fd)
  (D_p_ends_line : Dn K mg "ends_line" gK ["wrote"] f_p_ends_line fd_p_ends_line) (G_p_ends_line : FnOk P w K mg base CX0 n f_p_ends_line fd_p_ends_line ["wrote"] (SpP 1 K U g_p_ends_line))
  (z_len : mg "len" = none) :
  FnOk P w K mg base CX0 (n + 1) f fd ["column", "wrote"] (SpP 2 K U (gP 2 0 (gU g_p_ends_line))) :=
 eW D_p_column_behind.F uG fun cdv A outer s H E B hr =>
 (aO (cO (QT.e (fG (QP.v (eM D_p_ends_line G_p_ends_line hr rfl rfl (aL (aC 1) bB) (bA dA)))))
  (aS (cP (QP.e (bS sB (QP.v (eG hX rfl z_len boot_len (aL (aC 1) bB))) (QP.v aH)))))
  bZ)
 (aS (cP (QP.e (bS fQ (aC 0) (QP.v (eG hX rfl z_len boot_len (aL (aC 1) bB))))))))
noncomputable def rG (g_Setter_init : (tz7)) (g_Setter_set_row : (tz7)) (g_p_first_place : (tz6)) (g_Setter_whole_text : (tz6)) : tz1 :=
 (aK (aR 2 (aE (dY "Setter" (aU [.im (aA 1)]) g_Setter_init)))
 (aK (aV (bE 2 aP (aU [.im (aA 0), .im (aG g_p_first_place aD)]) (eO "Setter" "set_row" g_Setter_set_row)))
 (bJ (aE (aG g_Setter_whole_text (aB (eS "Setter" "whole_text" (aA 2)) aD))))))
noncomputable abbrev gO : Stmt := top 16
theorem oK : FnScope ["row", "choices", "setter"] ["row", "choices"] (aM gO) := ⟨rfl, rfl, rfl, by decide +kernel, rfl, by decide +kernel, by decide +kernel⟩
theorem zl6 {n : Nat} {f : Addr} {fd : FuncData} {g_Setter_init : (tz7)} {f_Setter_init : Addr} {fd_Setter_init : FuncData} {g_Setter_set_row : (tz7)} {f_Setter_set_row : Addr} {fd_Setter_set_row : FuncData} {g_p_first_place : (tz6)} {f_p_first_place : Addr} {fd_p_first_place : FuncData} {g_Setter_whole_text : (tz6)} {f_Setter_whole_text : Addr} {fd_Setter_whole_text : FuncData} (D_p_set_by : Dn K mg "set_by" gO ["row", "choices"] f fd)
  (K_Setter : Kn K mg U "Setter" "Setter.__init__" fP ["self", "choices"] f_Setter_init fd_Setter_init) (G_Setter_init : FnOk P w K mg base CX0 n f_Setter_init fd_Setter_init ["self", "choices"] (SpE 2 K U (aZ [true, false]) g_Setter_init))
  (M_Setter_set_row : Mn K U "Setter" "set_row" "Setter.set_row" dJ ["self", "row", "place"] f_Setter_set_row fd_Setter_set_row) (G_Setter_set_row : FnOk P w K mg base CX0 (n + 1) f_Setter_set_row fd_Setter_set_row ["self", "row", "place"] (SpE 3 K U (aZ [true, false, false]) g_Setter_set_row))
  (D_p_first_place : Dn K mg "first_place" eU [] f_p_first_place fd_p_first_place) (G_p_first_place : FnOk P w K mg base CX0 (n + 1) f_p_first_place fd_p_first_place [] (SpP 0 K U g_p_first_place))
  (M_Setter_whole_text : Mn K U "Setter" "whole_text" "Setter.whole_text" dO ["self"] f_Setter_whole_text fd_Setter_whole_text) (G_Setter_whole_text : FnOk P w K mg base CX0 (n + 1) f_Setter_whole_text fd_Setter_whole_text ["self"] (SpP 1 K U g_Setter_whole_text)) :
  FnOk P w K mg base CX0 ((n + 1) + 1) f fd ["row", "choices"] (SpP 2 K U (gP 2 1 (rG g_Setter_init g_Setter_set_row g_p_first_place g_Setter_whole_text))) :=
 eW D_p_set_by.F oK fun cdv A outer s H E B hr =>
 (aO (bY 2 oK.nd rfl (.inl rfl) rfl rfl (QP.e (nP K_Setter G_Setter_init hr rfl (bC (aC 1) cR) rfl rfl (dM 1))))
 (aO (eL (jO M_Setter_set_row G_Setter_set_row hr rfl (bH 2) (bC (aC 0) (bC (QP.v (tR D_p_first_place G_p_first_place hr rfl)) cR)) rfl rfl (dM 2)))
 (aS (cP (QP.e (wP M_Setter_whole_text G_Setter_whole_text hr (aC 2)))))))
noncomputable def uP (g_Setter_init : (tz7)) (g_Setter_set_row : (tz7)) (gx_Setter_set_row : (List D -> Bool)) (g_p_first_place : (tz6)) (gx_Setter_whole_text : (List D -> Bool)) : tz5 :=
 (iU (aR 2 (aE (dY "Setter" (aU [.im (aA 1)]) g_Setter_init)))
 (rF (lS 2 aP (aU [.im (aA 0), .im (aG g_p_first_place aD)]) (kD "Setter" "set_row" gx_Setter_set_row)) (iU (aV (bE 2 aP (aU [.im (aA 0), .im (aG g_p_first_place aD)]) (eO "Setter" "set_row" g_Setter_set_row)))
 (vQ "Setter" "whole_text" (aA 2) gx_Setter_whole_text))))
theorem zi0 {n : Nat} {f : Addr} {fd : FuncData} {g_Setter_init : (tz7)} {f_Setter_init : Addr} {fd_Setter_init : FuncData} {g_Setter_set_row : (tz7)} {f_Setter_set_row : Addr} {fd_Setter_set_row : FuncData} {gx_Setter_set_row : (List D -> Bool)} {g_p_first_place : (tz6)} {f_p_first_place : Addr} {fd_p_first_place : FuncData} {gx_Setter_whole_text : (List D -> Bool)} {f_Setter_whole_text : Addr} {fd_Setter_whole_text : FuncData} {C_NoChoice : Addr} (D_p_set_by : Dn K mg "set_by" gO ["row", "choices"] f fd)
  (K_Setter : Kn K mg U "Setter" "Setter.__init__" fP ["self", "choices"] f_Setter_init fd_Setter_init) (G_Setter_init : FnOk P w K mg base CX0 n f_Setter_init fd_Setter_init ["self", "choices"] (SpE 2 K U (aZ [true, false]) g_Setter_init))
  (M_Setter_set_row : Mn K U "Setter" "set_row" "Setter.set_row" dJ ["self", "row", "place"] f_Setter_set_row fd_Setter_set_row) (G_Setter_set_row : FnOk P w K mg base CX0 (n + 1) f_Setter_set_row fd_Setter_set_row ["self", "row", "place"] (SpE 3 K U (aZ [true, false, false]) g_Setter_set_row))
   (GX_Setter_set_row : FnOk P w K mg base (CXn P w base C_NoChoice) (n + 1) f_Setter_set_row fd_Setter_set_row ["self", "row", "place"] (lV 3 K U (aZ [true, false, false]) C_NoChoice gx_Setter_set_row))
  (D_p_first_place : Dn K mg "first_place" eU [] f_p_first_place fd_p_first_place) (G_p_first_place : FnOk P w K mg base CX0 (n + 1) f_p_first_place fd_p_first_place [] (SpP 0 K U g_p_first_place))
  (M_Setter_whole_text : Mn K U "Setter" "whole_text" "Setter.whole_text" dO ["self"] f_Setter_whole_text fd_Setter_whole_text) (GX_Setter_whole_text : FnOk P w K mg base (CXn P w base C_NoChoice) (n + 1) f_Setter_whole_text fd_Setter_whole_text ["self"] (rD 1 K U C_NoChoice gx_Setter_whole_text))
  (O_NoChoice : OwnCls "NoChoice" C_NoChoice bmV "ValueError.__new__" mg base) :
  FnOk P w K mg base (CXn P w base C_NoChoice) ((n + 1) + 1) f fd ["row", "choices"] (rD 2 K U C_NoChoice (gX 2 1 (uP g_Setter_init g_Setter_set_row gx_Setter_set_row g_p_first_place gx_Setter_whole_text))) :=
 qL D_p_set_by.F oK fun cdv A outer s H E B hr =>
 (lL (bY 2 oK.nd rfl (.inl rfl) rfl rfl (QP.e (nP K_Setter G_Setter_init hr rfl (bC (aC 1) cR) rfl rfl (dM 1))))
 (pT (pK (nR M_Setter_set_row GX_Setter_set_row hr rfl (bH 2) (bC (aC 0) (bC (QP.v (tR D_p_first_place G_p_first_place hr rfl)) cR)) rfl rfl (dM 2))) (eL (jO M_Setter_set_row G_Setter_set_row hr rfl (bH 2) (bC (aC 0) (bC (QP.v (tR D_p_first_place G_p_first_place hr rfl)) cR)) rfl rfl (dM 2)))
 (fO (zR M_Setter_whole_text GX_Setter_whole_text hr (aC 2)))))
noncomputable def zc8  : tz1 :=
 (aK (aR 1 (aE (fC (.str "abcdefghijklmnopqrstuvwxyzABCDEFGHIJKLMNOPQRSTUVWXYZ0123456789"))))
 (aK (aR 1 (aE (f2 bG (aA 1) (fC (.str "!\"#$&'()*+,-./:;<=>?\x40[\\]^_`{|}~")))))
 (aK (aR 2 (aE (f2 dIx (bL (fKs [.int 1, .int 2, .int 3, .int 4, .int 5, .int 6, .int 7, .int 8, .int 10, .int 11, .int 9, .int 12])) (f2 eB (aA 0) (fC (.int 12))))))
 (aK (aR 3 (aE (fC (.str ""))))
 (aK (kH 4 (pF (aB (aA 2) aD))
  (aK (aR 5 (aE (f2 bG (f2 gJ (aA 0) (fC (.int 12))) (f2 iN (aA 4) (f2 eB (f2 gJ (aA 0) (fC (.int 9000))) (fC (.int 93)))))))
 (aR 3 (aE (f2 bG (aA 3) (f2 dIx (aA 1) (f2 eB (aA 5) (fC (.int 93)))))))))
 (eZ 3))))))
noncomputable abbrev kZ : Stmt := top 20
theorem jR : FnScope ["_law_number", "_law_signs", "_law_size", "_law_word_here", "_law_j", "_law_at"] ["_law_number"] (aM kZ) := ⟨rfl, rfl, rfl, by decide +kernel, rfl, by decide +kernel, by decide +kernel⟩
theorem zy3 {n : Nat} {f : Addr} {fd : FuncData}  (D_l_word : Dn K mg "_law_word" kZ ["_law_number"] f fd)
  (z_range : mg "range" = none) :
  FnOk P w K mg base CX0 (n + 1) f fd ["_law_number"] (SpP 1 K U (gP 1 5 (zc8 ))) :=
 eW D_l_word.F jR fun cdv A outer s H E B hr =>
 (aO (bY 1 jR.nd rfl (.inl rfl) rfl rfl (QP.e cC))
 (aO (bY 1 jR.nd rfl (.inl rfl) rfl rfl (QP.e (bS fQ (aC 1) (QP.v cC))))
 (aO (bY 2 jR.nd rfl (.inl rfl) rfl rfl (QP.e (oJ (dR (hZ (.int (.int (.int (.int (.int (.int (.int (.int (.int (.int (.int (.int .nil)))))))))))))) (QP.v (bS gY (aC 0) (QP.v aH))))))
 (aO (bY 3 jR.nd rfl (.inl rfl) rfl rfl (QP.e cC))
 (aO (tO 4 PassesOwn.never rfl jR.nd rfl (.inl rfl) rfl rfl (qK rfl z_range (aL (aC 2) bB))
  (aO (bY 5 jR.nd rfl (.inl rfl) rfl rfl (QP.e (bS fQ (QP.v (bS mC (aC 0) (QP.v aH))) (QP.v (bS qJ (aC 4) (QP.v (bS gY (QP.v (bS mC (aC 0) (QP.v aH))) (QP.v aH))))))))
 (aS (bY 3 jR.nd rfl (.inl rfl) rfl rfl (QP.e (bS fQ (aC 3) (bK (aC 1) (QP.v (bS gY (aC 5) (QP.v aH))))))))))
 (aS (vA 3 rfl)))))))
noncomputable def uQ (g_l_word : (tz6)) : tz1 :=
 (aK (aR 1 (aE (f2 gJ (aA 0) (fC (.int 16)))))
 (aK (fIf (aI (fB (f2 dLt (f2 eB (aA 0) (fC (.int 16))) (fC (.int 8)))))
  (bJ (aE (cU (aB (fC (.str "word")) (aB (aG g_l_word (aB (aA 1) aD)) aD)))))
  aY)
 (aK (fIf (aI (fB (f2 dLt (f2 eB (aA 0) (fC (.int 16))) (fC (.int 13)))))
  (bJ (aE (cU (aB (fC (.str "gap")) (aB (f2 dIx (bL (fKs [.str " ", .str " ", .str " ", .str ""])) (f2 eB (aA 1) (fC (.int 4)))) aD)))))
  aY)
 (aK (fIf (aI (fB (f2 dEq (f2 eB (aA 0) (fC (.int 16))) (fC (.int 13)))))
  (bJ (aE (cU (aB (fC (.str "end")) aD))))
  aY)
 (bJ (aE (cU (aB (fC (.str "stop")) (aB (f2 dIx (bL (aB (f2 eB (f2 gJ (aA 1) (fC (.int 2))) (fC (.int 10))) (aB (f2 eB (f2 gJ (aA 1) (fC (.int 2))) (fC (.int 41))) aD))) (f2 eB (aA 1) (fC (.int 2)))) aD)))))))))
noncomputable abbrev lA : Stmt := top 21
theorem zc0 : FnScope ["_law_number", "_law_some"] ["_law_number"] (aM lA) := ⟨rfl, rfl, rfl, by decide +kernel, rfl, by decide +kernel, by decide +kernel⟩
theorem zy4 {n : Nat} {f : Addr} {fd : FuncData} {g_l_word : (tz6)} {f_l_word : Addr} {fd_l_word : FuncData} (D_l_leaf : Dn K mg "_law_leaf" lA ["_law_number"] f fd)
  (D_l_word : Dn K mg "_law_word" kZ ["_law_number"] f_l_word fd_l_word) (G_l_word : FnOk P w K mg base CX0 n f_l_word fd_l_word ["_law_number"] (SpP 1 K U g_l_word)) :
  FnOk P w K mg base CX0 (n + 1) f fd ["_law_number"] (SpP 1 K U (gP 1 1 (uQ g_l_word))) :=
 eW D_l_leaf.F zc0 fun cdv A outer s H E B hr =>
 (aO (bY 1 zc0.nd rfl (.inl rfl) rfl rfl (QP.e (bS mC (aC 0) (QP.v aH))))
 (aO (cO (QT.e (cB (oW (Room.units0 hr)) (QP.v (bS gY (aC 0) (QP.v aH))) (QP.v aH) (bX _)))
  (aS (cP (QP.e (gD (aW cC (aW (eM D_l_word G_l_word hr rfl rfl (aL (aC 1) bB) (bA dA)) bQ))))))
  bZ)
 (aO (cO (QT.e (cB (oW (Room.units0 hr)) (QP.v (bS gY (aC 0) (QP.v aH))) (QP.v aH) (bX _)))
  (aS (cP (QP.e (gD (aW cC (aW (oJ (dR (hZ (.str (.str (.str (.str .nil)))))) (QP.v (bS gY (aC 1) (QP.v aH)))) bQ))))))
  bZ)
 (aO (cO (QT.e (cB (fW (Room.units hr)) (QP.v (bS gY (aC 0) (QP.v aH))) (QP.v aH) (bX _)))
  (aS (cP (QP.e (gD (aW cC bQ)))))
  bZ)
 (aS (cP (QP.e (gD (aW cC (aW (oJ (dR (aW (bS gY (QP.v (bS mC (aC 1) (QP.v aH))) (QP.v aH)) (aW (bS gY (QP.v (bS mC (aC 1) (QP.v aH))) (QP.v aH)) bQ))) (QP.v (bS gY (aC 1) (QP.v aH)))) bQ))))))))))
noncomputable def oR  : tz1 :=
 (aK (sW [1, 2, 3, 4] (bE 0 aP aD qB))
 (aK (aR 3 (aE (f2 bG (aA 3) (bL (aB (aG cQ (aB (aA 4) aD)) aD)))))
 (aK (fIf (aI (cE (fB (f2 dEq (aA 1) (fC (.str "either")))) (fB (f2 dLt (aG bP (aB (aA 3) aD)) (fC (.int 2))))))
  (aR 3 (aE (f2 bG (aA 3) (bL (aB (cU (aB (cU (aB (fC (.str "word")) (aB (fC (.str "or")) aD))) aD)) aD)))))
  aY)
 (aK (aR 5 (aE (cU (aB (fC (.str "group")) (aB (aX (f2 dIx (aA 3) (fC (.int 0)))) aD)))))
 (aK (fIf (aI (fB (f2 dEq (aA 1) (fC (.str "hang")))))
  (aR 5 (aE (cU (aB (fC (.str "hang")) (aB (aX (aA 2)) (aB (aX (f2 dIx (aA 3) (fC (.int 0)))) aD))))))
  aY)
 (aK (fIf (aI (fB (f2 dEq (aA 1) (fC (.str "either")))))
  (aR 5 (aE (cU (aB (fC (.str "either")) (aB (aG cQ (aB (aA 3) aD)) aD)))))
  aY)
 (aV (bE 0 (dF 0 (dF 0 aP (eQ (fC (.int 1)))) (fC (.int 3))) (aB (aX (aA 5)) aD) bD))))))))
noncomputable abbrev lB : Stmt := top 22
theorem iH : FnScope ["_law_frames", "_law_kind", "_law_n", "_law_full", "_law_parts", "_law_piece"] ["_law_frames"] (aM lB) := ⟨rfl, rfl, rfl, by decide +kernel, rfl, by decide +kernel, by decide +kernel⟩
theorem zy5 {n : Nat} {f : Addr} {fd : FuncData}  (D_l_shut : Dn K mg "_law_shut" lB ["_law_frames"] f fd)
  (z_tuple : mg "tuple" = none)
  (z_len : mg "len" = none) :
  FnOk P w K mg base CX0 (n + 1) f fd ["_law_frames"] (SpE 1 K U (aZ [true]) (gE 1 5 (aZ [true]) (oR ))) :=
 mD D_l_shut.F iH (fun i hi => jG hi) fun cdv A outer s H E hr =>
 (aO (tZ (is := [1, 2, 3, 4]) rfl (nN (kE (i := 1) iH.nd rfl (.inl rfl)) (nN (kE (i := 2) iH.nd rfl (.inl rfl)) (nN (kE (i := 3) iH.nd rfl (.inl rfl)) (nN (kE (i := 4) iH.nd rfl (.inl rfl)) zA)))) (zg6 (j := 0) rfl (bH 0)) (fun j hj => by simp only [List.mem_cons, List.not_mem_nil, or_false] at hj; rcases hj with rfl | rfl | rfl | rfl <;> exact ⟨rfl, rfl⟩))
 (aO (bY 3 iH.nd rfl (.inl rfl) rfl rfl (QP.e (bS fQ (aC 3) (QP.v (dR (aW (iF lJ rfl z_tuple boot_tuple (aL (aC 4) bB)) bQ))))))
 (aO (cO (QT.e (kQ (iX (cB (fW (Room.units hr)) (aC 1) (QP.v cC) (bX _)) (iI (cB (oW (Room.units0 hr)) (QP.v (eG hX rfl z_len boot_len (aL (aC 3) bB))) (QP.v aH) (bX _))))))
  (aS (bY 3 iH.nd rfl (.inl rfl) rfl rfl (QP.e (bS fQ (aC 3) (QP.v (dR (aW (gD (aW (gD (aW cC (aW cC bQ))) bQ)) bQ)))))))
  bZ)
 (aO (bY 5 iH.nd rfl (.inl rfl) rfl rfl (QP.e (gD (aW cC (aW (QV.p (bK (aC 3) (QP.v aH))) bQ)))))
 (aO (cO (QT.e (cB (fW (Room.units hr)) (aC 1) (QP.v cC) (bX _)))
  (aS (bY 5 iH.nd rfl (.inl rfl) rfl rfl (QP.e (gD (aW cC (aW (QV.p (aC 2)) (aW (QV.p (bK (aC 3) (QP.v aH))) bQ)))))))
  bZ)
 (aO (cO (QT.e (cB (fW (Room.units hr)) (aC 1) (QP.v cC) (bX _)))
  (aS (bY 5 iH.nd rfl (.inl rfl) rfl rfl (QP.e (gD (aW cC (aW (iF lJ rfl z_tuple boot_tuple (aL (aC 3) bB)) bQ))))))
  bZ)
 (aS (eL (iY (j := 0) rfl (iL (iL (bH 0) (QP.v (mY (QP.v aH)))) (QP.v aH)) (aW (QV.p (aC 5)) bQ))))))))))
noncomputable def zk7 (g_l_mixed : (tz6)) (g_l_shut : (tz7)) (g_l_leaf : (tz6)) : tz1 :=
 (aK (aR 4 (aE (bL (aB (bL (aB (fC (.str "top")) (aB (fC (.int 0)) (aB (bL aD) (aB (bL aD) aD))))) aD))))
 (aK (kH 5 (vP (aB (aA 1) (aB (f2 bG (aA 1) (aA 2)) aD)))
  (aK (aR 6 (aE (aG g_l_mixed (aB (aA 0) (aB (aA 5) (aB (fC (.int 31)) aD))))))
 (aK (aR 7 (aE (f2 eB (aA 6) (fC (.int 13)))))
 (aK (aR 8 (aE (aX (f2 dIx (f2 dIx (aA 4) (eQ (fC (.int 1)))) (fC (.int 0))))))
 (fIf (aI (cE (fB (f2 dLt (aA 7) (fC (.int 4)))) (fB (f2 dLe (aG bP (aB (aA 4) aD)) (aA 3)))))
  (aK (aR 9 (aE (f2 dIx (bL (fKs [.str "group", .str "group", .str "hang", .str "either"])) (aA 7))))
 (aV (bE 4 aP (aB (bL (aB (aX (aA 9)) (aB (f2 dIx (bL (aB (fC (.int 1)) (aB (fC (.int 2)) (aB (fC (.int 4)) (aB (f2 eB (f2 gJ (aA 6) (fC (.int 13))) (fC (.int 13))) aD))))) (f2 eB (f2 gJ (aA 6) (fC (.int 169))) (fC (.int 4)))) (aB (bL aD) (aB (bL aD) aD))))) aD) bD)))
  (fIf (aI (cE (fB (f2 dEq (aA 7) (fC (.int 4)))) (fB (f2 dGt (aG bP (aB (aA 4) aD)) (fC (.int 1))))))
  (aV (fIO [.io 4] g_l_shut))
  (fIf (aI (cE (fB (f2 dLt (aA 7) (fC (.int 7)))) (cE (fB (f2 dEq (aA 8) (fC (.str "either")))) (fB (f2 dLt (aG bP (aB (f2 dIx (f2 dIx (aA 4) (eQ (fC (.int 1)))) (fC (.int 2))) aD)) (fC (.int 3)))))))
  (aK (aV (bE 4 (dF 4 (dF 4 aP (eQ (fC (.int 1)))) (fC (.int 2))) (aB (aG cQ (aB (f2 dIx (f2 dIx (aA 4) (eQ (fC (.int 1)))) (fC (.int 3))) aD)) aD) bD))
 (dG 4 (dF 4 aP (eQ (fC (.int 1)))) (fC (.int 3)) (bL aD)))
  (aV (bE 4 (dF 4 (dF 4 aP (eQ (fC (.int 1)))) (fC (.int 3))) (aB (aG g_l_leaf (aB (aG g_l_mixed (aB (aA 0) (aB (aA 5) (aB (fC (.int 32)) aD)))) aD)) aD) bD)))))))))
 (aK (kC (aI (fB (f2 dGt (aG bP (aB (aA 4) aD)) (fC (.int 1)))))
  (aV (fIO [.io 4] g_l_shut)) 400)
 (bJ (aE (aG cQ (aB (f2 dIx (f2 dIx (aA 4) (fC (.int 0))) (fC (.int 3))) aD)))))))
noncomputable abbrev mO : Stmt := top 23
theorem mK : FnScope ["_law_script", "_law_at", "_law_many", "_law_nest", "_law_frames", "_law_k", "_law_number", "_law_way", "_law_kind", "_law_new"] ["_law_script", "_law_at", "_law_many", "_law_nest"] (aM mO) := ⟨rfl, rfl, rfl, by decide +kernel, rfl, by decide +kernel, by decide +kernel⟩
theorem ye2 {n : Nat} {f : Addr} {fd : FuncData} {g_l_mixed : (tz6)} {f_l_mixed : Addr} {fd_l_mixed : FuncData} {g_l_shut : (tz7)} {f_l_shut : Addr} {fd_l_shut : FuncData} {g_l_leaf : (tz6)} {f_l_leaf : Addr} {fd_l_leaf : FuncData} (D_l_row : Dn K mg "_law_row" mO ["_law_script", "_law_at", "_law_many", "_law_nest"] f fd)
  (D_l_mixed : Dn K mg "_law_mixed" iB ["_law_script", "_law_k", "_law_salt"] f_l_mixed fd_l_mixed) (G_l_mixed : FnOk P w K mg base CX0 n f_l_mixed fd_l_mixed ["_law_script", "_law_k", "_law_salt"] (SpP 3 K U g_l_mixed))
  (D_l_shut : Dn K mg "_law_shut" lB ["_law_frames"] f_l_shut fd_l_shut) (G_l_shut : FnOk P w K mg base CX0 n f_l_shut fd_l_shut ["_law_frames"] (SpE 1 K U (aZ [true]) g_l_shut))
  (D_l_leaf : Dn K mg "_law_leaf" lA ["_law_number"] f_l_leaf fd_l_leaf) (G_l_leaf : FnOk P w K mg base CX0 n f_l_leaf fd_l_leaf ["_law_number"] (SpP 1 K U g_l_leaf))
  (z_range : mg "range" = none)
  (z_tuple : mg "tuple" = none)
  (z_len : mg "len" = none) :
  FnOk P w K mg base CX0 (n + 1) f fd ["_law_script", "_law_at", "_law_many", "_law_nest"] (SpP 4 K U (gP 4 6 (zk7 g_l_mixed g_l_shut g_l_leaf))) :=
 eW D_l_row.F mK fun cdv A outer s H E B hr =>
 (aO (bY 4 mK.nd rfl (.inl rfl) rfl rfl (QP.e (dR (aW (dR (aW cC (aW aH (aW (dR bQ) (aW (dR bQ) bQ))))) bQ))))
 (aO (tO 5 PassesOwn.never rfl mK.nd rfl (.inl rfl) rfl rfl (tN rfl z_range (aL (aC 1) (aL (QP.v (bS fQ (aC 1) (aC 2))) bB)))
  (aO (bY 6 mK.nd rfl (.inl rfl) rfl rfl (QP.e (eM D_l_mixed G_l_mixed hr rfl rfl (aL (aC 0) (aL (aC 5) (aL (QP.v aH) bB))) (bA (bA (bA dA))))))
 (aO (bY 7 mK.nd rfl (.inl rfl) rfl rfl (QP.e (bS gY (aC 6) (QP.v aH))))
 (aO (bY 8 mK.nd rfl (.inl rfl) rfl rfl (QP.e (QV.p (bK (bK (aC 4) (QP.v (mY (QP.v aH)))) (QP.v aH)))))
 (aS (cO (QT.e (kQ (iX (cB (oW (Room.units0 hr)) (aC 7) (QP.v aH) (bX _)) (iI (cB zr6 (QP.v (eG hX rfl z_len boot_len (aL (aC 4) bB))) (aC 3) (bX _))))))
  (aO (bY 9 mK.nd rfl (.inl rfl) rfl rfl (QP.e (oJ (dR (hZ (.str (.str (.str (.str .nil)))))) (aC 7))))
 (aS (eL (iY (j := 4) rfl (bH 4) (aW (dR (aW (QV.p (aC 9)) (aW (oJ (dR (aW aH (aW aH (aW aH (aW (bS gY (QP.v (bS mC (aC 6) (QP.v aH))) (QP.v aH)) bQ))))) (QP.v (bS gY (QP.v (bS mC (aC 6) (QP.v aH))) (QP.v aH)))) (aW (dR bQ) (aW (dR bQ) bQ))))) bQ)))))
  (aS (cO (QT.e (kQ (iX (cB (fW (Room.units hr)) (aC 7) (QP.v aH) (bX _)) (iI (cB wH (QP.v (eG hX rfl z_len boot_len (aL (aC 4) bB))) (QP.v aH) (bX _))))))
  (aS (eL (jW D_l_shut G_l_shut hr rfl (iM 4 cR) rfl (eX rfl) (show List.Nodup ([4] : List Nat) by decide) (fun j hj => by have h : j ∈ ([4] : List Nat) := hj; simp only [List.mem_cons, List.not_mem_nil, or_false] at h; rcases h with rfl <;> rfl))))
  (aS (cO (QT.e (kQ (iX (cB (oW (Room.units0 hr)) (aC 7) (QP.v aH) (bX _)) (iX (cB (fW (Room.units hr)) (aC 8) (QP.v cC) (bX _)) (iI (cB (oW (Room.units0 hr)) (QP.v (eG hX rfl z_len boot_len (aL (bK (bK (aC 4) (QP.v (mY (QP.v aH)))) (QP.v aH)) bB))) (QP.v aH) (bX _)))))))
  (aO (eL (iY (j := 4) rfl (iL (iL (bH 4) (QP.v (mY (QP.v aH)))) (QP.v aH)) (aW (iF lJ rfl z_tuple boot_tuple (aL (bK (bK (aC 4) (QP.v (mY (QP.v aH)))) (QP.v aH)) bB)) bQ)))
 (aS (kR (j := 4) rfl (dR bQ) (iL (bH 4) (QP.v (mY (QP.v aH)))) (QP.v aH))))
  (aS (eL (iY (j := 4) rfl (iL (iL (bH 4) (QP.v (mY (QP.v aH)))) (QP.v aH)) (aW (eM D_l_leaf G_l_leaf hr rfl rfl (aL (QP.v (eM D_l_mixed G_l_mixed hr rfl rfl (aL (aC 0) (aL (aC 5) (aL (QP.v aH) bB))) (bA (bA (bA dA))))) bB) (bA dA)) bQ))))))))))))))
 (aO (wK 400 PassesOwn.never (QT.e (cB wH (QP.v (eG hX rfl z_len boot_len (aL (aC 4) bB))) (QP.v aH) (bX _)))
  (aS (eL (jW D_l_shut G_l_shut hr rfl (iM 4 cR) rfl (eX rfl) (show List.Nodup ([4] : List Nat) by decide) (fun j hj => by have h : j ∈ ([4] : List Nat) := hj; simp only [List.mem_cons, List.not_mem_nil, or_false] at h; rcases h with rfl <;> rfl)))))
 (aS (cP (QP.e (iF lJ rfl z_tuple boot_tuple (aL (bK (bK (aC 4) (QP.v aH)) (QP.v aH)) bB))))))))
noncomputable def qW (g_l_mixed : (tz6)) (g_l_cell_at : (tz6)) : tz1 :=
 (aK (aR 4 (aE (aG g_l_mixed (aB (aA 0) (aB (f2 bG (f2 dIx (aA 1) (fC (.int 2))) (fC (.int 40))) (aB (aA 2) aD))))))
 (aK (fIf (aI (fB (f2 dEq (aA 2) (fC (.int 1)))))
  (aK (aR 5 (aE (f2 dIx (bL (fKs [.int 1, .int 12, .int 144, .int 1728, .int 20736, .int 248832, .int 2985984, .int 35831808])) (f2 eB (f2 dIx (aA 1) (fC (.int 2))) (fC (.int 8))))))
 (aR 4 (aE (f2 gJ (aG g_l_cell_at (aB (aA 0) (aB (f2 bG (fC (.int 40)) (f2 gJ (f2 dIx (aA 1) (fC (.int 2))) (fC (.int 8)))) aD))) (aA 5)))))
  aY)
 (aK (dG 1 aP (fC (.int 2)) (f2 bG (f2 dIx (aA 1) (fC (.int 2))) (fC (.int 1))))
 (aK (aV (bE 1 (dF 1 aP (fC (.int 1))) (aB (f2 eB (aA 4) (aA 3)) aD) bD))
 (bJ (aE (f2 eB (aA 4) (aA 3))))))))
noncomputable abbrev lC : Stmt := top 24
theorem qM : FnScope ["_law_script", "_law_state", "_law_salt", "_law_many", "_law_number", "_law_share"] ["_law_script", "_law_state", "_law_salt", "_law_many"] (aM lC) := ⟨rfl, rfl, rfl, by decide +kernel, rfl, by decide +kernel, by decide +kernel⟩
theorem zy6 {n : Nat} {f : Addr} {fd : FuncData} {g_l_mixed : (tz6)} {f_l_mixed : Addr} {fd_l_mixed : FuncData} {g_l_cell_at : (tz6)} {f_l_cell_at : Addr} {fd_l_cell_at : FuncData} (D_l_next : Dn K mg "_law_next" lC ["_law_script", "_law_state", "_law_salt", "_law_many"] f fd)
  (D_l_mixed : Dn K mg "_law_mixed" iB ["_law_script", "_law_k", "_law_salt"] f_l_mixed fd_l_mixed) (G_l_mixed : FnOk P w K mg base CX0 n f_l_mixed fd_l_mixed ["_law_script", "_law_k", "_law_salt"] (SpP 3 K U g_l_mixed))
  (D_l_cell_at : Dn K mg "_law_cell_at" gS ["_law_script", "_law_k"] f_l_cell_at fd_l_cell_at) (G_l_cell_at : FnOk P w K mg base CX0 n f_l_cell_at fd_l_cell_at ["_law_script", "_law_k"] (SpP 2 K U g_l_cell_at)) :
  FnOk P w K mg base CX0 (n + 1) f fd ["_law_script", "_law_state", "_law_salt", "_law_many"] (SpE 4 K U (aZ [false, true, false, false]) (gE 4 2 (aZ [false, true, false, false]) (qW g_l_mixed g_l_cell_at))) :=
 mD D_l_next.F qM (fun i hi => jG hi) fun cdv A outer s H E hr =>
 (aO (bY 4 qM.nd rfl (.inl rfl) rfl rfl (QP.e (eM D_l_mixed G_l_mixed hr rfl rfl (aL (aC 0) (aL (QP.v (bS fQ (bK (aC 1) (QP.v aH)) (QP.v aH))) (aL (aC 2) bB))) (bA (bA (bA dA))))))
 (aO (cO (QT.e (cB (fW (Room.units hr)) (aC 2) (QP.v aH) (bX _)))
  (aO (bY 5 qM.nd rfl (.inl rfl) rfl rfl (QP.e (oJ (dR (hZ (.int (.int (.int (.int (.int (.int (.int (.int .nil)))))))))) (QP.v (bS gY (bK (aC 1) (QP.v aH)) (QP.v aH))))))
 (aS (bY 4 qM.nd rfl (.inl rfl) rfl rfl (QP.e (bS mC (QP.v (eM D_l_cell_at G_l_cell_at hr rfl rfl (aL (aC 0) (aL (QP.v (bS fQ (QP.v aH) (QP.v (bS mC (bK (aC 1) (QP.v aH)) (QP.v aH))))) bB)) (bA (bA dA)))) (aC 5))))))
  bZ)
 (aO (kR (j := 1) rfl (bS fQ (bK (aC 1) (QP.v aH)) (QP.v aH)) (bH 1) (QP.v aH))
 (aO (eL (iY (j := 1) rfl (iL (bH 1) (QP.v aH)) (aW (bS gY (aC 4) (aC 3)) bQ)))
 (aS (cP (QP.e (bS gY (aC 4) (aC 3)))))))))
noncomputable def uR  : tz1 :=
 (dG 0 aP (fC (.int 0)) (f2 bG (f2 bG (f2 dIx (aA 0) (fC (.int 0))) (fC (.str "\n"))) (f2 iN (fC (.str " ")) (aA 1))))
noncomputable abbrev lD : Stmt := top 25
theorem zy7 : FnScope ["_law_state", "_law_blanks"] ["_law_state", "_law_blanks"] (aM lD) := ⟨rfl, rfl, rfl, by decide +kernel, rfl, by decide +kernel, by decide +kernel⟩
theorem zy8 {n : Nat} {f : Addr} {fd : FuncData}  (D_l_line : Dn K mg "_law_line" lD ["_law_state", "_law_blanks"] f fd)
     :
  FnOk P w K mg base CX0 (n + 1) f fd ["_law_state", "_law_blanks"] (SpE 2 K U (aZ [true, false]) (gE 2 0 (aZ [true, false]) (uR ))) :=
 mD D_l_line.F zy7 (fun i hi => jG hi) fun cdv A outer s H E hr =>
 (aS (kR (j := 0) rfl (bS fQ (QP.v (bS fQ (bK (aC 0) (QP.v aH)) (QP.v cC))) (QP.v (bS qJ (QP.v cC) (aC 1)))) (bH 0) (QP.v aH)))
noncomputable def rH  : tz1 :=
 (bJ (aE (f2 fI (f2 fI (aG bP (aB (f2 dIx (aA 0) (fC (.int 0))) aD)) (fC (.int 1))) (fMt uO (f2 dIx (aA 0) (fC (.int 0))) (aB (fC (.str "\n")) aD)))))
noncomputable abbrev jH : Stmt := top 26
theorem zl7 : FnScope ["_law_state"] ["_law_state"] (aM jH) := ⟨rfl, rfl, rfl, by decide +kernel, rfl, by decide +kernel, by decide +kernel⟩
theorem zl8 {n : Nat} {f : Addr} {fd : FuncData}  (D_l_column : Dn K mg "_law_column" jH ["_law_state"] f fd)
  (z_len : mg "len" = none) :
  FnOk P w K mg base CX0 (n + 1) f fd ["_law_state"] (SpP 1 K U (gP 1 0 (rH ))) :=
 eW D_l_column.F zl7 fun cdv A outer s H E B hr =>
 (aS (cP (QP.e (bS sB (QP.v (bS sB (QP.v (eG hX rfl z_len boot_len (aL (bK (aC 0) (QP.v aH)) bB))) (QP.v aH))) (QP.v (xM PySem.F.slot_str_rfind PySem.F.type_str_rfind zO (bK (aC 0) (QP.v aH)) (aL (QP.v cC) bB)))))))
noncomputable def sZ (g_l_line : (tz7)) (g_l_column : (tz6)) (g_l_next : (tz7)) (g_l_set : (tz7)) : tz1 :=
 (aK (kH 6 (gA (aA 1))
  (aK (fIf (aI (fB (f2 dEq (f2 dIx (aA 6) (fC (.int 0))) (fC (.str "word")))))
  (dG 4 aP (fC (.int 0)) (f2 bG (f2 dIx (aA 4) (fC (.int 0))) (f2 dIx (aA 6) (fC (.int 1)))))
  aY)
 (aK (fIf (aI (cE (fB (f2 dEq (f2 dIx (aA 6) (fC (.int 0))) (fC (.str "gap")))) (fT (aA 2))))
  (dG 4 aP (fC (.int 0)) (f2 bG (f2 dIx (aA 4) (fC (.int 0))) (f2 dIx (aA 6) (fC (.int 1)))))
  aY)
 (aK (fIf (aI (cE (fB (f2 dEq (f2 dIx (aA 6) (fC (.int 0))) (fC (.str "gap")))) (cX (fT (aA 2)))))
  (aV (fIO [.io 4, .im (aA 3)] g_l_line))
  aY)
 (aK (fIf (aI (fB (f2 dEq (f2 dIx (aA 6) (fC (.int 0))) (fC (.str "end")))))
  (aV (fIO [.io 4, .im (aA 3)] g_l_line))
  aY)
 (aK (fIf (aI (fB (f2 dEq (f2 dIx (aA 6) (fC (.int 0))) (fC (.str "stop")))))
  (aK (fIf (aI (cE (fT (aA 2)) (fB (f2 dGt (aG g_l_column (aB (aA 4) aD)) (f2 dIx (aA 6) (fC (.int 1)))))))
  (bJ (aE (fC (.bl false))))
  aY)
 (aK (fIf (aI (fB (f2 dGt (aG g_l_column (aB (aA 4) aD)) (f2 dIx (aA 6) (fC (.int 1))))))
  (aV (fIO [.io 4, .im (fC (.int 0))] g_l_line))
  aY)
 (dG 4 aP (fC (.int 0)) (f2 bG (f2 dIx (aA 4) (fC (.int 0))) (f2 iN (fC (.str " ")) (f2 fI (f2 dIx (aA 6) (fC (.int 1))) (aG g_l_column (aB (aA 4) aD))))))))
  aY)
 (aK (fIf (aI (cE (fB (f2 dEq (f2 dIx (aA 6) (fC (.int 0))) (fC (.str "end")))) (fT (aA 2))))
  (bJ (aE (fC (.bl false))))
  aY)
 (aK (fIf (aI (fB (f2 dEq (f2 dIx (aA 6) (fC (.int 0))) (fC (.str "group")))))
  (aK (aR 7 (aE (aX (aA 2))))
 (aK (fIf (aI (cE (cX (fT (aA 2))) (fB (f2 dGt (aA 5) (fC (.int 0))))))
  (aR 7 (fE2 dEq (fIO [.im (aA 0), .io 4, .im (aA 5), .im (fC (.int 2))] g_l_next) (fC (.int 0))))
  (fIf (aI (cX (fT (aA 2))))
  (aV (bE 4 (dF 4 aP (fC (.int 1))) (aB (fC (.int 1)) aD) bD))
  aY))
 (fIf (jL (fTE (fIO [.im (aA 0), .im (f2 dIx (aA 6) (fC (.int 1))), .im (aA 7), .im (aA 3), .io 4, .im (aA 5)] g_l_set)))
  (bJ (aE (fC (.bl false))))
  aY)))
  aY)
 (aK (fIf (aI (fB (f2 dEq (f2 dIx (aA 6) (fC (.int 0))) (fC (.str "hang")))))
  (aK (aR 8 (aE (f2 bG (aA 3) (f2 dIx (aA 6) (fC (.int 1))))))
 (fIf (jL (fTE (fIO [.im (aA 0), .im (f2 dIx (aA 6) (fC (.int 2))), .im (aA 2), .im (aA 8), .io 4, .im (aA 5)] g_l_set)))
  (bJ (aE (fC (.bl false))))
  aY))
  aY)
 (fIf (aI (fB (f2 dEq (f2 dIx (aA 6) (fC (.int 0))) (fC (.str "either")))))
  (aK (aR 9 (fIO [.im (aA 0), .io 4, .im (f2 bG (aA 5) (f2 iN (fC (.int 9)) (aG nH (aB (f2 dEq (aA 5) (fC (.int 0))) aD)))), .im (aG bP (aB (f2 dIx (aA 6) (fC (.int 1))) aD))] g_l_next))
 (fIf (jL (fTE (fIO [.im (aA 0), .im (f2 dIx (f2 dIx (aA 6) (fC (.int 1))) (aA 9)), .im (aA 2), .im (aA 3), .io 4, .im (aA 5)] g_l_set)))
  (bJ (aE (fC (.bl false))))
  aY))
  aY))))))))))
 (bJ (aE (fC (.bl true)))))
noncomputable abbrev lE : Stmt := top 27
theorem nS : FnScope ["_law_script", "_law_row_here", "_law_flat", "_law_hang", "_law_state", "_law_salt", "_law_piece", "_law_inner", "_law_blanks", "_law_at"] ["_law_script", "_law_row_here", "_law_flat", "_law_hang", "_law_state", "_law_salt"] (aM lE) := ⟨rfl, rfl, rfl, by decide +kernel, rfl, by decide +kernel, by decide +kernel⟩
theorem ye3 {n : Nat} {f : Addr} {fd : FuncData} {g_l_line : (tz7)} {f_l_line : Addr} {fd_l_line : FuncData} {g_l_column : (tz6)} {f_l_column : Addr} {fd_l_column : FuncData} {g_l_next : (tz7)} {f_l_next : Addr} {fd_l_next : FuncData} {g_l_set : (tz7)} (D_l_set : Dn K mg "_law_set" lE ["_law_script", "_law_row_here", "_law_flat", "_law_hang", "_law_state", "_law_salt"] f fd)
  (D_l_line : Dn K mg "_law_line" lD ["_law_state", "_law_blanks"] f_l_line fd_l_line) (G_l_line : FnOk P w K mg base CX0 n f_l_line fd_l_line ["_law_state", "_law_blanks"] (SpE 2 K U (aZ [true, false]) g_l_line))
  (D_l_column : Dn K mg "_law_column" jH ["_law_state"] f_l_column fd_l_column) (G_l_column : FnOk P w K mg base CX0 n f_l_column fd_l_column ["_law_state"] (SpP 1 K U g_l_column))
  (D_l_next : Dn K mg "_law_next" lC ["_law_script", "_law_state", "_law_salt", "_law_many"] f_l_next fd_l_next) (G_l_next : FnOk P w K mg base CX0 n f_l_next fd_l_next ["_law_script", "_law_state", "_law_salt", "_law_many"] (SpE 4 K U (aZ [false, true, false, false]) g_l_next))
  (G_l_set : FnOk P w K mg base CX0 n f fd ["_law_script", "_law_row_here", "_law_flat", "_law_hang", "_law_state", "_law_salt"] (SpE 6 K U (aZ [false, false, false, false, true, false]) g_l_set))
  (z_len : mg "len" = none)
  (z_int : mg "int" = none) :
  FnOk P w K mg base CX0 (n + 1) f fd ["_law_script", "_law_row_here", "_law_flat", "_law_hang", "_law_state", "_law_salt"] (SpE 6 K U (aZ [false, false, false, false, true, false]) (gE 6 4 (aZ [false, false, false, false, true, false]) (sZ g_l_line g_l_column g_l_next g_l_set))) :=
 mD D_l_set.F nS (fun i hi => jG hi) fun cdv A outer s H E hr =>
 (aO (vB 6 1 PassesOwn.never rfl nS.nd rfl (.inl rfl) rfl rfl rfl
  (aO (cO (QT.e (cB (fW (Room.units hr)) (bK (aC 6) (QP.v aH)) (QP.v cC) (bX _)))
  (aS (kR (j := 4) rfl (bS fQ (bK (aC 4) (QP.v aH)) (bK (aC 6) (QP.v aH))) (bH 4) (QP.v aH)))
  bZ)
 (aO (cO (QT.e (kQ (iX (cB (fW (Room.units hr)) (bK (aC 6) (QP.v aH)) (QP.v cC) (bX _)) (iI (fG (aC 2))))))
  (aS (kR (j := 4) rfl (bS fQ (bK (aC 4) (QP.v aH)) (bK (aC 6) (QP.v aH))) (bH 4) (QP.v aH)))
  bZ)
 (aO (cO (QT.e (kQ (iX (cB (fW (Room.units hr)) (bK (aC 6) (QP.v aH)) (QP.v cC) (bX _)) (iI (lW (fG (aC 2)))))))
  (aS (eL (jW D_l_line G_l_line hr rfl (iM 4 (bC (aC 3) cR)) rfl (eX rfl) (show List.Nodup ([4] : List Nat) by decide) (fun j hj => by have h : j ∈ ([4] : List Nat) := hj; simp only [List.mem_cons, List.not_mem_nil, or_false] at h; rcases h with rfl <;> rfl))))
  bZ)
 (aO (cO (QT.e (cB (fW (Room.units hr)) (bK (aC 6) (QP.v aH)) (QP.v cC) (bX _)))
  (aS (eL (jW D_l_line G_l_line hr rfl (iM 4 (bC (aC 3) cR)) rfl (eX rfl) (show List.Nodup ([4] : List Nat) by decide) (fun j hj => by have h : j ∈ ([4] : List Nat) := hj; simp only [List.mem_cons, List.not_mem_nil, or_false] at h; rcases h with rfl <;> rfl))))
  bZ)
 (aO (cO (QT.e (cB (fW (Room.units hr)) (bK (aC 6) (QP.v aH)) (QP.v cC) (bX _)))
  (aO (cO (QT.e (kQ (iX (fG (aC 2)) (iI (cB wH (QP.v (eM D_l_column G_l_column hr rfl rfl (aL (aC 4) bB) (bA dA))) (bK (aC 6) (QP.v aH)) (bX _))))))
  (aS (cP (QP.e iW)))
  bZ)
 (aO (cO (QT.e (cB wH (QP.v (eM D_l_column G_l_column hr rfl rfl (aL (aC 4) bB) (bA dA))) (bK (aC 6) (QP.v aH)) (bX _)))
  (aS (eL (jW D_l_line G_l_line hr rfl (iM 4 (bC (QP.v aH) cR)) rfl (eX rfl) (show List.Nodup ([4] : List Nat) by decide) (fun j hj => by have h : j ∈ ([4] : List Nat) := hj; simp only [List.mem_cons, List.not_mem_nil, or_false] at h; rcases h with rfl <;> rfl))))
  bZ)
 (aS (kR (j := 4) rfl (bS fQ (bK (aC 4) (QP.v aH)) (QP.v (bS qJ (QP.v cC) (QP.v (bS sB (bK (aC 6) (QP.v aH)) (QP.v (eM D_l_column G_l_column hr rfl rfl (aL (aC 4) bB) (bA dA)))))))) (bH 4) (QP.v aH)))))
  bZ)
 (aO (cO (QT.e (kQ (iX (cB (fW (Room.units hr)) (bK (aC 6) (QP.v aH)) (QP.v cC) (bX _)) (iI (fG (aC 2))))))
  (aS (cP (QP.e iW)))
  bZ)
 (aO (cO (QT.e (cB (fW (Room.units hr)) (bK (aC 6) (QP.v aH)) (QP.v cC) (bX _)))
  (aO (bY 7 nS.nd rfl (.inl rfl) rfl rfl (QP.e (QV.p (aC 2))))
 (aO (cO (QT.e (kQ (iX (lW (fG (aC 2))) (iI (cB wH (aC 5) (QP.v aH) (bX _))))))
  (aS (bY 7 nS.nd rfl (.inl rfl) rfl rfl (zh2 (fW (Room.units hr)) (jW D_l_next G_l_next hr rfl (bC (aC 0) (iM 4 (bC (aC 5) (bC (QP.v aH) cR)))) rfl (eX rfl) (show List.Nodup ([4] : List Nat) by decide) (fun j hj => by have h : j ∈ ([4] : List Nat) := hj; simp only [List.mem_cons, List.not_mem_nil, or_false] at h; rcases h with rfl <;> rfl)) (QP.v aH) (bX _))))
  (aS (cO (QT.e (lW (fG (aC 2))))
  (aS (eL (iY (j := 4) rfl (iL (bH 4) (QP.v aH)) (aW aH bQ))))
  bZ)))
 (aS (cO (pJ (nQ (jW D_l_set G_l_set hr rfl (bC (aC 0) (bC (bK (aC 6) (QP.v aH)) (bC (aC 7) (bC (aC 3) (iM 4 (bC (aC 5) cR)))))) rfl (eX rfl) (show List.Nodup ([4] : List Nat) by decide) (fun j hj => by have h : j ∈ ([4] : List Nat) := hj; simp only [List.mem_cons, List.not_mem_nil, or_false] at h; rcases h with rfl <;> rfl))))
  (aS (cP (QP.e iW)))
  bZ))))
  bZ)
 (aO (cO (QT.e (cB (fW (Room.units hr)) (bK (aC 6) (QP.v aH)) (QP.v cC) (bX _)))
  (aO (bY 8 nS.nd rfl (.inl rfl) rfl rfl (QP.e (bS fQ (aC 3) (bK (aC 6) (QP.v aH)))))
 (aS (cO (pJ (nQ (jW D_l_set G_l_set hr rfl (bC (aC 0) (bC (bK (aC 6) (QP.v aH)) (bC (aC 2) (bC (aC 8) (iM 4 (bC (aC 5) cR)))))) rfl (eX rfl) (show List.Nodup ([4] : List Nat) by decide) (fun j hj => by have h : j ∈ ([4] : List Nat) := hj; simp only [List.mem_cons, List.not_mem_nil, or_false] at h; rcases h with rfl <;> rfl))))
  (aS (cP (QP.e iW)))
  bZ)))
  bZ)
 (aS (cO (QT.e (cB (fW (Room.units hr)) (bK (aC 6) (QP.v aH)) (QP.v cC) (bX _)))
  (aO (bY 9 nS.nd rfl (.inl rfl) rfl rfl (jW D_l_next G_l_next hr rfl (bC (aC 0) (iM 4 (bC (QP.v (bS fQ (aC 5) (QP.v (bS qJ (QP.v aH) (QP.v (iF zr9 rfl z_int boot_int (aL (QP.v (rL (fW (Room.units hr)) (aC 5) (QP.v aH) (bX _))) bB))))))) (bC (QP.v (eG hX rfl z_len boot_len (aL (bK (aC 6) (QP.v aH)) bB))) cR)))) rfl (eX rfl) (show List.Nodup ([4] : List Nat) by decide) (fun j hj => by have h : j ∈ ([4] : List Nat) := hj; simp only [List.mem_cons, List.not_mem_nil, or_false] at h; rcases h with rfl <;> rfl)))
 (aS (cO (pJ (nQ (jW D_l_set G_l_set hr rfl (bC (aC 0) (bC (bK (bK (aC 6) (QP.v aH)) (aC 9)) (bC (aC 2) (bC (aC 3) (iM 4 (bC (aC 5) cR)))))) rfl (eX rfl) (show List.Nodup ([4] : List Nat) by decide) (fun j hj => by have h : j ∈ ([4] : List Nat) := hj; simp only [List.mem_cons, List.not_mem_nil, or_false] at h; rcases h with rfl <;> rfl))))
  (aS (cP (QP.e iW)))
  bZ)))
  bZ)))))))))))
 (aS (cP (QP.e iW))))
noncomputable def yU (g_l_set : (tz7)) : tz1 :=
 (aK (aR 3 (aE (bL (aB (fC (.str "")) (aB (bL aD) (aB (fC (.int 0)) aD))))))
 (aK (fIf (fTE (fIO [.im (aA 0), .im (aA 1), .im (fC (.bl false)), .im (fC (.int 0)), .io 3, .im (aA 2)] g_l_set))
  (bJ (aE (cU (aB (aX (f2 dIx (aA 3) (fC (.int 0)))) (aB (aG cQ (aB (f2 dIx (aA 3) (fC (.int 1))) aD)) aD)))))
  aY)
 (aK (aR 3 (aE (bL (aB (fC (.str "")) (aB (bL aD) (aB (fC (.int 0)) aD))))))
 (aK (aV (fIO [.im (aA 0), .im (aA 1), .im (fC (.bl false)), .im (fC (.int 0)), .io 3, .im (fC (.int 0))] g_l_set))
 (bJ (aE (cU (aB (aX (f2 dIx (aA 3) (fC (.int 0)))) (aB (aG cQ (aB (f2 dIx (aA 3) (fC (.int 1))) aD)) aD)))))))))
noncomputable abbrev jZ : Stmt := top 28
theorem sJ : FnScope ["_law_script", "_law_row_here", "_law_salt", "_law_state"] ["_law_script", "_law_row_here", "_law_salt"] (aM jZ) := ⟨rfl, rfl, rfl, by decide +kernel, rfl, by decide +kernel, by decide +kernel⟩
theorem zs4 {n : Nat} {f : Addr} {fd : FuncData} {g_l_set : (tz7)} {f_l_set : Addr} {fd_l_set : FuncData} (D_l_drawn : Dn K mg "_law_drawn" jZ ["_law_script", "_law_row_here", "_law_salt"] f fd)
  (D_l_set : Dn K mg "_law_set" lE ["_law_script", "_law_row_here", "_law_flat", "_law_hang", "_law_state", "_law_salt"] f_l_set fd_l_set) (G_l_set : FnOk P w K mg base CX0 n f_l_set fd_l_set ["_law_script", "_law_row_here", "_law_flat", "_law_hang", "_law_state", "_law_salt"] (SpE 6 K U (aZ [false, false, false, false, true, false]) g_l_set))
  (z_tuple : mg "tuple" = none) :
  FnOk P w K mg base CX0 (n + 1) f fd ["_law_script", "_law_row_here", "_law_salt"] (SpP 3 K U (gP 3 1 (yU g_l_set))) :=
 eW D_l_drawn.F sJ fun cdv A outer s H E B hr =>
 (aO (bY 3 sJ.nd rfl (.inl rfl) rfl rfl (QP.e (dR (aW cC (aW (dR bQ) (aW aH bQ))))))
 (aO (cO (nQ (jW D_l_set G_l_set hr rfl (bC (aC 0) (bC (aC 1) (bC (QP.v iW) (bC (QP.v aH) (iM 3 (bC (aC 2) cR)))))) rfl (eX rfl) (show List.Nodup ([3] : List Nat) by decide) (fun j hj => by have h : j ∈ ([3] : List Nat) := hj; simp only [List.mem_cons, List.not_mem_nil, or_false] at h; rcases h with rfl <;> rfl)))
  (aS (cP (QP.e (gD (aW (QV.p (bK (aC 3) (QP.v aH))) (aW (iF lJ rfl z_tuple boot_tuple (aL (bK (aC 3) (QP.v aH)) bB)) bQ))))))
  bZ)
 (aO (bY 3 sJ.nd rfl (.inl rfl) rfl rfl (QP.e (dR (aW cC (aW (dR bQ) (aW aH bQ))))))
 (aO (eL (jW D_l_set G_l_set hr rfl (bC (aC 0) (bC (aC 1) (bC (QP.v iW) (bC (QP.v aH) (iM 3 (bC (QP.v aH) cR)))))) rfl (eX rfl) (show List.Nodup ([3] : List Nat) by decide) (fun j hj => by have h : j ∈ ([3] : List Nat) := hj; simp only [List.mem_cons, List.not_mem_nil, or_false] at h; rcases h with rfl <;> rfl)))
 (aS (cP (QP.e (gD (aW (QV.p (bK (aC 3) (QP.v aH))) (aW (iF lJ rfl z_tuple boot_tuple (aL (bK (aC 3) (QP.v aH)) bB)) bQ))))))))))
noncomputable def uS (gx_p_set_by : (List D -> Bool)) : tz1 :=
 (aK (zk4 gx_p_set_by (aB (aA 0) (aB (aA 1) aD)))
 (bJ (aE (fC (.bl false)))))
noncomputable abbrev iP : Stmt := top 29
theorem zi1 : FnScope ["_law_row_here", "_law_choices"] ["_law_row_here", "_law_choices"] (aM iP) := ⟨rfl, rfl, rfl, by decide +kernel, rfl, by decide +kernel, by decide +kernel⟩
theorem zi2 {n : Nat} {f : Addr} {fd : FuncData} {gx_p_set_by : (List D -> Bool)} {f_p_set_by : Addr} {fd_p_set_by : FuncData} {C_NoChoice : Addr} (D_l_refused : Dn K mg "_law_refused" iP ["_law_row_here", "_law_choices"] f fd)
  (D_p_set_by : Dn K mg "set_by" gO ["row", "choices"] f_p_set_by fd_p_set_by) (GX_p_set_by : FnOk P w K mg base (CXn P w base C_NoChoice) n f_p_set_by fd_p_set_by ["row", "choices"] (rD 2 K U C_NoChoice gx_p_set_by))
  (O_NoChoice : OwnCls "NoChoice" C_NoChoice bmV "ValueError.__new__" mg base) :
  FnOk P w K mg base CX0 (n + 1) f fd ["_law_row_here", "_law_choices"] (SpP 2 K U (gP 2 0 (uS gx_p_set_by))) :=
 eW D_l_refused.F zi1 fun cdv A outer s H E B hr =>
 (aO (zh3 D_p_set_by GX_p_set_by O_NoChoice rfl hr rfl rfl rfl (aL (aC 0) (aL (aC 1) bB)) (bA (bA dA)) rfl rfl)
 (aS (cP (QP.e iW))))
noncomputable def zk8 (g_l_mixed : (tz6)) (g_l_row : (tz6)) (g_l_set : (tz7)) (g_l_refused : (tz6)) (g_l_drawn : (tz6)) (g_p_set_by : (tz6)) : tz1 :=
 (aK (aR 1 (aE (aG g_l_mixed (aB (aA 0) (aB (fC (.int 0)) (aB (fC (.int 40)) aD))))))
 (aK (aR 2 (aE (aG g_l_row (aB (aA 0) (aB (fC (.int 3)) (aB (f2 bG (fC (.int 3)) (f2 eB (aA 1) (fC (.int 38)))) (aB (f2 dIx (bL (fKs [.int 3, .int 3, .int 6])) (f2 eB (f2 gJ (aA 1) (fC (.int 38))) (fC (.int 3)))) aD)))))))
 (aK (kH 3 (pF (aB (fC (.int 3)) aD))
  (aK (aR 4 (aE (f2 dIx (bL (fKs [.int 1, .int 50, .int 51])) (aA 3))))
 (aK (aR 5 (aE (bL (aB (fC (.str "")) (aB (bL aD) (aB (fC (.int 0)) aD))))))
 (aK (fIf (jL (fTE (fIO [.im (aA 0), .im (aA 2), .im (fC (.bl false)), .im (fC (.int 0)), .io 5, .im (aA 4)] g_l_set)))
  (aK (aR 6 (aE (aG cQ (aB (f2 dIx (aA 5) (fC (.int 1))) aD))))
 (fIf (aI (dS (cX (fT (aG g_l_refused (aB (aA 2) (aB (aA 6) aD))))) (cX (fT (aG g_l_refused (aB (aA 2) (aB (f2 bG (aA 6) (cU (fKs [.int 0, .int 1, .int 0, .int 1]))) aD)))))))
  (bJ (aE (fC (.bl false))))
  aY))
  aY)
 (aK (aR 7 (aE (aG g_l_drawn (aB (aA 0) (aB (aA 2) (aB (aA 4) aD))))))
 (aK (aR 8 (aE (aG g_p_set_by (aB (aA 2) (aB (f2 dIx (aA 7) (fC (.int 1))) aD)))))
 (fIf (aI (dS (cX (fT (aG uN (aB (aA 8) (aB (fC (.ty "str")) aD))))) (fB (f2 dNe (aA 8) (f2 dIx (aA 7) (fC (.int 0)))))))
  (bJ (aE (fC (.bl false))))
  aY)))))))
 (bJ (aE (fC (.bl true)))))))
noncomputable abbrev nK : Stmt := top 30
theorem nA : FnScope ["_law_script", "_law_number", "_law_row_here", "_law_lap", "_law_salt", "_law_state", "_law_choices", "_law_drawn_here", "_law_found"] ["_law_script"] (aM nK) := ⟨rfl, rfl, rfl, by decide +kernel, rfl, by decide +kernel, by decide +kernel⟩
theorem yq1 {n : Nat} {f : Addr} {fd : FuncData} {g_l_mixed : (tz6)} {f_l_mixed : Addr} {fd_l_mixed : FuncData} {g_l_row : (tz6)} {f_l_row : Addr} {fd_l_row : FuncData} {g_l_set : (tz7)} {f_l_set : Addr} {fd_l_set : FuncData} {g_l_refused : (tz6)} {f_l_refused : Addr} {fd_l_refused : FuncData} {g_l_drawn : (tz6)} {f_l_drawn : Addr} {fd_l_drawn : FuncData} {g_p_set_by : (tz6)} {f_p_set_by : Addr} {fd_p_set_by : FuncData} (D_law : Dn K mg "law" nK ["_law_script"] f fd)
  (D_l_mixed : Dn K mg "_law_mixed" iB ["_law_script", "_law_k", "_law_salt"] f_l_mixed fd_l_mixed) (G_l_mixed : FnOk P w K mg base CX0 n f_l_mixed fd_l_mixed ["_law_script", "_law_k", "_law_salt"] (SpP 3 K U g_l_mixed))
  (D_l_row : Dn K mg "_law_row" mO ["_law_script", "_law_at", "_law_many", "_law_nest"] f_l_row fd_l_row) (G_l_row : FnOk P w K mg base CX0 n f_l_row fd_l_row ["_law_script", "_law_at", "_law_many", "_law_nest"] (SpP 4 K U g_l_row))
  (D_l_set : Dn K mg "_law_set" lE ["_law_script", "_law_row_here", "_law_flat", "_law_hang", "_law_state", "_law_salt"] f_l_set fd_l_set) (G_l_set : FnOk P w K mg base CX0 n f_l_set fd_l_set ["_law_script", "_law_row_here", "_law_flat", "_law_hang", "_law_state", "_law_salt"] (SpE 6 K U (aZ [false, false, false, false, true, false]) g_l_set))
  (D_l_refused : Dn K mg "_law_refused" iP ["_law_row_here", "_law_choices"] f_l_refused fd_l_refused) (G_l_refused : FnOk P w K mg base CX0 n f_l_refused fd_l_refused ["_law_row_here", "_law_choices"] (SpP 2 K U g_l_refused))
  (D_l_drawn : Dn K mg "_law_drawn" jZ ["_law_script", "_law_row_here", "_law_salt"] f_l_drawn fd_l_drawn) (G_l_drawn : FnOk P w K mg base CX0 n f_l_drawn fd_l_drawn ["_law_script", "_law_row_here", "_law_salt"] (SpP 3 K U g_l_drawn))
  (D_p_set_by : Dn K mg "set_by" gO ["row", "choices"] f_p_set_by fd_p_set_by) (G_p_set_by : FnOk P w K mg base CX0 n f_p_set_by fd_p_set_by ["row", "choices"] (SpP 2 K U g_p_set_by))
  (z_range : mg "range" = none)
  (z_tuple : mg "tuple" = none)
  (z_isinstance : mg "isinstance" = none)
  (z_str : mg "str" = none) :
  FnOk P w K mg base CX0 (n + 1) f fd ["_law_script"] (SpP 1 K U (gP 1 8 (zk8 g_l_mixed g_l_row g_l_set g_l_refused g_l_drawn g_p_set_by))) :=
 eW D_law.F nA fun cdv A outer s H E B hr =>
 (aO (bY 1 nA.nd rfl (.inl rfl) rfl rfl (QP.e (eM D_l_mixed G_l_mixed hr rfl rfl (aL (aC 0) (aL (QP.v aH) (aL (QP.v aH) bB))) (bA (bA (bA dA))))))
 (aO (bY 2 nA.nd rfl (.inl rfl) rfl rfl (QP.e (eM D_l_row G_l_row hr rfl rfl (aL (aC 0) (aL (QP.v aH) (aL (QP.v (bS fQ (QP.v aH) (QP.v (bS gY (aC 1) (QP.v aH))))) (aL (QP.v (oJ (dR (hZ (.int (.int (.int .nil))))) (QP.v (bS gY (QP.v (bS mC (aC 1) (QP.v aH))) (QP.v aH))))) bB)))) (bA (bA (bA (bA dA)))))))
 (aO (tO 3 PassesOwn.never rfl nA.nd rfl (.inl rfl) rfl rfl (qK rfl z_range (aL (QP.v aH) bB))
  (aO (bY 4 nA.nd rfl (.inl rfl) rfl rfl (QP.e (oJ (dR (hZ (.int (.int (.int .nil))))) (aC 3))))
 (aO (bY 5 nA.nd rfl (.inl rfl) rfl rfl (QP.e (dR (aW cC (aW (dR bQ) (aW aH bQ))))))
 (aO (cO (pJ (nQ (jW D_l_set G_l_set hr rfl (bC (aC 0) (bC (aC 2) (bC (QP.v iW) (bC (QP.v aH) (iM 5 (bC (aC 4) cR)))))) rfl (eX rfl) (show List.Nodup ([5] : List Nat) by decide) (fun j hj => by have h : j ∈ ([5] : List Nat) := hj; simp only [List.mem_cons, List.not_mem_nil, or_false] at h; rcases h with rfl <;> rfl))))
  (aO (bY 6 nA.nd rfl (.inl rfl) rfl rfl (QP.e (iF lJ rfl z_tuple boot_tuple (aL (bK (aC 5) (QP.v aH)) bB))))
 (aS (cO (QT.e (kQ (uZ (lW (fG (QP.v (eM D_l_refused G_l_refused hr rfl rfl (aL (aC 2) (aL (aC 6) bB)) (bA (bA dA)))))) (rM (lW (fG (QP.v (eM D_l_refused G_l_refused hr rfl rfl (aL (aC 2) (aL (QP.v (bS fQ (aC 6) (QP.v (gD (hZ (.int (.int (.int (.int .nil))))))))) bB)) (bA (bA dA))))))))))
  (aS (cP (QP.e iW)))
  bZ)))
  bZ)
 (aO (bY 7 nA.nd rfl (.inl rfl) rfl rfl (QP.e (eM D_l_drawn G_l_drawn hr rfl rfl (aL (aC 0) (aL (aC 2) (aL (aC 4) bB))) (bA (bA (bA dA))))))
 (aO (bY 8 nA.nd rfl (.inl rfl) rfl rfl (QP.e (eM D_p_set_by G_p_set_by hr rfl rfl (aL (aC 2) (aL (bK (aC 7) (QP.v aH)) bB)) (bA (bA dA)))))
 (aS (cO (QT.e (kQ (uZ (lW (fG (QP.v (eG zr8 rfl z_isinstance boot_isinstance (aL (aC 8) (aL (QP.v (zr3 rfl z_str boot_str)) bB)))))) (rM (cB (yd1 (Room.units hr)) (aC 8) (bK (aC 7) (QP.v aH)) (bX _))))))
  (aS (cP (QP.e iW)))
  bZ))))))))
 (aS (cP (QP.e iW))))))
noncomputable def tI  : tz1 :=
 (aK (dE 0 aP "Place" "broken" (aX (aA 1)))
 (dE 0 aP "Place" "margin" (aX (aA 2))))
noncomputable abbrev fV : Stmt := oA (top 5) 0
theorem zd1 : FnScope ["self", "broken", "margin"] ["self", "broken", "margin"] (aM fV) := ⟨rfl, rfl, rfl, by decide +kernel, rfl, by decide +kernel, by decide +kernel⟩
theorem zd2 {n : Nat} {f : Addr} {fd : FuncData}  (K_Place : Kn K mg U "Place" "Place.__init__" fV ["self", "broken", "margin"] f fd)
  (cl_Place : Cls K (U "Place"))
  (na_broken : cH K (U "Place") "broken")
  (na_margin : cH K (U "Place") "margin") :
  FnOk P w K mg base CX0 (n + 1) f fd ["self", "broken", "margin"] (SpE 3 K U (aZ [true, false, false]) (gE 3 0 (aZ [true, false, false]) (tI ))) :=
 mD K_Place.F zd1 (fun i hi => jG hi) fun cdv A outer s H E hr =>
 (aO (iG (C := "Place") cl_Place na_broken rfl (QV.p (aC 1)) (bH 0))
 (aS (iG (C := "Place") cl_Place na_margin rfl (QV.p (aC 2)) (bH 0))))
noncomputable def oG  : tz1 :=
 (aK (dE 0 aP "Setter" "choices" (aX (aA 1)))
 (aK (dE 0 aP "Setter" "used" (fC (.int 0)))
 (aK (dE 0 aP "Setter" "column" (fC (.int 0)))
 (dE 0 aP "Setter" "parts" (bL aD)))))
noncomputable abbrev fP : Stmt := oA (top 15) 0
theorem zV : FnScope ["self", "choices"] ["self", "choices"] (aM fP) := ⟨rfl, rfl, rfl, by decide +kernel, rfl, by decide +kernel, by decide +kernel⟩
theorem zW {n : Nat} {f : Addr} {fd : FuncData}  (K_Setter : Kn K mg U "Setter" "Setter.__init__" fP ["self", "choices"] f fd)
  (cl_Setter : Cls K (U "Setter"))
  (na_choices : cH K (U "Setter") "choices")
  (na_used : cH K (U "Setter") "used")
  (na_column : cH K (U "Setter") "column")
  (na_parts : cH K (U "Setter") "parts") :
  FnOk P w K mg base CX0 (n + 1) f fd ["self", "choices"] (SpE 2 K U (aZ [true, false]) (gE 2 0 (aZ [true, false]) (oG ))) :=
 mD K_Setter.F zV (fun i hi => jG hi) fun cdv A outer s H E hr =>
 (aO (iG (C := "Setter") cl_Setter na_choices rfl (QV.p (aC 1)) (bH 0))
 (aO (iG (C := "Setter") cl_Setter na_used rfl aH (bH 0))
 (aO (iG (C := "Setter") cl_Setter na_column rfl aH (bH 0))
 (aS (iG (C := "Setter") cl_Setter na_parts rfl (dR bQ) (bH 0))))))
noncomputable def jI  : tz1 :=
 (aK (fIf (aI (fB (f2 dGe (cL "Setter" "used" (aA 0)) (aG bP (aB (cL "Setter" "choices" (aA 0)) aD)))))
  pZ
  aY)
 (aK (aR 2 (aE (aX (f2 dIx (cL "Setter" "choices" (aA 0)) (cL "Setter" "used" (aA 0))))))
 (aK (fIf (aI (dS (fB (f2 dLt (aA 2) (fC (.int 0)))) (fB (f2 dGe (aA 2) (aA 1)))))
  pZ
  aY)
 (aK (dE 0 aP "Setter" "used" (f2 bG (cL "Setter" "used" (aA 0)) (fC (.int 1))))
 (eZ 2)))))
noncomputable abbrev cY : Stmt := oA (top 15) 1
theorem gN : FnScope ["self", "count", "number"] ["self", "count"] (aM cY) := ⟨rfl, rfl, rfl, by decide +kernel, rfl, by decide +kernel, by decide +kernel⟩
theorem qZ {n : Nat} {f : Addr} {fd : FuncData}  (M_Setter_choice_below : Mn K U "Setter" "choice_below" "Setter.choice_below" cY ["self", "count"] f fd)
  (cl_Setter : Cls K (U "Setter"))
  (na_used : cH K (U "Setter") "used")
  (na_choices : cH K (U "Setter") "choices")
  (z_len : mg "len" = none) :
  FnOk P w K mg base CX0 (n + 1) f fd ["self", "count"] (SpE 2 K U (aZ [true, false]) (gE 2 1 (aZ [true, false]) (jI ))) :=
 mD M_Setter_choice_below.F gN (fun i hi => jG hi) fun cdv A outer s H E hr =>
 (aO (cO (QT.e (cB wI (dW (C := "Setter") cl_Setter na_used (aC 0)) (QP.v (eG hX rfl z_len boot_len (aL (dW (C := "Setter") cl_Setter na_choices (aC 0)) bB))) (bX _)))
  (aS mI)
  bZ)
 (aO (bY 2 gN.nd rfl (.inl rfl) rfl rfl (QP.e (QV.p (bK (dW (C := "Setter") cl_Setter na_choices (aC 0)) (dW (C := "Setter") cl_Setter na_used (aC 0))))))
 (aO (cO (QT.e (kQ (uZ (cB (oW (Room.units0 hr)) (aC 2) (QP.v aH) (bX _)) (rM (cB wI (aC 2) (aC 1) (bX _))))))
  (aS mI)
  bZ)
 (aO (iG (C := "Setter") cl_Setter na_used rfl (bS fQ (dW (C := "Setter") cl_Setter na_used (aC 0)) (QP.v aH)) (bH 0))
 (aS (vA 2 rfl))))))
noncomputable def lU  : tz5 :=
 (rF (rE (fB (f2 dGe (cL "Setter" "used" (aA 0)) (aG bP (aB (cL "Setter" "choices" (aA 0)) aD)))) yR) (iU (fIf (aI (fB (f2 dGe (cL "Setter" "used" (aA 0)) (aG bP (aB (cL "Setter" "choices" (aA 0)) aD)))))
  pZ
  aY)
 (iU (aR 2 (aE (aX (f2 dIx (cL "Setter" "choices" (aA 0)) (cL "Setter" "used" (aA 0))))))
 (rE (dS (fB (f2 dLt (aA 2) (fC (.int 0)))) (fB (f2 dGe (aA 2) (aA 1)))) (yS [(aA 2), (aA 1)])))))
theorem qF {n : Nat} {f : Addr} {fd : FuncData} {C_NoChoice : Addr} (M_Setter_choice_below : Mn K U "Setter" "choice_below" "Setter.choice_below" cY ["self", "count"] f fd)
  (O_NoChoice : OwnCls "NoChoice" C_NoChoice bmV "ValueError.__new__" mg base)
  (cl_Setter : Cls K (U "Setter"))
  (na_used : cH K (U "Setter") "used")
  (na_choices : cH K (U "Setter") "choices")
  (z_len : mg "len" = none) :
  FnOk P w K mg base (CXn P w base C_NoChoice) (n + 1) f fd ["self", "count"] (lV 2 K U (aZ [true, false]) C_NoChoice (gX 2 1 (lU ))) :=
 mP M_Setter_choice_below.F gN fun cdv A outer s H E hr =>
 (pT (sH (cB wI (dW (C := "Setter") cl_Setter na_used (aC 0)) (QP.v (eG hX rfl z_len boot_len (aL (dW (C := "Setter") cl_Setter na_choices (aC 0)) bB))) (bX _)) (fO (pS O_NoChoice PySem.F.excBase_ValueError rfl))) (cO (QT.e (cB wI (dW (C := "Setter") cl_Setter na_used (aC 0)) (QP.v (eG hX rfl z_len boot_len (aL (dW (C := "Setter") cl_Setter na_choices (aC 0)) bB))) (bX _)))
  (aS mI)
  bZ)
 (lL (bY 2 gN.nd rfl (.inl rfl) rfl rfl (QP.e (QV.p (bK (dW (C := "Setter") cl_Setter na_choices (aC 0)) (dW (C := "Setter") cl_Setter na_used (aC 0))))))
 (fO (sH (kQ (uZ (cB (oW (Room.units0 hr)) (aC 2) (QP.v aH) (bX _)) (rM (cB wI (aC 2) (aC 1) (bX _))))) (fO (uC O_NoChoice PySem.F.excBase_ValueError rfl (zh6 (xT (aC 2) (zh6 (xT (aC 1) yq0))))))))))
noncomputable def iV (g_p_writing : (tz6)) (g_p_column_behind : (tz6)) : tz1 :=
 (aK (aR 3 (aE (aG g_p_writing (aB (aA 1) (aB (aA 2) (aB (cL "Setter" "column" (aA 0)) aD))))))
 (aK (fIf (aI (fB (f2 dIs (aA 3) (fC .non))))
  pZ
  aY)
 (aK (aV (bE 0 (gC 0 aP "Setter" "parts") (aB (aX (aA 3)) aD) bD))
 (dE 0 aP "Setter" "column" (aG g_p_column_behind (aB (cL "Setter" "column" (aA 0)) (aB (aA 3) aD)))))))
noncomputable abbrev dQ : Stmt := oA (top 15) 2
theorem iS : FnScope ["self", "piece", "place", "wrote"] ["self", "piece", "place"] (aM dQ) := ⟨rfl, rfl, rfl, by decide +kernel, rfl, by decide +kernel, by decide +kernel⟩
theorem tJ {n : Nat} {f : Addr} {fd : FuncData} {g_p_writing : (tz6)} {f_p_writing : Addr} {fd_p_writing : FuncData} {g_p_column_behind : (tz6)} {f_p_column_behind : Addr} {fd_p_column_behind : FuncData} (M_Setter_set_plain : Mn K U "Setter" "set_plain" "Setter.set_plain" dQ ["self", "piece", "place"] f fd)
  (D_p_writing : Dn K mg "writing" gT ["piece", "place", "column"] f_p_writing fd_p_writing) (G_p_writing : FnOk P w K mg base CX0 n f_p_writing fd_p_writing ["piece", "place", "column"] (SpP 3 K U g_p_writing))
  (D_p_column_behind : Dn K mg "column_behind" eV ["column", "wrote"] f_p_column_behind fd_p_column_behind) (G_p_column_behind : FnOk P w K mg base CX0 n f_p_column_behind fd_p_column_behind ["column", "wrote"] (SpP 2 K U g_p_column_behind))
  (cl_Setter : Cls K (U "Setter"))
  (na_column : cH K (U "Setter") "column")
  (na_parts : cH K (U "Setter") "parts") :
  FnOk P w K mg base CX0 (n + 1) f fd ["self", "piece", "place"] (SpE 3 K U (aZ [true, false, false]) (gE 3 1 (aZ [true, false, false]) (iV g_p_writing g_p_column_behind))) :=
 mD M_Setter_set_plain.F iS (fun i hi => jG hi) fun cdv A outer s H E hr =>
 (aO (bY 3 iS.nd rfl (.inl rfl) rfl rfl (QP.e (eM D_p_writing G_p_writing hr rfl rfl (aL (aC 1) (aL (aC 2) (aL (dW (C := "Setter") cl_Setter na_column (aC 0)) bB))) (bA (bA (bA dA))))))
 (aO (cO (QT.e (cB zr7 (aC 3) (QP.v tM) (bX _)))
  (aS mI)
  bZ)
 (aO (eL (iY (j := 0) rfl (tT (C := "Setter") cl_Setter na_parts (bH 0)) (aW (QV.p (aC 3)) bQ)))
 (aS (iG (C := "Setter") cl_Setter na_column rfl (eM D_p_column_behind G_p_column_behind hr rfl rfl (aL (dW (C := "Setter") cl_Setter na_column (aC 0)) (aL (aC 3) bB)) (bA (bA dA))) (bH 0))))))
noncomputable def nL (g_p_writing : (tz6)) : tz5 :=
 (iU (aR 3 (aE (aG g_p_writing (aB (aA 1) (aB (aA 2) (aB (cL "Setter" "column" (aA 0)) aD))))))
 (rE (fB (f2 dIs (aA 3) (fC .non))) yR))
theorem sK {n : Nat} {f : Addr} {fd : FuncData} {g_p_writing : (tz6)} {f_p_writing : Addr} {fd_p_writing : FuncData} {C_NoChoice : Addr} (M_Setter_set_plain : Mn K U "Setter" "set_plain" "Setter.set_plain" dQ ["self", "piece", "place"] f fd)
  (D_p_writing : Dn K mg "writing" gT ["piece", "place", "column"] f_p_writing fd_p_writing) (G_p_writing : FnOk P w K mg base CX0 n f_p_writing fd_p_writing ["piece", "place", "column"] (SpP 3 K U g_p_writing))
  (O_NoChoice : OwnCls "NoChoice" C_NoChoice bmV "ValueError.__new__" mg base)
  (cl_Setter : Cls K (U "Setter"))
  (na_column : cH K (U "Setter") "column")
  (na_parts : cH K (U "Setter") "parts") :
  FnOk P w K mg base (CXn P w base C_NoChoice) (n + 1) f fd ["self", "piece", "place"] (lV 3 K U (aZ [true, false, false]) C_NoChoice (gX 3 1 (nL g_p_writing))) :=
 mP M_Setter_set_plain.F iS fun cdv A outer s H E hr =>
 (lL (bY 3 iS.nd rfl (.inl rfl) rfl rfl (QP.e (eM D_p_writing G_p_writing hr rfl rfl (aL (aC 1) (aL (aC 2) (aL (dW (C := "Setter") cl_Setter na_column (aC 0)) bB))) (bA (bA (bA dA))))))
 (fO (sH (cB zr7 (aC 3) (QP.v tM) (bX _)) (fO (pS O_NoChoice PySem.F.excBase_ValueError rfl)))))
noncomputable def iC (g_p_ways : (tz6)) (g_p_takes_choice : (tz6)) (g_Setter_choice_below : (tz7)) (g_Setter_set_row : (tz7)) : tz1 :=
 (aK (aR 3 (aE (aG g_p_ways (aB (aA 1) (aB (aA 2) aD)))))
 (aK (aR 4 (aE (fC (.int 0))))
 (aK (fIf (aI (fT (aG g_p_takes_choice (aB (aA 1) (aB (aA 2) aD)))))
  (aR 4 (bE 0 aP (aU [.im (aG bP (aB (aA 3) aD))]) (eO "Setter" "choice_below" g_Setter_choice_below)))
  aY)
 (aK (aR 5 (aE (aX (f2 dIx (aA 3) (aA 4)))))
 (aV (bE 0 aP (aU [.im (f2 dIx (aA 5) (fC (.int 0))), .im (f2 dIx (aA 5) (fC (.int 1)))]) (eO "Setter" "set_row" g_Setter_set_row)))))))
noncomputable abbrev dN : Stmt := oA (top 15) 3
theorem cS : FnScope ["self", "piece", "place", "found", "number", "way"] ["self", "piece", "place"] (aM dN) := ⟨rfl, rfl, rfl, by decide +kernel, rfl, by decide +kernel, by decide +kernel⟩
theorem nB {n : Nat} {f : Addr} {fd : FuncData} {g_p_ways : (tz6)} {f_p_ways : Addr} {fd_p_ways : FuncData} {g_p_takes_choice : (tz6)} {f_p_takes_choice : Addr} {fd_p_takes_choice : FuncData} {g_Setter_choice_below : (tz7)} {f_Setter_choice_below : Addr} {fd_Setter_choice_below : FuncData} {g_Setter_set_row : (tz7)} {f_Setter_set_row : Addr} {fd_Setter_set_row : FuncData} (M_Setter_set_holder : Mn K U "Setter" "set_holder" "Setter.set_holder" dN ["self", "piece", "place"] f fd)
  (D_p_ways : Dn K mg "ways" jD ["piece", "place"] f_p_ways fd_p_ways) (G_p_ways : FnOk P w K mg base CX0 n f_p_ways fd_p_ways ["piece", "place"] (SpP 2 K U g_p_ways))
  (D_p_takes_choice : Dn K mg "takes_choice" eR ["piece", "place"] f_p_takes_choice fd_p_takes_choice) (G_p_takes_choice : FnOk P w K mg base CX0 n f_p_takes_choice fd_p_takes_choice ["piece", "place"] (SpP 2 K U g_p_takes_choice))
  (M_Setter_choice_below : Mn K U "Setter" "choice_below" "Setter.choice_below" cY ["self", "count"] f_Setter_choice_below fd_Setter_choice_below) (G_Setter_choice_below : FnOk P w K mg base CX0 n f_Setter_choice_below fd_Setter_choice_below ["self", "count"] (SpE 2 K U (aZ [true, false]) g_Setter_choice_below))
  (M_Setter_set_row : Mn K U "Setter" "set_row" "Setter.set_row" dJ ["self", "row", "place"] f_Setter_set_row fd_Setter_set_row) (G_Setter_set_row : FnOk P w K mg base CX0 n f_Setter_set_row fd_Setter_set_row ["self", "row", "place"] (SpE 3 K U (aZ [true, false, false]) g_Setter_set_row))
  (z_len : mg "len" = none) :
  FnOk P w K mg base CX0 (n + 1) f fd ["self", "piece", "place"] (SpE 3 K U (aZ [true, false, false]) (gE 3 3 (aZ [true, false, false]) (iC g_p_ways g_p_takes_choice g_Setter_choice_below g_Setter_set_row))) :=
 mD M_Setter_set_holder.F cS (fun i hi => jG hi) fun cdv A outer s H E hr =>
 (aO (bY 3 cS.nd rfl (.inl rfl) rfl rfl (QP.e (eM D_p_ways G_p_ways hr rfl rfl (aL (aC 1) (aL (aC 2) bB)) (bA (bA dA)))))
 (aO (bY 4 cS.nd rfl (.inl rfl) rfl rfl (QP.e aH))
 (aO (cO (QT.e (fG (QP.v (eM D_p_takes_choice G_p_takes_choice hr rfl rfl (aL (aC 1) (aL (aC 2) bB)) (bA (bA dA))))))
  (aS (bY 4 cS.nd rfl (.inl rfl) rfl rfl (jO M_Setter_choice_below G_Setter_choice_below hr rfl (bH 0) (bC (QP.v (eG hX rfl z_len boot_len (aL (aC 3) bB))) cR) rfl rfl (dM 1))))
  bZ)
 (aO (bY 5 cS.nd rfl (.inl rfl) rfl rfl (QP.e (QV.p (bK (aC 3) (aC 4)))))
 (aS (eL (jO M_Setter_set_row G_Setter_set_row hr rfl (bH 0) (bC (bK (aC 5) (QP.v aH)) (bC (bK (aC 5) (QP.v aH)) cR)) rfl rfl (dM 2))))))))
noncomputable def mT (g_p_ways : (tz6)) (g_p_takes_choice : (tz6)) (g_Setter_choice_below : (tz7)) (gx_Setter_choice_below : (List D -> Bool)) (gx_Setter_set_row : (List D -> Bool)) : tz5 :=
 (iU (aR 3 (aE (aG g_p_ways (aB (aA 1) (aB (aA 2) aD)))))
 (iU (aR 4 (aE (fC (.int 0))))
 (rF (rE (fT (aG g_p_takes_choice (aB (aA 1) (aB (aA 2) aD)))) (lS 0 aP (aU [.im (aG bP (aB (aA 3) aD))]) (kD "Setter" "choice_below" gx_Setter_choice_below))) (iU (fIf (aI (fT (aG g_p_takes_choice (aB (aA 1) (aB (aA 2) aD)))))
  (aR 4 (bE 0 aP (aU [.im (aG bP (aB (aA 3) aD))]) (eO "Setter" "choice_below" g_Setter_choice_below)))
  aY)
 (iU (aR 5 (aE (aX (f2 dIx (aA 3) (aA 4)))))
 (lS 0 aP (aU [.im (f2 dIx (aA 5) (fC (.int 0))), .im (f2 dIx (aA 5) (fC (.int 1)))]) (kD "Setter" "set_row" gx_Setter_set_row)))))))
theorem rP {n : Nat} {f : Addr} {fd : FuncData} {g_p_ways : (tz6)} {f_p_ways : Addr} {fd_p_ways : FuncData} {g_p_takes_choice : (tz6)} {f_p_takes_choice : Addr} {fd_p_takes_choice : FuncData} {g_Setter_choice_below : (tz7)} {f_Setter_choice_below : Addr} {fd_Setter_choice_below : FuncData} {gx_Setter_choice_below : (List D -> Bool)} {gx_Setter_set_row : (List D -> Bool)} {f_Setter_set_row : Addr} {fd_Setter_set_row : FuncData} {C_NoChoice : Addr} (M_Setter_set_holder : Mn K U "Setter" "set_holder" "Setter.set_holder" dN ["self", "piece", "place"] f fd)
  (D_p_ways : Dn K mg "ways" jD ["piece", "place"] f_p_ways fd_p_ways) (G_p_ways : FnOk P w K mg base CX0 n f_p_ways fd_p_ways ["piece", "place"] (SpP 2 K U g_p_ways))
  (D_p_takes_choice : Dn K mg "takes_choice" eR ["piece", "place"] f_p_takes_choice fd_p_takes_choice) (G_p_takes_choice : FnOk P w K mg base CX0 n f_p_takes_choice fd_p_takes_choice ["piece", "place"] (SpP 2 K U g_p_takes_choice))
  (M_Setter_choice_below : Mn K U "Setter" "choice_below" "Setter.choice_below" cY ["self", "count"] f_Setter_choice_below fd_Setter_choice_below) (G_Setter_choice_below : FnOk P w K mg base CX0 n f_Setter_choice_below fd_Setter_choice_below ["self", "count"] (SpE 2 K U (aZ [true, false]) g_Setter_choice_below))
   (GX_Setter_choice_below : FnOk P w K mg base (CXn P w base C_NoChoice) n f_Setter_choice_below fd_Setter_choice_below ["self", "count"] (lV 2 K U (aZ [true, false]) C_NoChoice gx_Setter_choice_below))
  (M_Setter_set_row : Mn K U "Setter" "set_row" "Setter.set_row" dJ ["self", "row", "place"] f_Setter_set_row fd_Setter_set_row) (GX_Setter_set_row : FnOk P w K mg base (CXn P w base C_NoChoice) n f_Setter_set_row fd_Setter_set_row ["self", "row", "place"] (lV 3 K U (aZ [true, false, false]) C_NoChoice gx_Setter_set_row))
  (O_NoChoice : OwnCls "NoChoice" C_NoChoice bmV "ValueError.__new__" mg base)
  (z_len : mg "len" = none) :
  FnOk P w K mg base (CXn P w base C_NoChoice) (n + 1) f fd ["self", "piece", "place"] (lV 3 K U (aZ [true, false, false]) C_NoChoice (gX 3 3 (mT g_p_ways g_p_takes_choice g_Setter_choice_below gx_Setter_choice_below gx_Setter_set_row))) :=
 mP M_Setter_set_holder.F cS fun cdv A outer s H E hr =>
 (lL (bY 3 cS.nd rfl (.inl rfl) rfl rfl (QP.e (eM D_p_ways G_p_ways hr rfl rfl (aL (aC 1) (aL (aC 2) bB)) (bA (bA dA)))))
 (lL (bY 4 cS.nd rfl (.inl rfl) rfl rfl (QP.e aH))
 (pT (sH (fG (QP.v (eM D_p_takes_choice G_p_takes_choice hr rfl rfl (aL (aC 1) (aL (aC 2) bB)) (bA (bA dA))))) (fO (zh5 4 cS.nd rfl (.inl rfl) (nR M_Setter_choice_below GX_Setter_choice_below hr rfl (bH 0) (bC (QP.v (eG hX rfl z_len boot_len (aL (aC 3) bB))) cR) rfl rfl (dM 1))))) (cO (QT.e (fG (QP.v (eM D_p_takes_choice G_p_takes_choice hr rfl rfl (aL (aC 1) (aL (aC 2) bB)) (bA (bA dA))))))
  (aS (bY 4 cS.nd rfl (.inl rfl) rfl rfl (jO M_Setter_choice_below G_Setter_choice_below hr rfl (bH 0) (bC (QP.v (eG hX rfl z_len boot_len (aL (aC 3) bB))) cR) rfl rfl (dM 1))))
  bZ)
 (lL (bY 5 cS.nd rfl (.inl rfl) rfl rfl (QP.e (QV.p (bK (aC 3) (aC 4)))))
 (fO (pK (nR M_Setter_set_row GX_Setter_set_row hr rfl (bH 0) (bC (bK (aC 5) (QP.v aH)) (bC (bK (aC 5) (QP.v aH)) cR)) rfl rfl (dM 2))))))))
noncomputable def jM (g_p_holds_rows : (tz6)) (g_Setter_set_holder : (tz7)) (g_Setter_set_plain : (tz7)) : tz1 :=
 (kH 3 (gA (aA 1))
  (fIf (aI (fT (aG g_p_holds_rows (aB (aA 3) aD))))
  (aV (bE 0 aP (aU [.im (aA 3), .im (aA 2)]) (eO "Setter" "set_holder" g_Setter_set_holder)))
  (aV (bE 0 aP (aU [.im (aA 3), .im (aA 2)]) (eO "Setter" "set_plain" g_Setter_set_plain)))))
noncomputable abbrev dJ : Stmt := oA (top 15) 4
theorem jK : FnScope ["self", "row", "place", "piece"] ["self", "row", "place"] (aM dJ) := ⟨rfl, rfl, rfl, by decide +kernel, rfl, by decide +kernel, by decide +kernel⟩
theorem wA {n : Nat} {f : Addr} {fd : FuncData} {g_p_holds_rows : (tz6)} {f_p_holds_rows : Addr} {fd_p_holds_rows : FuncData} {g_Setter_set_holder : (tz7)} {f_Setter_set_holder : Addr} {fd_Setter_set_holder : FuncData} {g_Setter_set_plain : (tz7)} {f_Setter_set_plain : Addr} {fd_Setter_set_plain : FuncData} (M_Setter_set_row : Mn K U "Setter" "set_row" "Setter.set_row" dJ ["self", "row", "place"] f fd)
  (D_p_holds_rows : Dn K mg "holds_rows" fE ["piece"] f_p_holds_rows fd_p_holds_rows) (G_p_holds_rows : FnOk P w K mg base CX0 n f_p_holds_rows fd_p_holds_rows ["piece"] (SpP 1 K U g_p_holds_rows))
  (M_Setter_set_holder : Mn K U "Setter" "set_holder" "Setter.set_holder" dN ["self", "piece", "place"] f_Setter_set_holder fd_Setter_set_holder) (G_Setter_set_holder : FnOk P w K mg base CX0 n f_Setter_set_holder fd_Setter_set_holder ["self", "piece", "place"] (SpE 3 K U (aZ [true, false, false]) g_Setter_set_holder))
  (M_Setter_set_plain : Mn K U "Setter" "set_plain" "Setter.set_plain" dQ ["self", "piece", "place"] f_Setter_set_plain fd_Setter_set_plain) (G_Setter_set_plain : FnOk P w K mg base CX0 n f_Setter_set_plain fd_Setter_set_plain ["self", "piece", "place"] (SpE 3 K U (aZ [true, false, false]) g_Setter_set_plain)) :
  FnOk P w K mg base CX0 (n + 1) f fd ["self", "row", "place"] (SpE 3 K U (aZ [true, false, false]) (gE 3 1 (aZ [true, false, false]) (jM g_p_holds_rows g_Setter_set_holder g_Setter_set_plain))) :=
 mD M_Setter_set_row.F jK (fun i hi => jG hi) fun cdv A outer s H E hr =>
 (aS (vB 3 1 PassesOwn.never rfl jK.nd rfl (.inl rfl) rfl rfl rfl
  (aS (cO (QT.e (fG (QP.v (eM D_p_holds_rows G_p_holds_rows hr rfl rfl (aL (aC 3) bB) (bA dA)))))
  (aS (eL (jO M_Setter_set_holder G_Setter_set_holder hr rfl (bH 0) (bC (aC 3) (bC (aC 2) cR)) rfl rfl (dM 2))))
  (aS (eL (jO M_Setter_set_plain G_Setter_set_plain hr rfl (bH 0) (bC (aC 3) (bC (aC 2) cR)) rfl rfl (dM 2))))))))
noncomputable def oS (g_p_holds_rows : (tz6)) (g_Setter_set_holder : (tz7)) (gx_Setter_set_holder : (List D -> Bool)) (g_Setter_set_plain : (tz7)) (gx_Setter_set_plain : (List D -> Bool)) : tz5 :=
 (ze3 3 (gA (aA 1))
  (fIf (aI (fT (aG g_p_holds_rows (aB (aA 3) aD))))
  (aV (bE 0 aP (aU [.im (aA 3), .im (aA 2)]) (eO "Setter" "set_holder" g_Setter_set_holder)))
  (aV (bE 0 aP (aU [.im (aA 3), .im (aA 2)]) (eO "Setter" "set_plain" g_Setter_set_plain))))
  (pH (fT (aG g_p_holds_rows (aB (aA 3) aD)))
  (lS 0 aP (aU [.im (aA 3), .im (aA 2)]) (kD "Setter" "set_holder" gx_Setter_set_holder))
  (lS 0 aP (aU [.im (aA 3), .im (aA 2)]) (kD "Setter" "set_plain" gx_Setter_set_plain))))
theorem uI {n : Nat} {f : Addr} {fd : FuncData} {g_p_holds_rows : (tz6)} {f_p_holds_rows : Addr} {fd_p_holds_rows : FuncData} {g_Setter_set_holder : (tz7)} {f_Setter_set_holder : Addr} {fd_Setter_set_holder : FuncData} {gx_Setter_set_holder : (List D -> Bool)} {g_Setter_set_plain : (tz7)} {f_Setter_set_plain : Addr} {fd_Setter_set_plain : FuncData} {gx_Setter_set_plain : (List D -> Bool)} {C_NoChoice : Addr} (M_Setter_set_row : Mn K U "Setter" "set_row" "Setter.set_row" dJ ["self", "row", "place"] f fd)
  (D_p_holds_rows : Dn K mg "holds_rows" fE ["piece"] f_p_holds_rows fd_p_holds_rows) (G_p_holds_rows : FnOk P w K mg base CX0 n f_p_holds_rows fd_p_holds_rows ["piece"] (SpP 1 K U g_p_holds_rows))
  (M_Setter_set_holder : Mn K U "Setter" "set_holder" "Setter.set_holder" dN ["self", "piece", "place"] f_Setter_set_holder fd_Setter_set_holder) (G_Setter_set_holder : FnOk P w K mg base CX0 n f_Setter_set_holder fd_Setter_set_holder ["self", "piece", "place"] (SpE 3 K U (aZ [true, false, false]) g_Setter_set_holder))
   (GX_Setter_set_holder : FnOk P w K mg base (CXn P w base C_NoChoice) n f_Setter_set_holder fd_Setter_set_holder ["self", "piece", "place"] (lV 3 K U (aZ [true, false, false]) C_NoChoice gx_Setter_set_holder))
  (M_Setter_set_plain : Mn K U "Setter" "set_plain" "Setter.set_plain" dQ ["self", "piece", "place"] f_Setter_set_plain fd_Setter_set_plain) (G_Setter_set_plain : FnOk P w K mg base CX0 n f_Setter_set_plain fd_Setter_set_plain ["self", "piece", "place"] (SpE 3 K U (aZ [true, false, false]) g_Setter_set_plain))
   (GX_Setter_set_plain : FnOk P w K mg base (CXn P w base C_NoChoice) n f_Setter_set_plain fd_Setter_set_plain ["self", "piece", "place"] (lV 3 K U (aZ [true, false, false]) C_NoChoice gx_Setter_set_plain))
  (O_NoChoice : OwnCls "NoChoice" C_NoChoice bmV "ValueError.__new__" mg base) :
  FnOk P w K mg base (CXn P w base C_NoChoice) (n + 1) f fd ["self", "row", "place"] (lV 3 K U (aZ [true, false, false]) C_NoChoice (gX 3 1 (oS g_p_holds_rows g_Setter_set_holder gx_Setter_set_holder g_Setter_set_plain gx_Setter_set_plain))) :=
 mP M_Setter_set_row.F jK fun cdv A outer s H E hr =>
 (fO (zS 3 1 PassesOwn.leaving rfl jK.nd rfl (.inl rfl) rfl rfl rfl
  (aS (cO (QT.e (fG (QP.v (eM D_p_holds_rows G_p_holds_rows hr rfl rfl (aL (aC 3) bB) (bA dA)))))
  (aS (eL (jO M_Setter_set_holder G_Setter_set_holder hr rfl (bH 0) (bC (aC 3) (bC (aC 2) cR)) rfl rfl (dM 2))))
  (aS (eL (jO M_Setter_set_plain G_Setter_set_plain hr rfl (bH 0) (bC (aC 3) (bC (aC 2) cR)) rfl rfl (dM 2))))))
  (fO (zh4 (fG (QP.v (eM D_p_holds_rows G_p_holds_rows hr rfl rfl (aL (aC 3) bB) (bA dA))))
  (fO (pK (nR M_Setter_set_holder GX_Setter_set_holder hr rfl (bH 0) (bC (aC 3) (bC (aC 2) cR)) rfl rfl (dM 2))))
  (fO (pK (nR M_Setter_set_plain GX_Setter_set_plain hr rfl (bH 0) (bC (aC 3) (bC (aC 2) cR)) rfl rfl (dM 2))))))))
noncomputable def kA  : tz1 :=
 (aK (fIf (aI (fB (f2 dLt (cL "Setter" "used" (aA 0)) (aG bP (aB (cL "Setter" "choices" (aA 0)) aD)))))
  pZ
  aY)
 (bJ (aE (fMt vN (fC (.str "")) (aB (cL "Setter" "parts" (aA 0)) aD)))))
noncomputable abbrev dO : Stmt := oA (top 15) 5
theorem nC : FnScope ["self"] ["self"] (aM dO) := ⟨rfl, rfl, rfl, by decide +kernel, rfl, by decide +kernel, by decide +kernel⟩
theorem sL {n : Nat} {f : Addr} {fd : FuncData}  (M_Setter_whole_text : Mn K U "Setter" "whole_text" "Setter.whole_text" dO ["self"] f fd)
  (cl_Setter : Cls K (U "Setter"))
  (na_used : cH K (U "Setter") "used")
  (na_parts : cH K (U "Setter") "parts")
  (na_choices : cH K (U "Setter") "choices")
  (z_len : mg "len" = none) :
  FnOk P w K mg base CX0 (n + 1) f fd ["self"] (SpP 1 K U (gP 1 0 (kA ))) :=
 eW M_Setter_whole_text.F nC fun cdv A outer s H E B hr =>
 (aO (cO (QT.e (cB (oW (Room.units0 hr)) (dW (C := "Setter") cl_Setter na_used (aC 0)) (QP.v (eG hX rfl z_len boot_len (aL (dW (C := "Setter") cl_Setter na_choices (aC 0)) bB))) (bX _)))
  (aS mI)
  bZ)
 (aS (cP (QP.e (xM PySem.F.slot_str_join PySem.F.type_str_join zg1 (QP.v cC) (aL (dW (C := "Setter") cl_Setter na_parts (aC 0)) bB))))))
noncomputable def mU  : tz5 :=
 (rE (fB (f2 dLt (cL "Setter" "used" (aA 0)) (aG bP (aB (cL "Setter" "choices" (aA 0)) aD)))) yR)
theorem rQ {n : Nat} {f : Addr} {fd : FuncData} {C_NoChoice : Addr} (M_Setter_whole_text : Mn K U "Setter" "whole_text" "Setter.whole_text" dO ["self"] f fd)
  (O_NoChoice : OwnCls "NoChoice" C_NoChoice bmV "ValueError.__new__" mg base)
  (cl_Setter : Cls K (U "Setter"))
  (na_used : cH K (U "Setter") "used")
  (na_parts : cH K (U "Setter") "parts")
  (na_choices : cH K (U "Setter") "choices")
  (z_len : mg "len" = none) :
  FnOk P w K mg base (CXn P w base C_NoChoice) (n + 1) f fd ["self"] (rD 1 K U C_NoChoice (gX 1 0 (mU ))) :=
 qL M_Setter_whole_text.F nC fun cdv A outer s H E B hr =>
 (fO (sH (cB (oW (Room.units0 hr)) (dW (C := "Setter") cl_Setter na_used (aC 0)) (QP.v (eG hX rfl z_len boot_len (aL (dW (C := "Setter") cl_Setter na_choices (aC 0)) bB))) (bX _)) (fO (pS O_NoChoice PySem.F.excBase_ValueError rfl))))
end L3
namespace My
open PySem PySem.Spec PyProof.Rows L2 L3
noncomputable def cZ : Leaf -> D
 | .word x => .tup [.str "word", .str x]
 | .gap x => .tup [.str "gap", .str x]
 | .stop c => .tup [.str "stop", .int c]
 | .fin => .tup [.str "end"]
mutual
noncomputable def pcD : Pc -> D
 | .leaf l => cZ l
 | .group r => .tup [.str "group", .tup (aQ r)]
 | .hang n r => .tup [.str "hang", .int n, .tup (aQ r)]
 | .either rs => .tup [.str "either", .tup (cI rs)]
noncomputable def aQ : List Pc -> List D
 | [] => []
 | p :: r => pcD p :: aQ r
noncomputable def cI : List (List Pc) -> List D
 | [] => []
 | r :: rs => .tup (aQ r) :: cI rs
end
theorem zi3 (l : Leaf) : (cZ l).imm = true := by cases l <;> rfl
mutual
theorem oO : ∀ p : Pc, (pcD p).imm = true
 | .leaf l => zi3 l
 | .group r => by show (D.imm (.str "group") && (D.imm (.tup (aQ r)) && D.imms [])) = true; rw [show D.imm (.tup (aQ r)) = D.imms (aQ r) from rfl, dZ r]; rfl
 | .hang n r => by show (D.imm (.str "hang") && (D.imm (.int n) && (D.imm (.tup (aQ r)) && D.imms []))) = true; rw [show D.imm (.tup (aQ r)) = D.imms (aQ r) from rfl, dZ r]; rfl
 | .either rs => by show (D.imm (.str "either") && (D.imm (.tup (cI rs)) && D.imms [])) = true; rw [show D.imm (.tup (cI rs)) = D.imms (cI rs) from rfl, mL rs]; rfl
theorem dZ : ∀ r : List Pc, D.imms (aQ r) = true
 | [] => rfl
 | p :: r => by show (D.imm (pcD p) && D.imms (aQ r)) = true; rw [oO p, dZ r]; rfl
theorem mL : ∀ rs : List (List Pc), D.imms (cI rs) = true
 | [] => rfl
 | r :: rs => by show (D.imm (.tup (aQ r)) && D.imms (cI rs)) = true; rw [show D.imm (.tup (aQ r)) = D.imms (aQ r) from rfl, dZ r, mL rs]; rfl
end
theorem wT : ∀ a b : List Pc, aQ (a ++ b) = aQ a ++ aQ b
 | [], b => rfl
 | p :: a, b => by show pcD p :: aQ (a ++ b) = pcD p :: (aQ a ++ aQ b); rw [wT a b]
theorem uJ : ∀ a b : List (List Pc), cI (a ++ b) = cI a ++ cI b
 | [], b => rfl
 | p :: a, b => by show D.tup (aQ p) :: cI (a ++ b) = D.tup (aQ p) :: (cI a ++ cI b); rw [uJ a b]
theorem wU : ∀ a : List Pc, (aQ a).length = a.length
 | [] => rfl
 | p :: a => by show (aQ a).length + 1 = a.length + 1; rw [wU a]
theorem jS : ∀ a : List (List Pc), (cI a).length = a.length
 | [] => rfl
 | p :: a => by show (cI a).length + 1 = a.length + 1; rw [jS a]
theorem zn8 {α β : Type} (f : α -> β) (hf : ∀ a b, f a = f b -> a = b) : ∀ {l m : List α}, l.map f = m.map f -> l = m
 | [], [], _ => rfl
 | [], _ :: _, h => by simp at h
 | _ :: _, [], h => by simp at h
 | a :: l, b :: m, h => by
  simp only [List.map_cons, List.cons.injEq] at h
  rw [hf a b h.1, zn8 f hf h.2]
theorem bF (a b : String) : (Str.ofString a = Str.ofString b) = (a = b) := by
 refine propext ⟨fun h => ?_, fun h => by rw [h]⟩
 rw [Str.ofString_eq_toList, Str.ofString_eq_toList] at h
 have h1 : (a.toList.map Char.toNat).toArray = (b.toList.map Char.toNat).toArray := (Str.mk.inj h)
 have h2 : a.toList.map Char.toNat = b.toList.map Char.toNat := by simpa using congrArg Array.toList h1
 have h3 : a.toList = b.toList := zn8 _ (fun x y e => by
  have : Char.ofNat x.toNat = Char.ofNat y.toNat := by rw [e]
  simpa using this) h2
 exact String.toList_inj.mp h3
theorem cV {α : Type} (a : α) (l : List α) : atI (a :: l) 0 = some a := by simp [atI, ixN]
theorem cK {α : Type} (a b : α) (l : List α) : atI (a :: b :: l) 1 = some b := by
 have h : ixN (a :: b :: l).length 1 = some 1 := by unfold ixN; rw [if_pos (by decide), if_pos (by simp only [List.length_cons]; omega)]; rfl
 simp only [atI, h]; rfl
theorem fH {α : Type} (a b c : α) (l : List α) : atI (a :: b :: c :: l) 2 = some c := by
 have h : ixN (a :: b :: c :: l).length 2 = some 2 := by unfold ixN; rw [if_pos (by decide), if_pos (by simp only [List.length_cons]; omega)]; rfl
 simp only [atI, h]; rfl
theorem sz {n : Nat} (h : n <= 1000) : n <= sizeLine := zd5 h
theorem sz1 {n : Nat} (h : n <= 1000) : n < sizeLine := qH h
theorem zl9 {rs : List (List Pc)} {r : List Pc} (h : r ∈ rs) : (bO r).length <= (eK rs).length := by
 induction rs with
 | nil => simp at h
 | cons q rs ih =>
  show _ <= (Tk.orr :: (bO q ++ eK rs)).length
  rw [List.length_cons, List.length_append]
  rcases List.mem_cons.mp h with e | e
  ·subst e; omega
  ·have := ih e; omega
theorem rA {rs : List (List Pc)} {r : List Pc} (h : r ∈ rs) : (bO r).length <= (oE rs).length := by
 cases rs with
 | nil => simp at h
 | cons q rs =>
  show _ <= (bO q ++ eK rs).length
  rw [List.length_append]
  rcases List.mem_cons.mp h with e | e
  ·subst e; omega
  ·have := zl9 e; omega
end My
namespace My
open PySem PySem.Spec PyProof.Rows L2 L3
theorem gH (n : Nat) : ixN (n + 1) (-1) = some n := by
 unfold ixN
 rw [if_neg (by decide), if_pos (by omega)]
 congr 1
 omega
theorem gI {α : Type} (l : List α) (a b : α) : (l ++ [a]).set l.length b = l ++ [b] := by
 induction l with
 | nil => rfl
 | cons x l ih => show x :: (l ++ [a]).set l.length b = _; rw [ih]; rfl
theorem oX (n : Nat) : ixN (n + 1) 0 = some 0 := by unfold ixN; rw [if_pos (by decide), if_pos (by omega)]; rfl
theorem xW : ixN 3 1 = some 1 := by decide
theorem zd6 : ixN 3 2 = some 2 := by decide
theorem dC (i j : Int) : eB (.int i) (.int j) = if 0 < j then some (.int (i % j)) else none := by simp [eB, dII]
theorem dU (i j : Int) : gJ (.int i) (.int j) = if 0 < j /\ j < 1073741824 then some (.int (i / j)) else none := by simp [gJ, dII]
theorem eC (x y : Str) : (x ++ y).cps.toList = x.cps.toList ++ y.cps.toList := by
 show (x.cps ++ y.cps).toList = _
 simp
theorem eD (x y : Str) : (x ++ y).length = x.length + y.length := by
 show (x.cps ++ y.cps).size = x.cps.size + y.cps.size
 simp
noncomputable def sg : Str := ("abcdefghijklmnopqrstuvwxyzABCDEFGHIJKLMNOPQRSTUVWXYZ0123456789" : Str) ++ ("!\"#$&'()*+,-./:;<=>?\x40[\\]^_`{|}~" : Str)
theorem zy9 : sg.cps.toList.length = 93 := by decide +kernel
theorem yk4 : sg.cps.toList.all vR = true := by decide +kernel
theorem yk5 : sg.length <= sizeLine := by
 have e : sg.length = sg.cps.toList.length := by simp [Str.length]
 rw [e, zy9]; exact sz (by decide)
theorem nU {α : Type} (xs : List α) (i : Int) (h0 : 0 <= i) (h1 : i < xs.length) : ∃ v ∈ xs, atI xs i = some v := by
 have hn : i.toNat < xs.length := by omega
 obtain ⟨v, hv⟩ : ∃ v, xs[i.toNat]? = some v := ⟨_, List.getElem?_eq_getElem hn⟩
 refine ⟨v, List.mem_of_getElem? hv, ?_⟩
 have e : i = ((i.toNat : Nat) : Int) := by omega
 rw [e]
 exact zB hv
theorem yt8 (i : Int) (h0 : 0 <= i) (h1 : i < 93) : ∃ c, atI sg.cps.toList i = some c /\ vR c = true := by
 obtain ⟨c, hc, e⟩ := nU sg.cps.toList i h0 (by rw [zy9]; omega)
 exact ⟨c, e, List.all_eq_true.mp yk4 c hc⟩
theorem yq2 (n : Nat) : lR 0 n = ((List.range n).map fun (k : Nat) => (k : Int)).map .int := by
 unfold lR
 rw [List.map_map]
 refine List.map_congr_left fun k _ => ?_
 show D.int (0 + (k : Int)) = D.int (k : Int)
 rw [Int.zero_add]
theorem yk6 (m : Int) : ∃ s : Int, atI [D.int 1, .int 2, .int 3, .int 4, .int 5, .int 6, .int 7, .int 8, .int 10, .int 11, .int 9, .int 12] (m % 12) = some (.int s) /\ 1 <= s /\ s <= 12 := by
 have h0 := Int.emod_nonneg m (show (12 : Int) ≠ 0 by decide)
 have h1 := Int.emod_lt_of_pos m (show (0 : Int) < 12 by decide)
 obtain ⟨d, hd, e⟩ := nU [D.int 1, .int 2, .int 3, .int 4, .int 5, .int 6, .int 7, .int 8, .int 10, .int 11, .int 9, .int 12] (m % 12) h0 (by simpa using h1)
 simp only [List.mem_cons, List.not_mem_nil, or_false] at hd
 rcases hd with rfl | rfl | rfl | rfl | rfl | rfl | rfl | rfl | rfl | rfl | rfl | rfl <;> exact ⟨_, e, by decide, by decide⟩
theorem yq3 (k : Int) : ∃ x : Str, atI [D.str (Str.ofString " "), .str (Str.ofString " "), .str (Str.ofString " "), .str (Str.ofString "")] (k % 4) = some (.str x) /\ (x = "" \/ x = " ") := by
 have h0 := Int.emod_nonneg k (show (4 : Int) ≠ 0 by decide)
 have h1 := Int.emod_lt_of_pos k (show (0 : Int) < 4 by decide)
 obtain ⟨d, hd, e⟩ := nU [D.str (Str.ofString " "), .str (Str.ofString " "), .str (Str.ofString " "), .str (Str.ofString "")] (k % 4) h0 (by simpa using h1)
 simp only [List.mem_cons, List.not_mem_nil, or_false] at hd
 rcases hd with rfl | rfl | rfl | rfl
 ·exact ⟨_, e, .inr rfl⟩
 ·exact ⟨_, e, .inr rfl⟩
 ·exact ⟨_, e, .inr rfl⟩
 ·exact ⟨_, e, .inl rfl⟩
theorem yk7 (a b k : Int) (ha : 0 <= a /\ a <= 40) (hb : 0 <= b /\ b <= 40) : ∃ c : Int, atI [D.int a, .int b] (k % 2) = some (.int c) /\ 0 <= c /\ c <= 40 := by
 have h0 := Int.emod_nonneg k (show (2 : Int) ≠ 0 by decide)
 have h1 := Int.emod_lt_of_pos k (show (0 : Int) < 2 by decide)
 obtain ⟨d, hd, e⟩ := nU [D.int a, .int b] (k % 2) h0 (by simpa using h1)
 simp only [List.mem_cons, List.not_mem_nil, or_false] at hd
 rcases hd with rfl | rfl
 ·exact ⟨_, e, ha⟩
 ·exact ⟨_, e, hb⟩
theorem yw1 {α : Type} (a b c d : α) : atI [a, b, c, d] 3 = some d := rfl
theorem yk8 {i j : Int} (h1 : -1000000 <= i) (h2 : i <= 1000000) (h3 : -1000000 <= j) (h4 : j <= 1000000) : ze2 [.int i, .int j] = some (lR i (j - i).toNat) := by
 rw [ze2]
 exact if_pos ⟨by omega, by omega, by omega, by omega⟩
theorem yk9 {j : Int} (h3 : -1000000 <= j) (h4 : j <= 1000000) : yO [.int j] = some (lR 0 j.toNat) := by
 rw [yO]
 exact if_pos ⟨by omega, by omega⟩
theorem yq4 (a : Int) (n : Nat) : lR a n = ((List.range n).map fun (k : Nat) => a + (k : Int)).map .int := by
 unfold lR
 rw [List.map_map]; rfl
theorem aF {f g : tz1} {p p' : PSt} (h : f p = some (.nx, p')) : aK f g p = g p' := by unfold aK; rw [h]; rfl
theorem eN {f g : tz1} {p p' : PSt} {d : D} (h : f p = some (.ret d, p')) : aK f g p = some (.ret d, p') := by unfold aK; rw [h]; rfl
theorem vF {c : PSt -> Option (Bool × PSt)} {f g : tz1} {p p' : PSt} (h : c p = some (true, p')) : fIf c f g p = f p' := by unfold fIf; rw [h]; rfl
theorem mE {c : PSt -> Option (Bool × PSt)} {f g : tz1} {p p' : PSt} (h : c p = some (false, p')) : fIf c f g p = g p' := by unfold fIf; rw [h]; rfl
theorem cA {i : Nat} {f : tz2} {p : PSt} {d : D} (h : f p = some d) : aR i (aE f) p = some (.nx, p.set i (some d)) := by unfold aR aE; rw [h]; rfl
theorem eH {f : tz2} {p : PSt} {d : D} (h : f p = some d) : bJ (aE f) p = some (.ret d, p) := by unfold bJ aE; rw [h]; rfl
theorem jA {np n : Nat} {f : tz1} {ds : List D} {d : D} {p : PSt} (hl : ds.length = np) (h : f (ds.map some ++ List.replicate n none) = some (.ret d, p)) : gP np n f ds = some d := by
 unfold gP; rw [if_pos hl, h]; rfl
theorem aT {g : D -> D -> Option D} {fa fb : tz2} {p : PSt} {x y d : D} (h1 : fa p = some x) (h2 : fb p = some y) (h3 : g x y = some d) : f2 g fa fb p = some d := by unfold f2; rw [h1, h2]; exact h3
theorem bU {h : tz6} {g : tz3} {p : PSt} {ds : List D} {d : D} (h1 : g p = some ds) (h2 : h ds = some d) : aG h g p = some d := by unfold aG; rw [h1]; exact h2
theorem zz0 {o o' : Bool} {ys zs : List D} (h1 : D.imms ys = true) (h2 : D.imms zs = true) (h : ys.length + zs.length <= 1000) : bG (.lst o ys) (.lst o' zs) = some (.lst true (ys ++ zs)) := by
 rw [bG]
 exact if_pos (by rw [h1, h2]; simpa using sz h)
theorem aJ {f : tz2} {g : tz3} {p : PSt} {d : D} {ds : List D} (h1 : f p = some d) (h2 : g p = some ds) : aB f g p = some (d :: ds) := by unfold aB; rw [h1, h2]; rfl
noncomputable def kM (ws : List Str) : List D := ws.map .str
theorem zz1 (a b : List Str) : kM (a ++ b) = kM a ++ kM b := by simp [kM]
theorem zz2 (a : List Str) : (kM a).length = a.length := by simp [kM]
theorem eY {g : tz3} {p : PSt} {ds : List D} (h : g p = some ds) (hl : ds.length <= 1000) : bL g p = some (.lst true ds) := by unfold bL; rw [h]; exact if_pos hl
theorem yl0 (a : Int) (b c : Nat) (hc : 0 < c) : ∃ n : Nat, (b : Int) + a % (c : Int) = (n : Int) /\ n < b + c := by
 have h1 := Int.emod_nonneg a (show (c : Int) ≠ 0 by omega)
 have h2 := Int.emod_lt_of_pos a (show (0 : Int) < c by omega)
 exact ⟨(b + a % c).toNat, by omega, by omega⟩
theorem lN {g : tz3} {p : PSt} {ds : List D} (h : g p = some ds) (hi : D.imms ds = true) (hl : ds.length <= 1000) : cU g p = some (.tup ds) := by
 unfold cU
 rw [h]
 exact if_pos (by rw [hi]; simpa using hl)
end My
namespace My
open PySem PySem.Spec PyProof.Rows L2 L3
theorem mQ {i : Nat} {p : PSt} {d : D} (h : p[i]? = some (some d)) : aA i p = some d := by unfold aA; rw [h]; rfl
theorem kS {f : tz4} {p : PSt} {b : Bool} (h : f p = some b) : aI f p = some (b, p) := by unfold aI; rw [h]; rfl
theorem fL {f : tz2} {p : PSt} {b : Bool} (h : f p = some (.bl b)) : fB f p = some b := by unfold fB; rw [h]; rfl
theorem qN {f : tz2} {p : PSt} {b : Bool} (h : f p = some (.bl b)) : fT f p = some b := by unfold fT; rw [h]; rfl
theorem kT {f g : tz4} {p : PSt} (h : f p = some false) : cE f g p = some false := by unfold cE; rw [h]; rfl
theorem jP {f g : tz4} {p : PSt} {b : Bool} (h : f p = some true) (h2 : g p = some b) : cE f g p = some b := by unfold cE; rw [h]; exact h2
theorem yt9 {f g : tz4} {p : PSt} (h : f p = some true) : dS f g p = some true := by unfold dS; rw [h]; rfl
theorem zs5 {f g : tz4} {p : PSt} {b : Bool} (h : f p = some false) (h2 : g p = some b) : dS f g p = some b := by unfold dS; rw [h]; exact h2
theorem kF {f : tz4} {p : PSt} {b : Bool} (h : f p = some b) : cX f p = some (!b) := by unfold cX; rw [h]; rfl
theorem bN {c : tz4} {F : tz1} {p : PSt} (h : c p = some false) : fIf (aI c) F aY p = some (.nx, p) := (mE (kS h)).trans rfl
theorem dI {c : tz4} {F G : tz1} {p : PSt} (h : c p = some true) : fIf (aI c) F G p = F p := vF (kS h)
noncomputable def kdT (i : Nat) (w : String) : tz4 := fB (f2 dEq (f2 dIx (aA i) (fC (.int 0))) (fC (.str w)))
theorem uK {i : Nat} {p : PSt} {k w : String} {ds : List D} {b : Bool} (hp : p[i]? = some (some (.tup (.str k :: ds)))) (h : decide (k = w) = b) : kdT i w p = some b := by
 refine fL (aT (aT (mQ hp) rfl (cV _ _)) rfl ?_)
 show some (D.bl (decide ((k : Str) = (w : Str)))) = _
 rw [<- h]
 congr 2
 exact decide_eq_decide.mpr (by rw [bF])
theorem nV {f : tz8} {p p' : PSt} {d : D} (h : f p = some (d, p')) : aV f p = some (.nx, p') := by unfold aV; rw [h]; rfl
theorem rR {as : List L2.Arg} {g : tz7} {p : PSt} {ds ds' : List D} {d : D} (h1 : aU as p = some ds) (h2 : g ds = some (d, ds')) (h3 : ds'.length = as.length) : fIO as g p = some (d, dX p as ds') := by unfold fIO; rw [h1, Option.bind_some, h2, Option.bind_some, if_pos h3]
theorem eT {f : tz2} {p : PSt} {d : D} (h : f p = some d) (hi : d.imm = true) : aX f p = some d := by unfold aX; rw [h]; exact if_pos hi
theorem fS {p : PSt} : aU [] p = some [] := rfl
theorem dD {f : tz2} {as : List L2.Arg} {p : PSt} {d : D} {ds : List D} (h : f p = some d) (hi : d.imm = true) (h2 : aU as p = some ds) : aU (.im f :: as) p = some (d :: ds) := by
 show (aX f p).bind _ = _
 rw [eT h hi, Option.bind_some, h2]; rfl
theorem pL {j : Nat} {as : List L2.Arg} {p : PSt} {d : D} {ds : List D} (h : p[j]? = some (some d)) (h2 : aU as p = some ds) : aU (.io j :: as) p = some (d :: ds) := by
 show ((p[j]?).join).bind _ = _
 rw [h, Option.join_some, Option.bind_some, h2]; rfl
theorem yq5 {f : tz8} {p p' : PSt} {b : Bool} (h : f p = some (.bl b, p')) : fTE f p = some (b, p') := by unfold fTE; rw [h]; rfl
theorem ye4 {f : PSt -> Option (Bool × PSt)} {p p' : PSt} {b : Bool} (h : f p = some (b, p')) : jL f p = some (!b, p') := by unfold jL; rw [h]; rfl
theorem yu0 (t : Str) : uN [.str t, .ty "str"] = some (.bl true) := by
 unfold uN
 show (if "str" ∈ ["bool", "int", "str", "list", "tuple", "dict"] then some (D.bl (yM "str" "str")) else none) = _
 rw [if_pos (by simp)]
 rfl
end My
namespace My
open PySem PySem.Spec PyProof.Rows L2 L3
theorem zd7 : ("\n" : Str) = ⟨#[10]⟩ := by decide +kernel
theorem yh2 : (" " : Str) = ⟨#[32]⟩ := by decide +kernel
theorem zi4 : ("" : Str) = ⟨#[]⟩ := by decide +kernel
theorem nW {x y : Str} (h : x.cps.toList = y.cps.toList) : x = y := by
 cases x; cases y
 simp only at h
 rw [Array.toList_inj.mp h]
theorem mM (x : Str) : x.length = x.cps.toList.length := by simp [Str.length]
theorem zc1 : ∀ (n : Nat) (a b : Array Nat), ((List.replicate n a).foldl (· ++ ·) b).toList = b.toList ++ (List.replicate n a.toList).flatten
 | 0, a, b => by simp
 | n + 1, a, b => by
  rw [List.replicate_succ, List.foldl_cons, zc1 n a (b ++ a), List.replicate_succ, List.flatten_cons]
  simp
theorem wV (n : Int) : (Txt.mul " " n).cps.toList = List.replicate n.toNat 32 := by
 rw [yh2]
 unfold Txt.mul
 by_cases h : n < 1
 ·rw [if_pos h, show n.toNat = 0 by omega]; rfl
 ·rw [if_neg h]
  by_cases h1 : n = 1
  ·subst h1; rfl
  ·rw [if_neg]
   ·show ((List.replicate n.toNat #[32]).foldl (· ++ ·) #[]).toList = _
    rw [zc1]
    simp
   ·simp [h1, Str.length]
theorem mR (n : Int) : (Txt.mul " " n).length = n.toNat := by rw [mM, wV, List.length_replicate]
theorem zi5 (n : Int) : (10 : Nat) ∉ (Txt.mul " " n).cps.toList := by rw [wV]; simp
noncomputable def col (t : Str) : Nat := (t.cps.toList.reverse.takeWhile (· != 10)).length
theorem zz3 {l : List Nat} (h : (10 : Nat) ∉ l) : ∀ a ∈ l, (a != 10) = true := fun a ha => by
 simp only [bne_iff_ne, ne_eq]
 intro e; subst e; exact h ha
theorem zn9 {t w : Str} (h : (10 : Nat) ∉ w.cps.toList) : col (t ++ w) = col t + w.length := by
 unfold col
 rw [eC, List.reverse_append, List.takeWhile_append_of_pos (zz3 (by simpa using h)), List.length_append, List.length_reverse, mM]
 omega
theorem zi6 {t w : Str} (h : (10 : Nat) ∉ w.cps.toList) : col (t ++ ((⟨#[10]⟩ : Str) ++ w)) = w.length := by
 unfold col
 rw [eC, eC, List.reverse_append, List.reverse_append, List.append_assoc, List.takeWhile_append_of_pos (zz3 (by simpa using h)), List.length_append, List.length_reverse, mM]
 simp
theorem zz4 (t : Str) : col t <= t.length := by
 unfold col
 rw [mM, <- List.length_reverse (as := t.cps.toList)]
 exact (List.takeWhile_sublist _).length_le
theorem zd8 {t : Str} {i : Nat} : StrLaws.At t ⟨#[10]⟩ t.length i ↔ t.cps.toList[i]? = some 10 := by
 unfold StrLaws.At Builtin.Str.subAt
 show i + 1 <= t.length /\ (t.cps.extract i (i + 1) == #[10]) = true ↔ _
 rw [beq_iff_eq, <- Array.toList_inj]
 have e : (t.cps.extract i (i + 1)).toList = (t.cps.toList.drop i).take 1 := by simp [Array.toList_extract, List.extract]
 rw [e, mM]
 constructor
 ·intro ⟨h1, h2⟩
  rw [List.getElem?_eq_getElem (by omega)]
  rw [List.drop_eq_getElem_cons (by omega)] at h2
  simpa using h2
 ·intro h
  obtain ⟨hi, h2⟩ := List.getElem?_eq_some_iff.mp h
  refine ⟨by omega, ?_⟩
  rw [List.drop_eq_getElem_cons hi, h2]
  rfl
theorem zz5 (t : Str) : (t.length : Int) - 1 - Txt.rfind t ⟨#[10]⟩ = (col t : Int) := by
 rcases rfind_whole t ⟨#[10]⟩ with ⟨e, h⟩ | ⟨i, e, h1, h2⟩
 ·have hn : (10 : Nat) ∉ t.cps.toList := fun hm => by
   obtain ⟨i, hi⟩ := List.getElem?_of_mem hm
   exact h i (zd8.mpr hi)
  have := zn9 (t := ⟨#[]⟩) hn
  have e0 : (⟨#[]⟩ : Str) ++ t = t := nW (by rw [eC]; rfl)
  rw [e0, show col ⟨#[]⟩ = 0 from rfl] at this
  rw [e, this]; omega
 ·rw [zd8] at h1
  obtain ⟨hi, h3⟩ := List.getElem?_eq_some_iff.mp h1
  have hs : t.cps.toList = t.cps.toList.take i ++ 10 :: t.cps.toList.drop (i + 1) := by
   rw [<- h3, <- List.drop_eq_getElem_cons hi, List.take_append_drop]
  have hn : (10 : Nat) ∉ t.cps.toList.drop (i + 1) := fun hm => by
   obtain ⟨j, hj⟩ := List.getElem?_of_mem hm
   rw [List.getElem?_drop] at hj
   exact h2 (i + 1 + j) (by omega) (zd8.mpr hj)
  have e1 : t = (⟨(t.cps.toList.take i).toArray⟩ : Str) ++ ((⟨#[10]⟩ : Str) ++ (⟨(t.cps.toList.drop (i + 1)).toArray⟩ : Str)) := nW (by
   rw [eC, eC]
   exact hs)
  have e2 := zi6 (t := ⟨(t.cps.toList.take i).toArray⟩) (w := ⟨(t.cps.toList.drop (i + 1)).toArray⟩) hn
  rw [<- e1] at e2
  rw [e, e2, mM, mM]
  show ((t.cps.toList.length : Nat) : Int) - 1 - (i : Int) = (((t.cps.toList.drop (i + 1)).length : Nat) : Int)
  rw [List.length_drop]
  omega
noncomputable def nlw (m : Int) : Str := (⟨#[10]⟩ : Str) ++ Txt.mul " " m
noncomputable def wr (b : Bool) (m : Int) (k : Nat) : Leaf -> Option Str
 | .word x => some x
 | .gap x => if b then some (nlw m) else some x
 | .stop c => if (k : Int) <= c then some (Txt.mul " " (c - k)) else if b then some (nlw c) else none
 | .fin => if b then some (nlw m) else none
noncomputable def Wr (w : Str) : Prop := (10 : Nat) ∉ w.cps.toList \/ ∃ m : Int, w = nlw m
theorem yl1 {x : Str} (h : zk5 x) : (10 : Nat) ∉ x.cps.toList := fun hm => by
 have := List.all_eq_true.mp h.2.2 _ hm
 simp [vR] at this
theorem yq6 {x : Str} (h : x = "" \/ x = " ") : (10 : Nat) ∉ x.cps.toList := by
 rcases h with rfl | rfl
 ·simp [show ("" : Str) = ⟨#[]⟩ from by decide +kernel]
 ·simp [yh2]
theorem yh3 {b : Bool} {m : Int} {k : Nat} {l : Leaf} {w : Str} (hl : jC l) (h0 : 0 <= m) (h1 : m <= 200) (h : wr b m k l = some w) : Wr w /\ w.length <= 201 := by
 have nl : ∀ c : Int, 0 <= c -> c <= 200 -> Wr (nlw c) /\ (nlw c).length <= 201 := fun c c0 c1 => ⟨.inr ⟨c, rfl⟩, by unfold nlw; rw [eD, mR]; show 1 + _ <= _; omega⟩
 cases l with
 | word x => cases h; exact ⟨.inl (yl1 hl), by have := hl.2.1; omega⟩
 | gap x =>
  cases b with
  | true => cases h; exact nl m h0 h1
  | false =>
   have e : x = w := by simpa [wr] using h
   subst e
   have hl' : x = "" \/ x = " " := hl
   refine ⟨.inl (yq6 hl'), ?_⟩
   rcases hl' with e | e <;> subst e
   ·show (0 : Nat) <= 201; decide
   ·show (1 : Nat) <= 201; decide
 | stop c =>
  have hc : 0 <= c /\ c <= 40 := hl
  change (if (k : Int) <= c then some (Txt.mul " " (c - k)) else if b = true then some (nlw c) else none) = some w at h
  by_cases hk : (k : Int) <= c
  ·rw [if_pos hk] at h; cases h
   exact ⟨.inl (zi5 _), by rw [mR]; omega⟩
  ·rw [if_neg hk] at h
   cases b with
   | true => cases h; exact nl c hc.1 (by omega)
   | false => cases h
 | fin =>
  cases b with
  | true => cases h; exact nl m h0 h1
  | false => cases h
mutual
noncomputable def gW : Bool -> Int -> Pc -> List Int -> Str -> Option (List Int × Str)
 | b, m, .leaf l, cs, t => (wr b m (col t) l).map fun w => (cs, t ++ w)
 | b, m, .group r, cs, t => if b = true then (match cs with
   | [] => none
   | c :: cs => if c = 0 then eP false m r cs t else if c = 1 then eP true m r cs t else none) else eP false m r cs t
 | b, m, .hang n r, cs, t => eP b (m + n) r cs t
 | b, m, .either rs, cs, t => match cs with
   | [] => none
   | c :: cs => if 0 <= c then qX b m rs c.toNat cs t else none
noncomputable def eP : Bool -> Int -> List Pc -> List Int -> Str -> Option (List Int × Str)
 | _, _, [], cs, t => some (cs, t)
 | b, m, p :: r, cs, t => (gW b m p cs t).bind fun s => eP b m r s.1 s.2
noncomputable def qX : Bool -> Int -> List (List Pc) -> Nat -> List Int -> Str -> Option (List Int × Str)
 | _, _, [], _, _, _ => none
 | b, m, r :: _, 0, cs, t => eP b m r cs t
 | b, m, _ :: rs, i + 1, cs, t => qX b m rs i cs t
end
theorem qO : ∀ {rs : List (List Pc)} {i : Nat} {b : Bool} {m : Int} {cs : List Int} {t : Str} {r : List Pc}, rs[i]? = some r -> qX b m rs i cs t = eP b m r cs t
 | [], i, _, _, _, _, _, h => by simp at h
 | q :: rs, 0, _, _, _, _, _, h => by simp at h; subst h; rw [qX]
 | q :: rs, i + 1, _, _, _, _, _, h => by rw [qX]; exact qO (by simpa using h)
theorem xX : ∀ {rs : List (List Pc)} {i : Nat} {b : Bool} {m : Int} {cs : List Int} {t : Str}, rs[i]? = none -> qX b m rs i cs t = none
 | [], i, _, _, _, _, h => by rw [qX]
 | q :: rs, 0, _, _, _, _, h => by simp at h
 | q :: rs, i + 1, _, _, _, _, h => by rw [qX]; exact xX (by simpa using h)
end My
namespace My
open PySem PySem.Spec PyProof.Rows L2 L3
noncomputable abbrev nsP : List Str := ["broken", "margin"]
noncomputable def aN (b : Bool) (m : Int) : D := .obj false "Place" nsP [.bl b, .int m]
noncomputable abbrev iD : tz7 := gE 3 0 (aZ [true, false, false]) tI
theorem zs6 (b : Bool) (m : Int) : iD [.obj true "Place" [] [], .bl b, .int m] = some (.non, [.obj true "Place" nsP [.bl b, .int m], .bl b, .int m]) := by
 kernel_rfl
noncomputable abbrev oU : tz6 := gP 0 0 (qC iD)
noncomputable abbrev lZ : tz6 := gP 1 0 qV
noncomputable def lF : Pc -> Bool
 | .leaf _ => false
 | _ => true
theorem sM (p : Pc) : lZ [pcD p] = some (.bl (lF p)) := by
 cases p with
 | leaf l => cases l <;> kernel_rfl
 | _ => kernel_rfl
noncomputable abbrev mB : tz6 := gP 2 0 pC
noncomputable def oV (b : Bool) : Pc -> Bool
 | .either _ => true
 | .group _ => b
 | _ => false
theorem zi7 (p : Pc) (b : Bool) (m : Int) (hp : lF p = true) : mB [pcD p, aN b m] = some (.bl (oV b p)) := by
 cases p with
 | leaf l => cases hp
 | group r => cases b <;> kernel_rfl
 | _ => kernel_rfl
noncomputable def iE (b : Bool) (m : Int) : Pc -> List (List Pc × Bool × Int)
 | .leaf _ => []
 | .group r => if b = true then [(r, false, m), (r, true, m)] else [(r, false, m)]
 | .hang n r => [(r, b, m + n)]
 | .either rs => rs.map fun r => (r, b, m)
noncomputable def fU (x : List Pc × Bool × Int) : D := .tup [.tup (aQ x.1), aN x.2.1 x.2.2]
noncomputable abbrev tB : tz6 := gP 2 2 (kY iD)
theorem jB (b : Bool) (m : Int) : (aN b m).imm = true := rfl
theorem vG (x : List Pc × Bool × Int) : (fU x).imm = true := by
 show (D.imm (.tup (aQ x.1)) && (D.imm (aN x.2.1 x.2.2) && D.imms [])) = true
 rw [show D.imm (.tup (aQ x.1)) = D.imms (aQ x.1) from rfl, dZ]; rfl
theorem zc2 (b : Bool) (m : Int) : ∀ (rs : List (List Pc)) (x : Option D), nI [x, some (aN b m)] xB (cU (aB (aX (aA 0)) (aB (aX (aA 1)) aD))) (cI rs) = some ((rs.map fun r => (r, b, m)).map fU)
 | [], _ => rfl
 | r :: rs, x => by
  have ih := zc2 b m rs x
  have hi := jB b m
  have hp := dZ r
  show nI _ _ _ (.tup (aQ r) :: cI rs) = _
  rw [nI]
  show (xB [some (.tup (aQ r)), some (aN b m)]).bind _ = _
  rw [List.map_cons, List.map_cons]
  have e : cU (aB (aX (aA 0)) (aB (aX (aA 1)) aD)) [some (.tup (aQ r)), some (aN b m)] = some (fU (r, b, m)) := by
   unfold fU
   generalize aN b m = q at hi |-
   simp [gP, gE, aK, aY, aR, aE, fIf, aI, fB, f2, aA, fC, aX, bJ, aV, bE, aP, bM, bV, aB, aD, bL, cU, aG, dEq, dNe, eqB, dB, dIx, bP, bD, D.imm, D.imms, bG, fI, fT, cF, bF, cV, cK, fH, dF, dIn, inB, pE, D.flat, D.flats, inV, eqV, cX, cE, dS, sT, fOr, aU, gC, dE, eJ, bI, iA, cL, eS, dY, oC, fA, aZ, dLe, dLt, dGe, dIs, fZ, fMt, gA, pA, hp, hi]
  show ((cU (aB (aX (aA 0)) (aB (aX (aA 1)) aD)) [some (.tup (aQ r)), some (aN b m)]).bind _) = _
  rw [e, Option.bind_some, ih]; rfl
noncomputable def kN : Pc -> Nat
 | .either rs => rs.length
 | _ => 0
theorem kd2 {p : PSt} {k w : String} {b : Bool} (hp : p[2]? = some (some (.str k))) (h : decide (k = w) = b) : fB (f2 dEq (aA 2) (fC (.str w))) p = some b := by
 refine fL (aT (mQ hp) rfl ?_)
 show some (D.bl (decide ((k : Str) = (w : Str)))) = _
 rw [<- h]
 congr 2
 exact decide_eq_decide.mpr (by rw [bF])
theorem wW {p : PSt} {f g : tz2} {b : Bool} {m : Int} (h1 : f p = some (.bl b)) (h2 : g p = some (.int m)) : oC (dY "Place" (aU [.im f, .im g]) iD) p = some (aN b m) := by
 have q := zs6 b m
 have e : dY "Place" (aU [.im f, .im g]) iD p = some (.obj true "Place" nsP [.bl b, .int m]) := by
  unfold dY
  rw [dD h1 rfl (dD h2 rfl fS), Option.bind_some, q]; rfl
 unfold oC
 rw [e]; rfl
theorem zi8 : oU [] = some (aN true 0) := jA (p := []) rfl (eH (wW rfl rfl))
theorem zX {p : PSt} {f g : tz2} {r : List Pc} {b : Bool} {m : Int} (h1 : f p = some (.tup (aQ r))) (h2 : g p = some (aN b m)) : cU (aB f (aB g aD)) p = some (fU (r, b, m)) := by
 unfold cU
 rw [aJ h1 (aJ h2 rfl)]
 refine (if_pos ?_).trans rfl
 have := vG (r, b, m)
 rw [show D.imms [.tup (aQ r), aN b m] = true from this]; rfl
theorem zo0 (p : Pc) (b : Bool) (m : Int) (hp : lF p = true) (hl : kN p <= 1000) : tB [pcD p, aN b m] = some (.lst true ((iE b m p).map fU)) := by
 show gP 2 2 (kY iD) _ = _
 cases p with
 | leaf l => cases hp
 | group r =>
  have s1 : aR 2 (aE (aX (f2 dIx (aA 0) (fC (.int 0))))) [some (pcD (.group r)), some (aN b m), none, none] = some (.nx, [some (pcD (.group r)), some (aN b m), some (.str "group"), none]) := cA (eT (aT rfl rfl (cV _ _)) rfl)
  have s4 : aR 3 (aE (cU (aB (aX (f2 dIx (aA 0) (fC (.int 1)))) (aB (oC (dY "Place" (aU [.im (fC (.bl false)), .im (cL "Place" "margin" (aA 1))]) iD)) aD)))) [some (pcD (.group r)), some (aN b m), some (.str "group"), none] = some (.nx, [some (pcD (.group r)), some (aN b m), some (.str "group"), some (fU (r, false, m))]) := cA (zX (eT (aT rfl rfl (cK _ _ _)) (dZ r)) (wW rfl (by kernel_rfl)))
  have w3 : aX (aA 3) [some (pcD (.group r)), some (aN b m), some (.str "group"), some (fU (r, false, m))] = some (fU (r, false, m)) := eT rfl (vG _)
  have br : fT (cL "Place" "broken" (aA 1)) [some (pcD (.group r)), some (aN b m), some (.str "group"), some (fU (r, false, m))] = some b := qN (by kernel_rfl)
  suffices h : ∃ q, kY iD [some (pcD (.group r)), some (aN b m), none, none] = some (.ret (.lst true ((iE b m (.group r)).map fU)), q) from by
   obtain ⟨q, hq⟩ := h; exact jA rfl hq
  unfold kY
  rw [aF s1, aF (bN (kd2 rfl (by decide))), aF (bN (kd2 rfl (by decide))), aF s4]
  cases b with
  | true => exact ⟨_, eN ((dI br).trans (eH (eY (aJ w3 (aJ (zX (eT (aT rfl rfl (cK _ _ _)) (dZ r)) (eT rfl rfl)) rfl)) (Nat.le_of_ble_eq_true rfl))))⟩
  | false => exact ⟨_, (aF (bN br)).trans (eH (eY (aJ w3 rfl) (Nat.le_of_ble_eq_true rfl)))⟩
 | hang n r =>
  have s1 : aR 2 (aE (aX (f2 dIx (aA 0) (fC (.int 0))))) [some (pcD (.hang n r)), some (aN b m), none, none] = some (.nx, [some (pcD (.hang n r)), some (aN b m), some (.str "hang"), none]) := cA (eT (aT rfl rfl (cV _ _)) rfl)
  refine jA (p := [some (pcD (.hang n r)), some (aN b m), some (.str "hang"), none]) rfl ?_
  unfold kY
  exact (aF s1).trans (eN ((dI (kd2 rfl (by decide))).trans (eH (eY (aJ (zX (eT (aT rfl rfl (fH _ _ _ _)) (dZ r)) (wW (by kernel_rfl) (aT (x := .int m) (by kernel_rfl) (aT rfl rfl (cK _ _ _)) rfl))) rfl) (Nat.le_of_ble_eq_true rfl)))))
 | either rs =>
  generalize iD = G
  have hz : (cI rs).length <= sizeLine := by rw [jS]; exact sz hl
  have e := zc2 b m rs none
  have e2 : yP [none, some 1] (gA (f2 dIx (aA 0) (fC (.int 1)))) xB (cU (aB (aX (aA 0)) (aB (aX (aA 1)) aD))) [some (pcD (.either rs)), some (aN b m), some (.str "either"), none] = some (.lst true ((iE b m (.either rs)).map fU)) := by
   unfold yP
   have e3 : gA (f2 dIx (aA 0) (fC (.int 1))) [some (pcD (.either rs)), some (aN b m), some (.str "either"), none] = some (cI rs) := by simp [gP, gE, aK, aY, aR, aE, fIf, aI, fB, f2, aA, fC, aX, bJ, aV, bE, aP, bM, bV, aB, aD, bL, cU, aG, dEq, dNe, eqB, dB, dIx, bP, bD, D.imm, D.imms, bG, fI, fT, cF, bF, cV, cK, fH, dF, dIn, inB, pE, D.flat, D.flats, inV, eqV, cX, cE, dS, sT, fOr, aU, gC, dE, eJ, bI, iA, cL, eS, dY, oC, fA, aZ, dLe, dLt, dGe, dIs, fZ, fMt, gA, pA, pcD]
   rw [e3, Option.bind_some, if_pos hz]
   have e4 : nI (qA [none, some 1] [some (pcD (.either rs)), some (aN b m), some (.str "either"), none]) xB (cU (aB (aX (aA 0)) (aB (aX (aA 1)) aD))) (cI rs) = some ((rs.map fun r => (r, b, m)).map fU) := e
   rw [e4]; rfl
  have s1 : aR 2 (aE (aX (f2 dIx (aA 0) (fC (.int 0))))) [some (pcD (.either rs)), some (aN b m), none, none] = some (.nx, [some (pcD (.either rs)), some (aN b m), some (.str "either"), none]) := by simp [gP, gE, aK, aY, aR, aE, fIf, aI, fB, f2, aA, fC, aX, bJ, aV, bE, aP, bM, bV, aB, aD, bL, cU, aG, dEq, dNe, eqB, dB, dIx, bP, bD, D.imm, D.imms, bG, fI, fT, cF, bF, cV, cK, fH, dF, dIn, inB, pE, D.flat, D.flats, inV, eqV, cX, cE, dS, sT, fOr, aU, gC, dE, eJ, bI, iA, cL, eS, dY, oC, fA, aZ, dLe, dLt, dGe, dIs, fZ, fMt, gA, pA, pcD]
  have s2 : ∀ F : tz1, fIf (aI (fB (f2 dEq (aA 2) (fC (.str "hang"))))) F aY [some (pcD (.either rs)), some (aN b m), some (.str "either"), none] = some (.nx, [some (pcD (.either rs)), some (aN b m), some (.str "either"), none]) := fun F => by simp [gP, gE, aK, aY, aR, aE, fIf, aI, fB, f2, aA, fC, aX, bJ, aV, bE, aP, bM, bV, aB, aD, bL, cU, aG, dEq, dNe, eqB, dB, dIx, bP, bD, D.imm, D.imms, bG, fI, fT, cF, bF, cV, cK, fH, dF, dIn, inB, pE, D.flat, D.flats, inV, eqV, cX, cE, dS, sT, fOr, aU, gC, dE, eJ, bI, iA, cL, eS, dY, oC, fA, aZ, dLe, dLt, dGe, dIs, fZ, fMt, gA, pA]
  have s3 : ∀ F : tz1, fIf (aI (fB (f2 dEq (aA 2) (fC (.str "either"))))) F aY [some (pcD (.either rs)), some (aN b m), some (.str "either"), none] = F [some (pcD (.either rs)), some (aN b m), some (.str "either"), none] := fun F => by simp [gP, gE, aK, aY, aR, aE, fIf, aI, fB, f2, aA, fC, aX, bJ, aV, bE, aP, bM, bV, aB, aD, bL, cU, aG, dEq, dNe, eqB, dB, dIx, bP, bD, D.imm, D.imms, bG, fI, fT, cF, bF, cV, cK, fH, dF, dIn, inB, pE, D.flat, D.flats, inV, eqV, cX, cE, dS, sT, fOr, aU, gC, dE, eJ, bI, iA, cL, eS, dY, oC, fA, aZ, dLe, dLt, dGe, dIs, fZ, fMt, gA, pA]
  refine jA rfl ?_ (p := [some (pcD (.either rs)), some (aN b m), some (.str "either"), none])
  unfold kY
  exact (aF s1).trans ((aF (s2 _)).trans (eN ((s3 _).trans (eH e2))))
noncomputable abbrev gNl : tz6 := gP 1 0 tH
theorem zd9 (m : Int) (h0 : -1000 <= m) (h1 : m <= 1000) : iN (.str " ") (.int m) = some (.str (Txt.mul " " m)) := by
 rw [iN, if_pos]
 simp only [Bool.and_eq_true, decide_eq_true_eq]
 exact ⟨⟨by decide +kernel, by omega⟩, by omega⟩
theorem yh4 (m : Int) (h0 : 0 <= m) (h1 : m <= 200) : gNl [.int m] = some (.str (nlw m)) := by
 have q := zd9 m (by omega) (by omega)
 have hl : 1 + (Txt.mul " " m).length <= sizeLine := by rw [mR]; exact sz (by omega)
 have e : ((⟨#[10]⟩ : Str) ++ Txt.mul " " m) = nlw m := rfl
 have e1 : bG (.str "\n") (.str (Txt.mul " " m)) = some (.str (nlw m)) := by
  rw [zd7, bG, if_pos (by exact hl)]; rfl
 exact jA rfl (eH (aT rfl (aT rfl rfl q) e1))
noncomputable abbrev qD : tz6 := gP 3 1 (nJ gNl)
noncomputable def wrD : Option Str -> D
 | some w => .str w
 | none => .non
theorem kd3 {p : PSt} {k w : String} {b : Bool} (hp : p[3]? = some (some (.str k))) (h : decide (k = w) = b) : fB (f2 dEq (aA 3) (fC (.str w))) p = some b := by
 refine fL (aT (mQ hp) rfl ?_)
 show some (D.bl (decide ((k : Str) = (w : Str)))) = _
 rw [<- h]
 congr 2
 exact decide_eq_decide.mpr (by rw [bF])
theorem xY (l : Leaf) (b : Bool) (m : Int) (k : Nat) (hl : jC l) (h0 : 0 <= m) (h1 : m <= 200) (hk : k <= 1000000) : qD [cZ l, aN b m, .int k] = some (wrD (wr b m k l)) := by
 suffices h : ∃ q, nJ gNl [some (cZ l), some (aN b m), some (.int k), none] = some (.ret (wrD (wr b m k l)), q) from by
  obtain ⟨q, hq⟩ := h; exact jA rfl hq
 have br : ∀ d x, fT (cL "Place" "broken" (aA 1)) [some d, some (aN b m), some (.int k), x] = some b := fun d x => qN (by kernel_rfl)
 have mg : ∀ d x, aG gNl (aB (cL "Place" "margin" (aA 1)) aD) [some d, some (aN b m), some (.int k), x] = some (.str (nlw m)) := fun d x => bU (ds := [.int m]) (aJ (by kernel_rfl) rfl) (yh4 m h0 h1)
 have s1 : ∀ (w : String) (ds : List D), aR 3 (aE (aX (f2 dIx (aA 0) (fC (.int 0))))) [some (.tup (.str w :: ds)), some (aN b m), some (.int k), none] = some (.nx, [some (.tup (.str w :: ds)), some (aN b m), some (.int k), some (.str w)]) := fun w ds => cA (eT (aT rfl rfl (cV _ _)) rfl)
 unfold nJ
 cases l with
 | word x => exact ⟨_, (aF (s1 "word" [.str x])).trans (eN ((dI (kd3 rfl (by decide))).trans (eH (eT (aT rfl rfl (cK _ _ _)) rfl))))⟩
 | gap x =>
  show ∃ q, aK _ _ [some (.tup [.str "gap", .str x]), some (aN b m), some (.int k), none] = _
  rw [aF (s1 "gap" [.str x]), aF (bN (kd3 rfl (by decide)))]
  cases b with
  | false => exact ⟨_, eN ((dI (jP (kd3 rfl (by decide)) (kF (br _ _)))).trans (eH (eT (aT rfl rfl (cK _ _ _)) rfl)))⟩
  | true => exact ⟨_, (aF (bN (jP (kd3 rfl (by decide)) (kF (br _ _))))).trans ((aF (bN (kT (kd3 rfl (by decide))))).trans ((aF (bN (kF (br _ _)))).trans ((aF (bN (kd3 rfl (by decide)))).trans (eH (mg _ _)))))⟩
 | fin =>
  show ∃ q, aK _ _ [some (.tup [.str "end"]), some (aN b m), some (.int k), none] = _
  rw [aF (s1 "end" []), aF (bN (kd3 rfl (by decide))), aF (bN (kT (kd3 rfl (by decide)))), aF (bN (kT (kd3 rfl (by decide))))]
  cases b with
  | false => exact ⟨_, eN ((dI (kF (br _ _))).trans (eH rfl))⟩
  | true => exact ⟨_, (aF (bN (kF (br _ _)))).trans ((aF (bN (kd3 rfl (by decide)))).trans (eH (mg _ _)))⟩
 | stop c =>
  have hc : 0 <= c /\ c <= 40 := hl
  show ∃ q, aK _ _ [some (.tup [.str "stop", .int c]), some (aN b m), some (.int k), none] = _
  have le : fB (f2 dLe (aA 2) (f2 dIx (aA 0) (fC (.int 1)))) [some (.tup [.str "stop", .int c]), some (aN b m), some (.int k), some (.str "stop")] = some (decide ((k : Int) <= c)) := fL (aT rfl (aT rfl rfl (cK _ _ _)) rfl)
  rw [aF (s1 "stop" [.int c]), aF (bN (kd3 rfl (by decide))), aF (bN (kT (kd3 rfl (by decide))))]
  by_cases hkc : (k : Int) <= c
  ·rw [decide_eq_true hkc] at le
   rw [show wr b m k (.stop c) = some (Txt.mul " " (c - k)) from if_pos hkc]
   exact ⟨_, eN ((dI (jP (kd3 rfl (by decide)) le)).trans (eH (aT rfl (aT (aT rfl rfl (cK _ _ _)) rfl rfl) (zd9 (c - k) (by omega) (by omega)))))⟩
  ·rw [decide_eq_false hkc] at le
   rw [aF (bN (jP (kd3 rfl (by decide)) le))]
   cases b with
   | false =>
    rw [show wr false m k (.stop c) = none from (if_neg hkc).trans rfl]
    exact ⟨_, eN ((dI (kF (br _ _))).trans (eH rfl))⟩
   | true =>
    rw [show wr true m k (.stop c) = some (nlw c) from (if_neg hkc).trans rfl]
    exact ⟨_, (aF (bN (kF (br _ _)))).trans (eN ((dI (kd3 rfl (by decide))).trans (eH (bU (aJ (aT rfl rfl (cK _ _ _)) rfl) (yh4 c hc.1 (by omega))))))⟩
end My
namespace My
open PySem PySem.Spec PyProof.Rows L2 L3
theorem zz6 {w : Str} : Txt.startswith w ⟨#[10]⟩ = decide (w.cps.toList[0]? = some 10) := by
 rw [Bool.eq_iff_iff, decide_eq_true_eq, <- zd8 (t := w) (i := 0)]
 unfold Txt.startswith StrLaws.At
 simp only [Bool.and_eq_true, decide_eq_true_eq]
noncomputable abbrev yV : tz6 := gP 1 0 oF
theorem yl2 (w : Str) : yV [.str w] = some (.bl (decide (w.cps.toList[0]? = some 10))) := by
 rw [<- zz6, <- zd7]
 simp [gP, gE, aK, aY, aR, aE, fIf, aI, fB, f2, aA, fC, aX, bJ, aV, bE, aP, bM, bV, aB, aD, aG, dIx, bP, bD, D.imm, D.imms, bG, fI, fT, cF, bF, cV, cK, dS, aU, gC, dE, eJ, bI, iA, cL, eS, dY, fA, aZ, dLt, dGe, dIs, fZ, fMt, fB, dB, eZ, oF, lY, sU]
noncomputable abbrev vT : tz6 := gP 2 0 (gU yV)
theorem zz7 {t w : Str} (hw : Wr w) (hz : w.length <= 1000) : vT [.int (col t), .str w] = some (.int (col (t ++ w))) := by
 have q := yl2 w
 have hz' : w.length <= sizeLine := sz hz
 show gP 2 0 (gU yV) _ = _
 rcases hw with h | ⟨m, rfl⟩
 ·have e : decide (w.cps.toList[0]? = some 10) = false := decide_eq_false fun h' => h (List.mem_of_getElem? h')
  rw [e] at q
  rw [zn9 h]
  generalize yV = G at q |-
  simp [gP, gE, aK, aY, aR, aE, fIf, aI, fB, f2, aA, fC, aX, bJ, aV, bE, aP, bM, bV, aB, aD, aG, dIx, bP, bD, D.imm, D.imms, bG, fI, fT, cF, bF, cV, cK, dS, aU, gC, dE, eJ, bI, iA, cL, eS, dY, fA, aZ, dLt, dGe, dIs, fZ, fMt, fB, dB, eZ, gU, q, hz']
 ·have e : decide ((nlw m).cps.toList[0]? = some 10) = true := decide_eq_true (by unfold nlw; rw [eC]; rfl)
  rw [e] at q
  have e2 : col (t ++ nlw m) = (nlw m).length - 1 := by
   unfold nlw
   rw [zi6 (zi5 m), eD]; show _ = 1 + _ - 1; omega
  have e3 : 1 <= (nlw m).length := by unfold nlw; rw [eD]; show 1 <= 1 + _; omega
  rw [e2]
  generalize yV = G at q |-
  generalize nlw m = w at hz' q e3 |-
  simp [gP, gE, aK, aY, aR, aE, fIf, aI, fB, f2, aA, fC, aX, bJ, aV, bE, aP, bM, bV, aB, aD, aG, dIx, bP, bD, D.imm, D.imms, bG, fI, fT, cF, bF, cV, cK, dS, aU, gC, dE, eJ, bI, iA, cL, eS, dY, fA, aZ, dLt, dGe, dIs, fZ, fMt, fB, dB, eZ, gU, q, hz']
  omega
noncomputable def cat : List Str -> Str
 | [] => ⟨#[]⟩
 | x :: xs => x ++ cat xs
theorem zY (t : Str) : t ++ (⟨#[]⟩ : Str) = t := nW (by rw [eC]; simp [gP, gE, aK, aY, aR, aE, fIf, aI, fB, f2, aA, fC, aX, bJ, aV, bE, aP, bM, bV, aB, aD, aG, dIx, bP, bD, D.imm, D.imms, bG, fI, fT, cF, bF, cV, cK, dS, aU, gC, dE, eJ, bI, iA, cL, eS, dY, fA, aZ, dLt, dGe, dIs, fZ, fMt, fB, dB, eZ])
theorem yl3 (t : Str) : (⟨#[]⟩ : Str) ++ t = t := nW (by rw [eC]; simp [gP, gE, aK, aY, aR, aE, fIf, aI, fB, f2, aA, fC, aX, bJ, aV, bE, aP, bM, bV, aB, aD, aG, dIx, bP, bD, D.imm, D.imms, bG, fI, fT, cF, bF, cV, cK, dS, aU, gC, dE, eJ, bI, iA, cL, eS, dY, fA, aZ, dLt, dGe, dIs, fZ, fMt, fB, dB, eZ])
theorem zo1 (a b c : Str) : (a ++ b) ++ c = a ++ (b ++ c) := nW (by simp only [eC, List.append_assoc])
theorem sN : ∀ (ps : List Str) (w : Str), cat (ps ++ [w]) = cat ps ++ w
 | [], w => by show w ++ (⟨#[]⟩ : Str) = (⟨#[]⟩ : Str) ++ w; rw [zY, yl3]
 | x :: ps, w => by show x ++ cat (ps ++ [w]) = (x ++ cat ps) ++ w; rw [sN ps w, zo1]
noncomputable abbrev nsS : List Str := ["choices", "used", "column", "parts"]
noncomputable def bW (C : List Int) : List D := C.map .int
theorem uL (a b : List Int) : bW (a ++ b) = bW a ++ bW b := by simp [gP, gE, aK, aY, aR, aE, fIf, aI, fB, f2, aA, fC, aX, bJ, aV, bE, aP, bM, bV, aB, aD, aG, dIx, bP, bD, D.imm, D.imms, bG, fI, fT, cF, bF, cV, cK, dS, aU, gC, dE, eJ, bI, iA, cL, eS, dY, fA, aZ, dLt, dGe, dIs, fZ, fMt, fB, dB, eZ, bW]
theorem qP (a : List Int) : (bW a).length = a.length := by simp [gP, gE, aK, aY, aR, aE, fIf, aI, fB, f2, aA, fC, aX, bJ, aV, bE, aP, bM, bV, aB, aD, aG, dIx, bP, bD, D.imm, D.imms, bG, fI, fT, cF, bF, cV, cK, dS, aU, gC, dE, eJ, bI, iA, cL, eS, dY, fA, aZ, dLt, dGe, dIs, fZ, fMt, fB, dB, eZ, bW]
noncomputable def stD (C : List Int) (u : Nat) (ps : List Str) : D := .obj true "Setter" nsS [.tup (bW C), .int u, .int (col (cat ps)), .lst true (kM ps)]
theorem kU : ∀ C, D.imms (bW C) = true
 | [] => rfl
 | c :: C => by show (D.imm (.int c) && D.imms (bW C)) = true; rw [kU C]; rfl
noncomputable abbrev gF : tz7 := gE 3 1 (aZ [true, false, false]) (iV qD vT)
theorem ye5 {C : List Int} {u : Nat} {ps : List Str} {l : Leaf} {b : Bool} {m : Int} {w : Str} (hl : jC l) (h0 : 0 <= m) (h1 : m <= 200) (hw : wr b m (col (cat ps)) l = some w) (hp : ps.length <= 900) (hc : (cat ps).length <= 1000000) :
  gF [stD C u ps, cZ l, aN b m] = some (.non, [stD C u (ps ++ [w]), cZ l, aN b m]) := by
 obtain ⟨hW, hz⟩ := yh3 hl h0 h1 hw
 have q1 := xY l b m (col (cat ps)) hl h0 h1 (Nat.le_trans (zz4 _) hc)
 rw [hw] at q1
 have q2 := zz7 (t := cat ps) hW (by omega)
 have hi : (kM ps).length < sizeLine := by rw [zz2]; exact sz1 (by omega)
 have es : kM (ps ++ [w]) = kM ps ++ [.str w] := by rw [zz1]; rfl
 show gE 3 1 _ (iV qD vT) _ = _
 unfold stD
 rw [sN, es]
 generalize cZ l = dl at q1 |-
 generalize aN b m = dp at q1 |-
 generalize qD = G1 at q1 |-
 generalize vT = G2 at q2 |-
 simp only [wrD] at q1
 simp [gP, gE, aK, aY, aR, aE, fIf, aI, fB, f2, aA, fC, aX, bJ, aV, bE, aP, bM, bV, aB, aD, aG, dIx, bP, bD, D.imm, D.imms, bG, fI, fT, cF, bF, cV, cK, dS, aU, gC, dE, eJ, bI, iA, cL, eS, dY, fA, aZ, dLt, dGe, dIs, fZ, fMt, fB, dB, eZ, iV, q1, q2, hi]
noncomputable abbrev iQ : tz7 := gE 2 1 (aZ [true, false]) jI
theorem lI {α : Type} {xs : List α} {n : Nat} {v : α} (h : xs[n]? = some v) : atI xs (n : Int) = some v := zB h
theorem zi9 {C : List Int} {u n : Nat} {c : Int} {ps : List Str} (hc : C[u]? = some c) (h0 : 0 <= c) (h1 : c < n) : iQ [stD C u ps, .int n] = some (.int c, [stD C (u + 1) ps, .int n]) := by
 obtain ⟨hu, _⟩ := List.getElem?_eq_some_iff.mp hc
 have hl : (bW C).length = C.length := List.length_map _
 have e : atI (bW C) (u : Int) = some (.int c) := lI (by unfold bW; rw [List.getElem?_map, hc]; rfl)
 have g1 : ¬ ((C.length : Int) <= (u : Int)) := by omega
 have g2 : ¬ (c < 0) := by omega
 have g3 : ¬ ((n : Int) <= c) := by omega
 unfold stD
 simp [gP, gE, aK, aY, aR, aE, fIf, aI, fB, f2, aA, fC, aX, bJ, aV, bE, aP, bM, bV, aB, aD, aG, dIx, bP, bD, D.imm, D.imms, bG, fI, fT, cF, bF, cV, cK, dS, aU, gC, dE, eJ, bI, iA, cL, eS, dY, fA, aZ, dLt, dGe, dIs, fZ, fMt, fB, dB, eZ, jI, hl, e, g1, g2, g3]
noncomputable abbrev lT (GR : tz7) : tz7 := gE 3 3 (aZ [true, false, false]) (iC tB mB iQ GR)
theorem vH {GR : tz7} {p : Pc} {b : Bool} {m : Int} {C : List Int} {u u1 i : Nat} {ps : List Str} {x : List Pc × Bool × Int} {N : D} (hp : lF p = true) (hn : kN p <= 1000) (hi : (iE b m p)[i]? = some x)
  (hc : (oV b p = true /\ C[u]? = some (i : Int) /\ u1 = u + 1) \/ (oV b p = false /\ i = 0 /\ u1 = u)) (hR : GR [stD C u1 ps, .tup (aQ x.1), aN x.2.1 x.2.2] = some (.non, [N, .tup (aQ x.1), aN x.2.1 x.2.2])) :
  lT GR [stD C u ps, pcD p, aN b m] = some (.non, [N, pcD p, aN b m]) := by
 have q1 := zo0 p b m hp hn
 have q2 := zi7 p b m hp
 have hil : i < ((iE b m p).map fU).length := by rw [List.length_map]; exact (List.getElem?_eq_some_iff.mp hi).1
 have e1 : atI ((iE b m p).map fU) (i : Int) = some (fU x) := lI (by rw [List.getElem?_map, hi]; rfl)
 have hw := vG x
 have p1 := dZ x.1
 have p2 := jB x.2.1 x.2.2
 generalize hW : (iE b m p).map fU = W at q1 hil e1
 have st1 : ∀ v ps', stD C v ps' = .obj true "Setter" nsS [.tup (bW C), .int v, .int (col (cat ps')), .lst true (kM ps')] := fun _ _ => rfl
 have hm : ∀ v, eO "Setter" "set_row" GR [.tup (aQ x.1), aN x.2.1 x.2.2] (stD C v ps) = (GR [stD C v ps, .tup (aQ x.1), aN x.2.1 x.2.2]).bind fun r => match r.2 with
   | d' :: ds => if ds.length = 2 then some (r.1, d') else none
   | [] => none := fun v => by
  rw [st1]
  show (if (("Setter" : Str) = "Setter" /\ bI nsS "set_row" = none) then _ else none) = _
  exact if_pos ⟨rfl, by simp [gP, gE, aK, aY, aR, aE, fIf, aI, fB, f2, aA, fC, aX, bJ, aV, bE, aP, bM, bV, aB, aD, aG, dIx, bP, bD, D.imm, D.imms, bG, fI, fT, cF, bF, cV, cK, dS, aU, gC, dE, eJ, bI, iA, cL, eS, dY, fA, aZ, dLt, dGe, dIs, fZ, fMt, fB, dB, eZ]⟩
 have hm1 : eO "Setter" "set_row" GR [.tup (aQ x.1), aN x.2.1 x.2.2] (stD C u1 ps) = some (.non, N) := by rw [hm, hR]; rfl
 have body : ∀ f4 : Int, aK (aR 5 (aE (aX (f2 dIx (aA 3) (aA 4))))) (aV (bE 0 aP (aU [.im (f2 dIx (aA 5) (fC (.int 0))), .im (f2 dIx (aA 5) (fC (.int 1)))]) (eO "Setter" "set_row" GR))) [some (stD C u1 ps), some (pcD p), some (aN b m), some (.lst true W), some (.int (i : Int)), none] = some (.nx, [some N, some (pcD p), some (aN b m), some (.lst true W), some (.int (i : Int)), some (fU x)]) := fun _ => by
  have s1 : aR 5 (aE (aX (f2 dIx (aA 3) (aA 4)))) [some (stD C u1 ps), some (pcD p), some (aN b m), some (.lst true W), some (.int (i : Int)), none] = some (.nx, [some (stD C u1 ps), some (pcD p), some (aN b m), some (.lst true W), some (.int (i : Int)), some (fU x)]) := by
   refine cA ?_
   simp [gP, gE, aK, aY, aR, aE, fIf, aI, fB, f2, aA, fC, aX, bJ, aV, bE, aP, bM, bV, aB, aD, aG, dIx, bP, bD, D.imm, D.imms, bG, fI, fT, cF, bF, cV, cK, dS, aU, gC, dE, eJ, bI, iA, cL, eS, dY, fA, aZ, dLt, dGe, dIs, fZ, fMt, fB, dB, eZ, e1, hw]
  refine (aF s1).trans ?_
  unfold fU at *
  generalize aN x.2.1 x.2.2 = PX at *
  generalize stD C u1 ps = ST at *
  simp [gP, gE, aK, aY, aR, aE, fIf, aI, fB, f2, aA, fC, aX, bJ, aV, bE, aP, bM, bV, aB, aD, aG, dIx, bP, bD, D.imm, D.imms, bG, fI, fT, cF, bF, cV, cK, dS, aU, gC, dE, eJ, bI, iA, cL, eS, dY, fA, aZ, dLt, dGe, dIs, fZ, fMt, fB, dB, eZ, p1, p2, hm1]
 show gE 3 3 _ (iC tB mB iQ GR) _ = _
 have s1 : aR 3 (aE (aG tB (aB (aA 1) (aB (aA 2) aD)))) [some (stD C u ps), some (pcD p), some (aN b m), none, none, none] = some (.nx, [some (stD C u ps), some (pcD p), some (aN b m), some (.lst true W), none, none]) := cA (bU (aJ rfl (aJ rfl rfl)) q1)
 have s2 : aR 4 (aE (fC (.int 0))) [some (stD C u ps), some (pcD p), some (aN b m), some (.lst true W), none, none] = some (.nx, [some (stD C u ps), some (pcD p), some (aN b m), some (.lst true W), some (.int 0), none]) := rfl
 have t1 : ∀ B, oV b p = B -> aI (fT (aG mB (aB (aA 1) (aB (aA 2) aD)))) [some (stD C u ps), some (pcD p), some (aN b m), some (.lst true W), some (.int 0), none] = some (B, [some (stD C u ps), some (pcD p), some (aN b m), some (.lst true W), some (.int 0), none]) := fun B hB => by
  have e : aG mB (aB (aA 1) (aB (aA 2) aD)) [some (stD C u ps), some (pcD p), some (aN b m), some (.lst true W), some (.int 0), none] = some (.bl B) := bU (aJ rfl (aJ rfl rfl)) (hB ▸ q2)
  unfold aI fT
  rw [e]; rfl
 have s3 : fIf (aI (fT (aG mB (aB (aA 1) (aB (aA 2) aD))))) (aR 4 (bE 0 aP (aU [.im (aG bP (aB (aA 3) aD))]) (eO "Setter" "choice_below" iQ))) aY [some (stD C u ps), some (pcD p), some (aN b m), some (.lst true W), some (.int 0), none] = some (.nx, [some (stD C u1 ps), some (pcD p), some (aN b m), some (.lst true W), some (.int (i : Int)), none]) := by
  rcases hc with ⟨hT, hC, rfl⟩ | ⟨hT, rfl, rfl⟩
  ·refine (vF (t1 _ hT)).trans ?_
   have qb := zi9 (ps := ps) hC (by omega) (show (i : Int) < (W.length : Nat) by omega)
   have hb : eO "Setter" "choice_below" iQ [.int (W.length : Nat)] (stD C u ps) = some (.int (i : Int), stD C (u + 1) ps) := by
    have e : eO "Setter" "choice_below" iQ [.int (W.length : Nat)] (stD C u ps) = (iQ [stD C u ps, .int (W.length : Nat)]).bind fun r => match r.2 with
      | d' :: ds => if ds.length = 1 then some (r.1, d') else none
      | [] => none := by
     rw [st1]
     show (if (("Setter" : Str) = "Setter" /\ bI nsS "choice_below" = none) then _ else none) = _
     exact if_pos ⟨rfl, by simp [gP, gE, aK, aY, aR, aE, fIf, aI, fB, f2, aA, fC, aX, bJ, aV, bE, aP, bM, bV, aB, aD, aG, dIx, bP, bD, D.imm, D.imms, bG, fI, fT, cF, bF, cV, cK, dS, aU, gC, dE, eJ, bI, iA, cL, eS, dY, fA, aZ, dLt, dGe, dIs, fZ, fMt, fB, dB, eZ]⟩
    rw [e, qb]; rfl
   generalize iQ = G at hb |-
   generalize stD C u ps = S0 at hb |-
   generalize stD C (u + 1) ps = S1 at hb |-
   generalize pcD p = d1
   generalize aN b m = d2
   simp [gP, gE, aK, aY, aR, aE, fIf, aI, fB, f2, aA, fC, aX, bJ, aV, bE, aP, bM, bV, aB, aD, aG, dIx, bP, bD, D.imm, D.imms, bG, fI, fT, cF, bF, cV, cK, dS, aU, gC, dE, eJ, bI, iA, cL, eS, dY, fA, aZ, dLt, dGe, dIs, fZ, fMt, fB, dB, eZ, hb]
  ·exact (mE (t1 _ hT)).trans rfl
 have z := (aF s1).trans ((aF s2).trans ((aF s3).trans (body 0)))
 unfold gE
 refine (if_pos rfl).trans ?_
 have z' : iC tB mB iQ GR ([stD C u ps, pcD p, aN b m].map some ++ List.replicate 3 none) = some (.nx, [some N, some (pcD p), some (aN b m), some (.lst true W), some (.int (i : Int)), some (fU x)]) := z
 rw [z']
 rfl
end My
namespace My
open PySem PySem.Spec PyProof.Rows L2 L3
structure Gm where
 kd : Nat
 n : Int
 full : List (List Pc)
 parts : List Pc
noncomputable def kdS : Nat -> String
 | 0 => "top"
 | 1 => "group"
 | 2 => "hang"
 | _ => "either"
noncomputable def gmD (f : Gm) : D := .lst true [.str (kdS f.kd), .int f.n, .lst true (cI f.full), .lst true (aQ f.parts)]
noncomputable def cD : List Gm -> List D
 | [] => []
 | f :: fs => cD fs ++ [gmD f]
theorem nX : ∀ fs, (cD fs).length = fs.length
 | [] => rfl
 | f :: fs => by rw [cD, List.length_append, nX fs]; rfl
noncomputable def qY : List Pc := [.leaf (.word "or")]
noncomputable def oM (f : Gm) : List (List Pc) := if f.full = [] then [f.parts, qY] else f.full ++ [f.parts]
noncomputable def gQ (f : Gm) : Pc := match f.kd with
 | 1 => .group f.parts
 | 2 => .hang f.n f.parts
 | _ => .either (oM f)
noncomputable def kI (g : Gm) (p : Pc) : Gm := { g with parts := g.parts ++ [p] }
mutual
noncomputable def okP : Pc -> Prop
 | .leaf l => jC l
 | .group r => okR r
 | .hang n r => (0 <= n /\ n <= 12) /\ okR r
 | .either rs => (2 <= rs.length /\ rs.length <= 4) /\ kJ rs
noncomputable def okR : List Pc -> Prop
 | [] => True
 | p :: r => okP p /\ okR r
noncomputable def kJ : List (List Pc) -> Prop
 | [] => True
 | r :: rs => okR r /\ kJ rs
end
theorem zZ : ∀ a b : List Pc, okR (a ++ b) ↔ okR a /\ okR b
 | [], b => by simp [okR]
 | p :: a, b => by rw [List.cons_append, okR, okR, zZ a b, and_assoc]
theorem wX : ∀ a b : List (List Pc), kJ (a ++ b) ↔ kJ a /\ kJ b
 | [], b => by simp [kJ]
 | p :: a, b => by rw [List.cons_append, kJ, kJ, wX a b, and_assoc]
theorem zo2 (p : Pc) : okR [p] ↔ okP p := by simp [okR]
theorem zj0 (r : List Pc) : kJ [r] ↔ okR r := by simp [kJ]
theorem pV : ∀ a b : List (List Pc), eK (a ++ b) = eK a ++ eK b
 | [], b => rfl
 | r :: a, b => by
  show Tk.orr :: (bO r ++ eK (a ++ b)) = (Tk.orr :: (bO r ++ eK a)) ++ eK b
  rw [pV a b]; simp
noncomputable def wF (f : Gm) : Nat := (eK f.full).length + (bO f.parts).length + 4
noncomputable def wG : List Gm -> Nat
 | [] => 0
 | f :: fs => wF f + wG fs
noncomputable def ys9 (f : Gm) : Prop := kJ f.full /\ okR f.parts /\ f.full.length <= 3 /\ (f.kd ≠ 3 -> f.full = []) /\ 0 <= f.n /\ f.n <= 12
noncomputable def zk9 : List Gm -> Prop
 | [] => False
 | [f] => f.kd = 0
 | f :: g :: fs => (1 <= f.kd /\ f.kd <= 3) /\ zk9 (g :: fs)
noncomputable def yi3 (m : Nat) : List Gm -> Prop
 | [] => True
 | f :: fs => cT f.parts + fs.length <= m /\ kL f.full + fs.length <= m /\ yi3 m fs
structure GInv (nest k : Nat) (fs : List Gm) : Prop where
 len : fs.length <= nest + 1
 wt : wG fs <= 4 * k + 4
 each : ∀ f ∈ fs, ys9 f
 kinds : zk9 fs
 deep : yi3 nest fs
theorem zs7 {f : Gm} (h : f.kd ≠ 3 -> f.full = []) (hk : 1 <= f.kd /\ f.kd <= 3) : (dH (gQ f)).length <= wF f := by
 have e : f.kd = 1 \/ f.kd = 2 \/ f.kd = 3 := by omega
 unfold wF gQ
 rcases e with e | e | e
 ·rw [e]; show (Tk.opn :: (bO f.parts ++ [.cls])).length <= _; rw [List.length_cons, List.length_append]; simp; omega
 ·rw [e]; show (Tk.hng f.n :: (bO f.parts ++ [.bck])).length <= _; rw [List.length_cons, List.length_append]; simp; omega
 ·rw [e]
  show (Tk.eit :: (oE (oM f) ++ [.don])).length <= _
  rw [List.length_cons, List.length_append]
  unfold oM
  cases hf : f.full with
  | nil =>
   rw [if_pos rfl]
   show (bO f.parts ++ (Tk.orr :: (bO qY ++ []))).length + 1 + 1 <= _
   simp [qY, bO, dH, eK]
  | cons r rs =>
   rw [if_neg (by simp)]
   show (bO r ++ eK (rs ++ [f.parts])).length + 1 + 1 <= (Tk.orr :: (bO r ++ eK rs)).length + _ + 4
   rw [pV]
   simp [eK]; omega
theorem ye6 {f : Gm} (h : ys9 f) (hk : 1 <= f.kd /\ f.kd <= 3) : okP (gQ f) := by
 obtain ⟨h1, h2, h3, h4, h5, h6⟩ := h
 have e : f.kd = 1 \/ f.kd = 2 \/ f.kd = 3 := by omega
 unfold gQ
 rcases e with e | e | e
 ·rw [e]; exact h2
 ·rw [e]; exact ⟨⟨h5, h6⟩, h2⟩
 ·rw [e]
  show (2 <= (oM f).length /\ (oM f).length <= 4) /\ kJ (oM f)
  unfold oM
  by_cases c : f.full = []
  ·rw [if_pos c]
   refine ⟨⟨by simp, by simp⟩, h2, ?_, trivial⟩
   exact ⟨⟨by decide +kernel, by decide +kernel, by decide +kernel⟩, trivial⟩
  ·rw [if_neg c]
   have hp : 1 <= f.full.length := by cases hf : f.full with | nil => exact absurd hf c | cons a l => simp
   refine ⟨⟨by rw [List.length_append]; simp; omega, by rw [List.length_append]; simp; omega⟩, ?_⟩
   rw [wX, zj0]; exact ⟨h1, h2⟩
theorem zz8 {f : Gm} {m k : Nat} (h1 : cT f.parts + (k + 1) <= m) (h2 : kL f.full + (k + 1) <= m) : fK (gQ f) + k <= m := by
 unfold gQ
 split
 ·show cT f.parts + 1 + k <= m; omega
 ·show cT f.parts + 1 + k <= m; omega
 ·show kL (oM f) + 1 + k <= m
  unfold oM
  split
  ·show max (cT f.parts) (max (cT qY) 0) + 1 + k <= m
   have : cT qY = 0 := rfl
   omega
  ·rw [sI]; omega
theorem GInv.leaf {nest k : Nat} {f : Gm} {fs : List Gm} {l : Leaf} (h : GInv nest k (f :: fs)) (hl : jC l) : GInv nest (k + 1) (kI f (.leaf l) :: fs) := by
 obtain ⟨h1, h2, h3, h4, h5⟩ := h
 have hf := h3 f List.mem_cons_self
 refine ⟨h1, ?_, ?_, ?_, ?_⟩
 ·have h2' : wF f + wG fs <= 4 * k + 4 := h2
  show (eK f.full).length + (bO (f.parts ++ [.leaf l])).length + 4 + wG fs <= _
  rw [pU, List.length_append]
  unfold wF at h2'
  show _ + (_ + 1) + 4 + _ <= _
  omega
 ·intro x hx
  rcases List.mem_cons.mp hx with rfl | hx
  ·obtain ⟨a1, a2, a3, a4, a5⟩ := hf
   exact ⟨a1, (zZ _ _).mpr ⟨a2, (zo2 _).mpr hl⟩, a3, a4, a5⟩
  ·exact h3 x (List.mem_cons_of_mem _ hx)
 ·cases fs with
  | nil => exact h4
  | cons g fs => exact ⟨h4.1, h4.2⟩
 ·refine ⟨?_, h5.2.1, h5.2.2⟩
  show cT (f.parts ++ [.leaf l]) + fs.length <= nest
  rw [uD]
  have := h5.1
  show max _ 0 + _ <= _
  omega
theorem GInv.opener {nest k : Nat} {fs : List Gm} {kd : Nat} {n : Int} (h : GInv nest k fs) (hk : 1 <= kd /\ kd <= 3) (hn : 0 <= n /\ n <= 12) (hl : fs.length <= nest) : GInv nest (k + 1) (⟨kd, n, [], []⟩ :: fs) := by
 obtain ⟨h1, h2, h3, h4, h5⟩ := h
 refine ⟨by simp; omega, ?_, ?_, ?_, ?_⟩
 ·show 0 + 0 + 4 + wG fs <= _; omega
 ·intro x hx
  rcases List.mem_cons.mp hx with rfl | hx
  ·exact ⟨trivial, trivial, Nat.zero_le _, fun _ => rfl, hn⟩
  ·exact h3 x hx
 ·cases fs with
  | nil => exact h4.elim
  | cons g fs => exact ⟨hk, h4⟩
 ·exact ⟨by show 0 + _ <= _; omega, by show 0 + _ <= _; omega, h5⟩
theorem GInv.orr {nest k : Nat} {f : Gm} {fs : List Gm} (h : GInv nest k (f :: fs)) (hf3 : f.full.length < 3) (hk : f.kd = 3) : GInv nest (k + 1) ({ f with full := f.full ++ [f.parts], parts := [] } :: fs) := by
 obtain ⟨h1, h2, h3, h4, h5⟩ := h
 have hf := h3 f List.mem_cons_self
 refine ⟨h1, ?_, ?_, ?_, ?_⟩
 ·have h2' : wF f + wG fs <= 4 * k + 4 := h2
  show (eK (f.full ++ [f.parts])).length + 0 + 4 + wG fs <= _
  rw [pV, List.length_append]
  unfold wF at h2'
  simp [eK]; omega
 ·intro x hx
  rcases List.mem_cons.mp hx with rfl | hx
  ·obtain ⟨a1, a2, a3, a4, a5⟩ := hf
   exact ⟨(wX _ _).mpr ⟨a1, (zj0 _).mpr a2⟩, trivial, by show (f.full ++ [f.parts]).length <= 3; rw [List.length_append]; simp; omega, fun z => absurd hk z, a5⟩
  ·exact h3 x (List.mem_cons_of_mem _ hx)
 ·cases fs with
  | nil => exact h4
  | cons g fs => exact ⟨h4.1, h4.2⟩
 ·refine ⟨?_, ?_, h5.2.2⟩
  ·show 0 + _ <= _
   have := h5.1; omega
  ·show kL (f.full ++ [f.parts]) + fs.length <= nest
   rw [sI]
   have a1 := h5.1; have a2 := h5.2.1
   omega
theorem GInv.shut {nest k : Nat} {f g : Gm} {fs : List Gm} (h : GInv nest k (f :: g :: fs)) : GInv nest k (kI g (gQ f) :: fs) := by
 obtain ⟨h1, h2, h3, h4, h5⟩ := h
 have hf := h3 f List.mem_cons_self
 have hg := h3 g (List.mem_cons_of_mem _ List.mem_cons_self)
 have hk := h4.1
 refine ⟨by simp at h1 |-; omega, ?_, ?_, ?_, ?_⟩
 ·have h2' : wF f + (wF g + wG fs) <= 4 * k + 4 := h2
  have t := zs7 hf.2.2.2.1 hk
  show (eK g.full).length + (bO (g.parts ++ [gQ f])).length + 4 + wG fs <= _
  rw [pU, List.length_append, zy1]
  unfold wF at h2' t
  omega
 ·intro x hx
  rcases List.mem_cons.mp hx with rfl | hx
  ·obtain ⟨a1, a2, a3, a4, a5⟩ := hg
   exact ⟨a1, (zZ _ _).mpr ⟨a2, (zo2 _).mpr (ye6 hf hk)⟩, a3, a4, a5⟩
  ·exact h3 x (List.mem_cons_of_mem _ (List.mem_cons_of_mem _ hx))
 ·cases fs with
  | nil => exact h4.2
  | cons g' fs => exact ⟨h4.2.1, h4.2.2⟩
 ·obtain ⟨d1, d2, d3, d4, d5⟩ := h5
  refine ⟨?_, d4, d5⟩
  show cT (g.parts ++ [gQ f]) + fs.length <= nest
  rw [uD]
  have := zz8 (f := f) (m := nest) (k := fs.length) d1 d2
  omega
theorem GInv.more {nest k k' : Nat} {fs : List Gm} (h : GInv nest k fs) (hk : k <= k') : GInv nest k' fs := ⟨h.len, by have := h.wt; omega, h.each, h.kinds, h.deep⟩
theorem zz9 : ∀ {fs : List Gm} {f : Gm}, f ∈ fs -> wF f <= wG fs
 | [], _, h => by simp at h
 | g :: fs, f, h => by
  show wF f <= wF g + wG fs
  rcases List.mem_cons.mp h with rfl | h
  ·omega
  ·have := zz9 h; omega
theorem zs8 (p : Pc) : 1 <= (dH p).length := by cases p <;> simp [dH]
theorem xZ : ∀ r : List Pc, r.length <= (bO r).length
 | [] => Nat.le_refl _
 | p :: r => by
  show r.length + 1 <= (dH p ++ bO r).length
  rw [List.length_append]
  have := xZ r; have := zs8 p; omega
theorem GInv.parts {nest k : Nat} {fs : List Gm} {f : Gm} (h : GInv nest k fs) (hf : f ∈ fs) : f.parts.length <= 4 * k + 4 := by
 have h1 := zz9 hf; have h2 := h.wt; have h3 := xZ f.parts
 unfold wF at h1; omega
end My
namespace My
open PySem PySem.Spec PyProof.Rows L2 L3
theorem nD : ixN 4 3 = some 3 := by decide
theorem nE : ixN 4 2 = some 2 := by decide
theorem iT {α : Type} (a b c d : α) : atI [a, b, c, d] 3 = some d := rfl
noncomputable abbrev yW : tz7 := gE 1 5 (aZ [true]) oR
theorem yw2 {N : List D} {a b c d : D} : sW [1, 2, 3, 4] (bE 0 aP aD qB) [some (.lst true (N ++ [.lst true [a, b, c, d]])), none, none, none, none, none] = some (.nx, [some (.lst true N), some a, some b, some c, some d, none]) := by
 simp [gP, aK, aY, aR, aE, fIf, aI, fB, f2, aA, fC, aX, bJ, eZ, aV, bE, aP, bM, bV, aB, aD, bL, cU, fKs, aG, dEq, dNe, eqB, dB, dIx, bP, bD, qB, gA, pA, D.imm, D.imms, cQ, bG, fT, cF, bF, cV, cK, fH, dF, dG, fJ, eQ, sW, zk3, sV, cE, dS, cX, dLt, dLe, dGt, dGe, gE, fA, aZ, fIO, aU, dX, dC, dU, gH, gI, oX, L2.gZ, nD, nE, iT]
theorem kd1 {p : PSt} {k w : String} {b : Bool} (hp : p[1]? = some (some (.str k))) (h : decide (k = w) = b) : fB (f2 dEq (aA 1) (fC (.str w))) p = some b := by
 refine fL (aT (mQ hp) rfl ?_)
 show some (D.bl (decide ((k : Str) = (w : Str)))) = _
 rw [<- h]
 congr 2
 exact decide_eq_decide.mpr (by rw [bF])
theorem ye7 {f g : Gm} {fs : List Gm} (hk : 1 <= f.kd /\ f.kd <= 3) (hf : f.kd ≠ 3 -> f.full = []) (hfl : f.full.length <= 3) (hg : g.parts.length <= 900) : yW [.lst true (cD (f :: g :: fs))] = some (.non, [.lst true (cD (kI g (gQ f) :: fs))]) := by
 obtain ⟨kd, n, full, parts⟩ := f
 have hfl' : full.length <= 3 := hfl
 have hz : (aQ g.parts).length < sizeLine := by rw [wU]; exact sz1 (by omega)
 have s2 : ∀ K x0, aR 3 (aE (f2 bG (aA 3) (bL (aB (aG cQ (aB (aA 4) aD)) aD)))) [x0, some K, some (.int n), some (.lst true (cI full)), some (.lst true (aQ parts)), none] = some (.nx, [x0, some K, some (.int n), some (.lst true (cI (full ++ [parts]))), some (.lst true (aQ parts)), none]) := fun K x0 => by
  refine cA (aT rfl (eY (aJ (bU (aJ rfl rfl) (if_pos (dZ parts))) rfl) (Nat.le_of_ble_eq_true rfl)) ?_)
  rw [uJ]
  refine zz0 (mL full) (mL [parts]) ?_
  rw [jS]; show full.length + 1 <= 1000; omega
 have s4 : ∀ K x0 x4 (r0 : List Pc) rs, aR 5 (aE (cU (aB (fC (.str "group")) (aB (aX (f2 dIx (aA 3) (fC (.int 0)))) aD)))) [x0, some K, some (.int n), some (.lst true (cI (r0 :: rs))), x4, none] = some (.nx, [x0, some K, some (.int n), some (.lst true (cI (r0 :: rs))), x4, some (pcD (.group r0))]) := fun K x0 x4 r0 rs =>
  cA (lN (aJ rfl (aJ (eT (aT rfl rfl (cV _ _)) (dZ r0)) rfl)) (oO (.group r0)) (Nat.le_of_ble_eq_true rfl))
 have s7 : ∀ (pc : Pc) K x3 x4, aV (bE 0 (dF 0 (dF 0 aP (eQ (fC (.int 1)))) (fC (.int 3))) (aB (aX (aA 5)) aD) bD) [some (.lst true (cD fs ++ [gmD g])), K, some (.int n), x3, x4, some (pcD pc)] = some (.nx, [some (.lst true (cD fs ++ [gmD (kI g pc)])), K, some (.int n), x3, x4, some (pcD pc)]) := fun pc K x3 x4 => by
  have hi := oO pc
  have e : gmD (kI g pc) = .lst true [.str (kdS g.kd), .int g.n, .lst true (cI g.full), .lst true (aQ g.parts ++ [pcD pc])] := by unfold gmD kI; rw [wT]; rfl
  rw [e]
  unfold gmD
  generalize pcD pc = d at hi |-
  simp [gP, aK, aY, aR, aE, fIf, aI, fB, f2, aA, fC, aX, bJ, eZ, aV, bE, aP, bM, bV, aB, aD, bL, cU, fKs, aG, dEq, dNe, eqB, dB, dIx, bP, bD, qB, gA, pA, D.imm, D.imms, cQ, bG, fT, cF, bF, cV, cK, fH, dF, dG, fJ, eQ, sW, zk3, sV, cE, dS, cX, dLt, dLe, dGt, dGe, gE, fA, aZ, fIO, aU, dX, dC, dU, gH, gI, oX, L2.gZ, nD, nE, iT, hi, hz]
 suffices h : ∃ q1 q2 q3 q4 q5, oR [some (.lst true (cD (⟨kd, n, full, parts⟩ :: g :: fs))), none, none, none, none, none] = some (.nx, [some (.lst true (cD fs ++ [gmD (kI g (gQ ⟨kd, n, full, parts⟩))])), q1, q2, q3, q4, q5]) from by
  obtain ⟨q1, q2, q3, q4, q5, hq⟩ := h
  unfold yW gE
  refine (if_pos rfl).trans ?_
  show (oR [some (.lst true (cD (⟨kd, n, full, parts⟩ :: g :: fs))), none, none, none, none, none]).bind _ = _
  rw [hq]; rfl
 have s1 : sW [1, 2, 3, 4] (bE 0 aP aD qB) [some (.lst true (cD (⟨kd, n, full, parts⟩ :: g :: fs))), none, none, none, none, none] = _ := yw2
 have e : kd = 1 \/ kd = 2 \/ kd = 3 := by have : 1 <= kd /\ kd <= 3 := hk; omega
 unfold oR
 rw [aF s1, aF (s2 _ _)]
 rcases e with rfl | rfl | rfl
 ·have e1 : full = [] := hf (by simp [gP, aK, aY, aR, aE, fIf, aI, fB, f2, aA, fC, aX, bJ, eZ, aV, bE, aP, bM, bV, aB, aD, bL, cU, fKs, aG, dEq, dNe, eqB, dB, dIx, bP, bD, qB, gA, pA, D.imm, D.imms, cQ, bG, fT, cF, bF, cV, cK, fH, dF, dG, fJ, eQ, sW, zk3, sV, cE, dS, cX, dLt, dLe, dGt, dGe, gE, fA, aZ, fIO, aU, dX, dC, dU, gH, gI, oX, L2.gZ, nD, nE, iT])
  subst e1
  exact ⟨_, _, _, _, _, (aF (bN (kT (kd1 (k := "group") rfl (by decide))))).trans ((aF (s4 _ _ _ parts [])).trans ((aF (bN (kd1 (k := "group") rfl (by decide)))).trans ((aF (bN (kd1 (k := "group") rfl (by decide)))).trans (s7 _ _ _ _))))⟩
 ·have e1 : full = [] := hf (by simp [gP, aK, aY, aR, aE, fIf, aI, fB, f2, aA, fC, aX, bJ, eZ, aV, bE, aP, bM, bV, aB, aD, bL, cU, fKs, aG, dEq, dNe, eqB, dB, dIx, bP, bD, qB, gA, pA, D.imm, D.imms, cQ, bG, fT, cF, bF, cV, cK, fH, dF, dG, fJ, eQ, sW, zk3, sV, cE, dS, cX, dLt, dLe, dGt, dGe, gE, fA, aZ, fIO, aU, dX, dC, dU, gH, gI, oX, L2.gZ, nD, nE, iT])
  subst e1
  exact ⟨_, _, _, _, _, (aF (bN (kT (kd1 (k := "hang") rfl (by decide))))).trans ((aF (s4 _ _ _ parts [])).trans ((aF ((dI (kd1 (k := "hang") rfl (by decide))).trans (cA (lN (aJ rfl (aJ (eT rfl rfl) (aJ (eT (d := .tup (aQ parts)) (aT rfl rfl (cV _ _)) (dZ parts)) rfl))) (oO (.hang n parts)) (Nat.le_of_ble_eq_true rfl))))).trans ((aF (bN (kd1 (k := "hang") rfl (by decide)))).trans (s7 (.hang n parts) _ _ _))))⟩
 ·have fin : ∀ (r0 : List Pc) (rs : List (List Pc)), oM ⟨3, n, full, parts⟩ = r0 :: rs -> ∃ q1 q2 q3 q4 q5, aK (aR 5 (aE (cU (aB (fC (.str "group")) (aB (aX (f2 dIx (aA 3) (fC (.int 0)))) aD))))) (aK (fIf (aI (fB (f2 dEq (aA 1) (fC (.str "hang"))))) (aR 5 (aE (cU (aB (fC (.str "hang")) (aB (aX (aA 2)) (aB (aX (f2 dIx (aA 3) (fC (.int 0)))) aD)))))) aY)
    (aK (fIf (aI (fB (f2 dEq (aA 1) (fC (.str "either"))))) (aR 5 (aE (cU (aB (fC (.str "either")) (aB (aG cQ (aB (aA 3) aD)) aD))))) aY) (aV (bE 0 (dF 0 (dF 0 aP (eQ (fC (.int 1)))) (fC (.int 3))) (aB (aX (aA 5)) aD) bD)))) [some (.lst true (cD fs ++ [gmD g])), some (.str "either"), some (.int n), some (.lst true (cI (r0 :: rs))), some (.lst true (aQ parts)), none] = some (.nx, [some (.lst true (cD fs ++ [gmD (kI g (gQ ⟨3, n, full, parts⟩))])), q1, q2, q3, q4, q5]) := fun r0 rs he => by
   have hs : gQ ⟨3, n, full, parts⟩ = .either (r0 :: rs) := by rw [<- he]; rfl
   rw [hs]
   exact ⟨_, _, _, _, _, (aF (s4 _ _ _ r0 rs)).trans ((aF (bN (kd1 rfl (by decide)))).trans ((aF ((dI (kd1 rfl (by decide))).trans (cA (lN (aJ rfl (aJ (bU (aJ rfl rfl) (if_pos (mL (r0 :: rs)))) rfl)) (oO (.either (r0 :: rs))) (Nat.le_of_ble_eq_true rfl))))).trans (s7 (.either (r0 :: rs)) _ _ _)))⟩
  have lt : ∀ x0 x4, fB (f2 dLt (aG bP (aB (aA 3) aD)) (fC (.int 2))) [x0, some (.str "either"), some (.int n), some (.lst true (cI (full ++ [parts]))), x4, none] = some (decide ((((full ++ [parts]).length : Nat) : Int) < 2)) := fun x0 x4 => by
   refine fL (aT (bU (aJ rfl rfl) rfl) rfl ?_)
   show some (D.bl (decide ((((cI (full ++ [parts])).length : Nat) : Int) < 2))) = _
   rw [jS]
  cases full with
  | nil =>
   have s3 : ∀ x0 x4, fIf (aI (cE (fB (f2 dEq (aA 1) (fC (.str "either")))) (fB (f2 dLt (aG bP (aB (aA 3) aD)) (fC (.int 2)))))) (aR 3 (aE (f2 bG (aA 3) (bL (aB (cU (aB (cU (aB (fC (.str "word")) (aB (fC (.str "or")) aD))) aD)) aD))))) aY [x0, some (.str "either"), some (.int n), some (.lst true (cI ([] ++ [parts]))), x4, none] = some (.nx, [x0, some (.str "either"), some (.int n), some (.lst true (cI [parts, qY])), x4, none]) := fun x0 x4 =>
    (dI (jP (kd1 rfl (by decide)) (lt _ _))).trans (cA (aT rfl (eY (aJ (lN (aJ (lN (aJ rfl (aJ rfl rfl)) rfl (Nat.le_of_ble_eq_true rfl)) rfl) rfl (Nat.le_of_ble_eq_true rfl)) rfl) (Nat.le_of_ble_eq_true rfl)) (zz0 (mL [parts]) (mL [qY]) (Nat.le_of_ble_eq_true rfl))))
   show ∃ q1 q2 q3 q4 q5, aK _ _ [some (.lst true (cD fs ++ [gmD g])), some (.str "either"), some (.int n), some (.lst true (cI ([] ++ [parts]))), some (.lst true (aQ parts)), none] = _
   rw [aF (s3 _ _)]
   exact fin parts [qY] rfl
  | cons r rs =>
   have lt' := lt (some (.lst true (cD fs ++ [gmD g]))) (some (.lst true (aQ parts)))
   rw [decide_eq_false (by simp; omega)] at lt'
   show ∃ q1 q2 q3 q4 q5, aK _ _ [some (.lst true (cD fs ++ [gmD g])), some (.str "either"), some (.int n), some (.lst true (cI (r :: rs ++ [parts]))), some (.lst true (aQ parts)), none] = _
   rw [aF (bN (jP (kd1 rfl (by decide)) lt'))]
   exact fin r (rs ++ [parts]) rfl
end My
namespace My
open PySem PySem.Spec PyProof.Rows L2 L3
noncomputable def mF (GH GPl : tz7) : tz1 :=
   (fIf (aI (fT (aG lZ (aB (aA 3) aD))))
   (aV (bE 0 aP (aU [.im (aA 3), .im (aA 2)]) (eO "Setter" "set_holder" GH)))
   (aV (bE 0 aP (aU [.im (aA 3), .im (aA 2)]) (eO "Setter" "set_plain" GPl))))
theorem vI {g : tz7} {m : Str} {C : List Int} {u : Nat} {ps : List Str} {d1 d2 N v : D} (hm : bI nsS m = none) (h : g [stD C u ps, d1, d2] = some (v, [N, d1, d2])) : eO "Setter" m g [d1, d2] (stD C u ps) = some (v, N) := by
 show (if (("Setter" : Str) = "Setter" /\ bI nsS m = none) then (g [stD C u ps, d1, d2]).bind _ else none) = _
 rw [if_pos ⟨rfl, hm⟩, h]; rfl
theorem vJ {GH : tz7} {C : List Int} {u : Nat} {ps : List Str} {p : Pc} {b : Bool} {m : Int} {R : Option D} {N : D} (hp : lF p = true) (h : GH [stD C u ps, pcD p, aN b m] = some (.non, [N, pcD p, aN b m])) :
  mF GH gF [some (stD C u ps), R, some (aN b m), some (pcD p)] = some (.nx, [some N, R, some (aN b m), some (pcD p)]) := by
 have q := sM p
 rw [hp] at q
 have hm := vI (m := "set_holder") (by simp [aV, bE, aP, bM, bV, aU, aX, aA, aE, fT, cF, aI, D.imm, D.imms, aB, aD, aG, bI, bF]) h
 have i1 := oO p
 have i2 := jB b m
 unfold mF
 generalize lZ = G1 at q |-
 generalize gF = G2
 generalize stD C u ps = S at hm |-
 generalize pcD p = d1 at *
 generalize aN b m = d2 at *
 refine (vF (p' := [some S, R, some d2, some d1]) (by simp [aV, bE, aP, bM, bV, aU, aX, aA, aE, fT, cF, aI, D.imm, D.imms, aB, aD, aG, q])).trans ?_
 simp [aV, bE, aP, bM, bV, aU, aX, aA, aE, fT, cF, aI, D.imm, D.imms, aB, aD, aG, i1, i2, hm]
theorem ye8 {GH : tz7} {C : List Int} {u : Nat} {ps : List Str} {l : Leaf} {b : Bool} {m : Int} {R : Option D} {N : D} (h : gF [stD C u ps, cZ l, aN b m] = some (.non, [N, cZ l, aN b m])) :
  mF GH gF [some (stD C u ps), R, some (aN b m), some (cZ l)] = some (.nx, [some N, R, some (aN b m), some (cZ l)]) := by
 have q : lZ [cZ l] = some (.bl false) := sM (.leaf l)
 have hm := vI (m := "set_plain") (by simp [aV, bE, aP, bM, bV, aU, aX, aA, aE, fT, cF, aI, D.imm, D.imms, aB, aD, aG, bI, bF]) h
 have i1 := zi3 l
 have i2 := jB b m
 unfold mF
 generalize lZ = G1 at q |-
 generalize gF = G2 at hm |-
 generalize stD C u ps = S at hm |-
 generalize cZ l = d1 at *
 generalize aN b m = d2 at *
 refine (mE (p' := [some S, R, some d2, some d1]) (by simp [aV, bE, aP, bM, bV, aU, aX, aA, aE, fT, cF, aI, D.imm, D.imms, aB, aD, aG, q])).trans ?_
 simp [aV, bE, aP, bM, bV, aU, aX, aA, aE, fT, cF, aI, D.imm, D.imms, aB, aD, aG, i1, i2, hm]
noncomputable def kO : Nat -> tz7
 | 0 => fun _ => none
 | n + 1 => gE 3 1 (aZ [true, false, false]) (jM lZ (lT (kO n)) gF)
noncomputable def pB (a l w : Nat) : Prop := a + w <= 900 /\ l + 201 * w <= 1000000
noncomputable def kP (a a' l l' w : Nat) : Prop := a' <= a + w /\ l' <= l + 201 * w
theorem lO {a l w w' : Nat} (h : pB a l w) (hw : w' <= w) : pB a l w' := by unfold pB at *; omega
theorem sO {a a' l l' w w' : Nat} (h : kP a a' l l' w) (hw : w <= w') : kP a a' l l' w' := by unfold kP at *; omega
theorem zc3 {a a' l l' v w : Nat} (h : pB a l (v + w)) (g : kP a a' l l' v) : pB a' l' w := by unfold pB kP at *; omega
theorem zm0 {a a1 a2 l l1 l2 v w : Nat} (g : kP a a1 l l1 v) (h : kP a1 a2 l1 l2 w) : kP a a2 l l2 (v + w) := by unfold kP at *; omega
theorem yA {m : Int} {x : Nat} (h : m + 12 * ((x + 1 : Nat) : Int) <= 200) : m + 12 * (x : Int) <= 200 := by omega
theorem nY {m : Int} {x y : Nat} (h : m + 12 * (y : Int) <= 200) (hx : x <= y) : m + 12 * (x : Int) <= 200 := by omega
theorem ya0 {m k : Int} {x : Nat} (h : m + 12 * ((x + 1 : Nat) : Int) <= 200) (hk : k <= 12) : m + k + 12 * (x : Int) <= 200 := by omega
theorem ye9 {ps : List Str} {w : Str} (hw : w.length <= 201) : kP ps.length (ps ++ [w]).length (cat ps).length (cat (ps ++ [w])).length 1 := by
 rw [sN, eD, List.length_append]
 unfold kP
 show _ + 1 <= _ /\ _
 omega
noncomputable def ze4 (GR : tz7) (r : List Pc) : Prop := ∀ (b : Bool) (m : Int) (C : List Int) (u : Nat) (ps : List Str) (cs' : List Int) (t' : Str), 0 <= m -> m + 12 * cT r <= 200 -> eP b m r (C.drop u) (cat ps) = some (cs', t') -> u <= C.length ->
 pB ps.length (cat ps).length (bO r).length ->
 ∃ u' ps', GR [stD C u ps, .tup (aQ r), aN b m] = some (.non, [stD C u' ps', .tup (aQ r), aN b m]) /\ C.drop u' = cs' /\ cat ps' = t' /\ u' <= C.length /\ kP ps.length ps'.length (cat ps).length (cat ps').length (bO r).length
theorem qQ {C : List Int} {u : Nat} {c : Int} {cs : List Int} (h : C.drop u = c :: cs) : C[u]? = some c /\ C.drop (u + 1) = cs /\ u + 1 <= C.length := by
 have hu : u < C.length := by
  rcases Nat.lt_or_ge u C.length with h1 | h1
  ·exact h1
  ·rw [List.drop_eq_nil_of_le h1] at h; cases h
 rw [List.drop_eq_getElem_cons hu] at h
 cases h
 exact ⟨List.getElem?_eq_getElem hu, rfl, hu⟩
theorem oP : ∀ {rs : List (List Pc)} {i : Nat} {r : List Pc}, rs[i]? = some r -> cT r <= kL rs
 | [], i, _, h => by simp [aV, bE, aP, bM, bV, aU, aX, aA, aE, fT, cF, aI, D.imm, D.imms, aB, aD, aG] at h
 | q :: rs, 0, _, h => by simp [aV, bE, aP, bM, bV, aU, aX, aA, aE, fT, cF, aI, D.imm, D.imms, aB, aD, aG] at h; subst h; rw [kL]; omega
 | q :: rs, i + 1, _, h => by have := oP (rs := rs) (i := i) (by simpa using h); rw [kL]; omega
theorem sP : ∀ {rs : List (List Pc)} {i : Nat} {r : List Pc}, kJ rs -> rs[i]? = some r -> okR r
 | [], i, _, _, h => by simp [aV, bE, aP, bM, bV, aU, aX, aA, aE, fT, cF, aI, D.imm, D.imms, aB, aD, aG] at h
 | q :: rs, 0, _, o, h => by simp [aV, bE, aP, bM, bV, aU, aX, aA, aE, fT, cF, aI, D.imm, D.imms, aB, aD, aG] at h; subst h; rw [kJ] at o; exact o.1
 | q :: rs, i + 1, _, o, h => by rw [kJ] at o; exact sP (rs := rs) (i := i) o.2 (by simpa using h)
noncomputable def xC (GR : tz7) (p : Pc) (b : Bool) (m : Int) (C : List Int) (u : Nat) (ps : List Str) (cs' : List Int) (t' : Str) (R : Option D) : Prop := ∃ u' ps', mF (lT GR) gF [some (stD C u ps), R, some (aN b m), some (pcD p)] = some (.nx, [some (stD C u' ps'), R, some (aN b m), some (pcD p)]) /\ C.drop u' = cs' /\ cat ps' = t' /\ u' <= C.length /\ kP ps.length ps'.length (cat ps).length (cat ps').length (dH p).length
theorem zc4 {GR : tz7} {p : Pc} {k : Nat} (hG : ∀ r, cT r < k -> okR r -> ze4 GR r) (hd : fK p <= k) (ho : okP p) {b : Bool} {m : Int} {C : List Int} {u : Nat} {ps : List Str} {cs' : List Int} {t' : Str} {R : Option D} (h0 : 0 <= m) (h1 : m + 12 * fK p <= 200)
  (h : gW b m p (C.drop u) (cat ps) = some (cs', t')) (hu : u <= C.length) (hp : pB ps.length (cat ps).length (dH p).length) : xC GR p b m C u ps cs' t' R := by
 cases p with
 | leaf l =>
  rw [gW] at h
  cases e : wr b m (col (cat ps)) l with
  | none => rw [e] at h; cases h
  | some w =>
   rw [e] at h
   cases h
   have hl : jC l := ho
   have h1' : m <= 200 := by rw [fK] at h1; omega
   obtain ⟨_, hz⟩ := yh3 hl h0 h1' e
   rw [show (dH (.leaf l)).length = 1 from rfl] at hp
   have q := ye5 (C := C) (u := u) hl h0 h1' e (by have := hp.1; omega) (by have := hp.2; omega)
   delta xC
   exact ⟨u, ps ++ [w], ye8 q, rfl, sN ps w, hu, (show (dH (.leaf l)).length = 1 from rfl) ▸ ye9 hz⟩
 | group r =>
  have ho' : okR r := ho
  rw [fK] at hd h1
  have hd' : cT r < k := hd
  have h1' : m + 12 * cT r <= 200 := yA h1
  have ht : (dH (.group r)).length = (bO r).length + 2 := by simp [aV, bE, aP, bM, bV, aU, aX, aA, aE, fT, cF, aI, D.imm, D.imms, aB, aD, aG, dH]
  rw [ht] at hp
  have hp' := lO hp (Nat.le_add_right _ 2)
  rw [gW.eq_def] at h
  simp only at h
  cases b with
  | false =>
   simp only [Bool.false_eq_true, if_false] at h
   obtain ⟨u', ps', q, e1, e2, e3, e4⟩ := hG r hd' ho' false m C u ps cs' t' h0 h1' h hu hp'
   delta xC
   exact ⟨u', ps' , vJ rfl (vH (i := 0) (x := (r, false, m)) rfl (by simp [aV, bE, aP, bM, bV, aU, aX, aA, aE, fT, cF, aI, D.imm, D.imms, aB, aD, aG, kN]) rfl (.inr ⟨rfl, rfl, rfl⟩) q), e1, e2, e3, ht ▸ sO e4 (Nat.le_add_right _ 2)⟩
  | true =>
   cases hC : C.drop u with
   | nil => rw [hC] at h; simp [aV, bE, aP, bM, bV, aU, aX, aA, aE, fT, cF, aI, D.imm, D.imms, aB, aD, aG] at h
   | cons c cs =>
    obtain ⟨g1, g2, g3⟩ := qQ hC
    rw [hC] at h
    simp only [if_true] at h
    have go : ∀ (i : Nat) (bb : Bool), (i : Int) = c -> (iE true m (.group r))[i]? = some (r, bb, m) -> eP bb m r cs (cat ps) = some (cs', t') -> xC GR (.group r) true m C u ps cs' t' R := fun i bb hi hw hs => by
     rw [<- g2] at hs
     obtain ⟨u', ps', q, e1, e2, e3, e4⟩ := hG r hd' ho' bb m C (u + 1) ps cs' t' h0 h1' hs g3 hp'
     delta xC
     exact ⟨u', ps' , vJ rfl (vH (i := i) (x := (r, bb, m)) rfl (by simp [aV, bE, aP, bM, bV, aU, aX, aA, aE, fT, cF, aI, D.imm, D.imms, aB, aD, aG, kN]) hw (.inl ⟨rfl, by rw [hi]; exact g1, rfl⟩) q), e1, e2, e3, ht ▸ sO e4 (Nat.le_add_right _ 2)⟩
    by_cases c0 : c = 0
    ·subst c0
     rw [if_pos rfl] at h
     exact go 0 false rfl rfl h
    ·rw [if_neg c0] at h
     by_cases c1 : c = 1
     ·subst c1
      rw [if_pos rfl] at h
      exact go 1 true rfl rfl h
     ·rw [if_neg c1] at h; cases h
 | hang n r =>
  have ho' : (0 <= n /\ n <= 12) /\ okR r := ho
  rw [fK] at hd h1
  have ht : (dH (.hang n r)).length = (bO r).length + 2 := by simp [aV, bE, aP, bM, bV, aU, aX, aA, aE, fT, cF, aI, D.imm, D.imms, aB, aD, aG, dH]
  rw [ht] at hp
  rw [gW] at h
  obtain ⟨u', ps', q, e1, e2, e3, e4⟩ := hG r hd ho'.2 b (m + n) C u ps cs' t' (Int.add_nonneg h0 ho'.1.1) (ya0 h1 ho'.1.2) h hu (lO hp (Nat.le_add_right _ 2))
  delta xC
  exact ⟨u', ps' , vJ rfl (vH (i := 0) (x := (r, b, m + n)) rfl (by simp [aV, bE, aP, bM, bV, aU, aX, aA, aE, fT, cF, aI, D.imm, D.imms, aB, aD, aG, kN]) rfl (.inr ⟨rfl, rfl, rfl⟩) q), e1, e2, e3, ht ▸ sO e4 (Nat.le_add_right _ 2)⟩
 | either rs =>
  have ho' : (2 <= rs.length /\ rs.length <= 4) /\ kJ rs := ho
  rw [gW.eq_def] at h
  simp only at h
  cases hC : C.drop u with
  | nil => rw [hC] at h; cases h
  | cons c cs =>
   obtain ⟨g1, g2, g3⟩ := qQ hC
   rw [hC] at h
   simp only at h
   by_cases c0 : 0 <= c
   ·rw [if_pos c0] at h
    cases hr : rs[c.toNat]? with
    | none => rw [xX hr] at h; cases h
    | some r =>
     rw [qO hr, <- g2] at h
     have hdr := oP hr
     have hor := sP ho'.2 hr
     have htr := rA (List.mem_of_getElem? hr)
     have ht : (dH (.either rs)).length = (oE rs).length + 2 := by simp [aV, bE, aP, bM, bV, aU, aX, aA, aE, fT, cF, aI, D.imm, D.imms, aB, aD, aG, dH]
     rw [fK] at hd h1
     rw [ht] at hp
     obtain ⟨u', ps', q, e1, e2, e3, e4⟩ := hG r (Nat.lt_of_le_of_lt hdr hd) hor b m C (u + 1) ps cs' t' h0 (nY (yA h1) hdr) h g3 (lO hp (Nat.le_trans htr (Nat.le_add_right _ 2)))
     delta xC
     refine ⟨u', ps' , vJ rfl (vH (i := c.toNat) (x := (r, b, m)) rfl (Nat.le_trans ho'.1.2 (by decide)) (by show (rs.map _)[c.toNat]? = _; rw [List.getElem?_map, hr]; rfl) (.inl ⟨rfl, by rw [Int.toNat_of_nonneg c0]; exact g1, rfl⟩) q), e1, e2, e3, ht ▸ sO e4 (Nat.le_trans htr (Nat.le_add_right _ 2))⟩
   ·rw [if_neg c0] at h; cases h
theorem zj1 {GR : tz7} {k : Nat} (hG : ∀ r, cT r < k -> okR r -> ze4 GR r) {b : Bool} {m : Int} {C : List Int} {R : Option D} (h0 : 0 <= m) : ∀ (r : List Pc) (u : Nat) (ps : List Str) (cs' : List Int) (t' : Str) (x : Option D), cT r <= k -> okR r -> m + 12 * cT r <= 200 ->
  eP b m r (C.drop u) (cat ps) = some (cs', t') -> u <= C.length -> pB ps.length (cat ps).length (bO r).length ->
  ∃ u' ps' y, fN 3 (mF (lT GR) gF) (aQ r) [some (stD C u ps), R, some (aN b m), x] = some (.nx, [some (stD C u' ps'), R, some (aN b m), y]) /\ C.drop u' = cs' /\ cat ps' = t' /\ u' <= C.length /\ kP ps.length ps'.length (cat ps).length (cat ps').length (bO r).length
 | [], u, ps, cs', t', x, _, _, _, h, hu, _ => by
  rw [eP] at h; cases h
  exact ⟨u, ps, x, rfl, rfl, rfl, hu, ⟨Nat.le_refl _, Nat.le_refl _⟩⟩
 | p :: r, u, ps, cs', t', x, hd, ho, h1, h, hu, hp => by
  rw [okR] at ho
  rw [cT] at hd h1
  have ht : (bO (p :: r)).length = (dH p).length + (bO r).length := by rw [bO, List.length_append]
  rw [ht] at hp |-
  rw [eP] at h
  cases e : gW b m p (C.drop u) (cat ps) with
  | none => rw [e] at h; cases h
  | some s =>
   obtain ⟨c1, t1⟩ := s
   rw [e] at h
   obtain ⟨u1, ps1, q1, a1, a2, a3, a4⟩ := zc4 (R := R) hG (Nat.le_trans (Nat.le_max_left _ _) hd) ho.1 h0 (nY h1 (Nat.le_max_left _ _)) e hu (lO hp (Nat.le_add_right _ _))
   have h' : eP b m r (C.drop u1) (cat ps1) = some (cs', t') := by rw [a1, a2]; exact h
   obtain ⟨u2, ps2, y, q2, b1, b2, b3, b4⟩ := zj1 hG h0 r u1 ps1 cs' t' (some (pcD p)) (Nat.le_trans (Nat.le_max_right _ _) hd) ho.2 (nY h1 (Nat.le_max_right _ _)) h' a3 (zc3 hp a4)
   refine ⟨u2, ps2, y, ?_, b1, b2, b3, zm0 a4 b4⟩
   show fN 3 _ (pcD p :: aQ r) _ = _
   rw [fN]
   show ((mF (lT GR) gF [some (stD C u ps), R, some (aN b m), some (pcD p)]).bind _) = _
   rw [q1]; exact q2
theorem vK : ∀ (n : Nat) (r : List Pc), cT r < n -> okR r -> ze4 (kO n) r
 | 0, _, h, _ => absurd h (Nat.not_lt_zero _)
 | n + 1, r, hd, ho => fun b m C u ps cs' t' h0 h1 h hu hp => by
  obtain ⟨u', ps', y, q, e1, e2, e3, e4⟩ := zj1 (GR := kO n) (k := n) (R := some (.tup (aQ r))) (fun s hs hk => vK n s hs hk) h0 r u ps cs' t' none (Nat.le_of_lt_succ hd) ho h1 h hu hp
  refine ⟨u', ps', ?_, e1, e2, e3, e4⟩
  show gE 3 1 _ (jM lZ (lT (kO n)) gF) _ = _
  unfold gE
  refine (if_pos rfl).trans ?_
  have z : jM lZ (lT (kO n)) gF ([stD C u ps, .tup (aQ r), aN b m].map some ++ List.replicate 1 none) = some (.nx, [some (stD C u' ps'), some (.tup (aQ r)), some (aN b m), y]) := q
  rw [z]; rfl
noncomputable abbrev yX : tz6 := gP 1 0 kA
theorem zj2 : ∀ ps : List Str, (Str.join "" ps) = cat ps
 | [] => by decide +kernel
 | [x] => by show x = x ++ (⟨#[]⟩ : Str); rw [zY]
 | x :: y :: r => by
  have ih := zj2 (y :: r)
  show (x ++ ("" : Str)) ++ Str.join "" (y :: r) = x ++ cat (y :: r)
  rw [ih, show ("" : Str) = ⟨#[]⟩ from by decide +kernel, zY]
theorem zo3 : ∀ ps : List Str, (ps.map (·.length)).sum = (cat ps).length
 | [] => rfl
 | x :: ps => by rw [List.map_cons, List.sum_cons, zo3 ps]; show _ = (x ++ cat ps).length; rw [eD]
theorem rN : ∀ ps : List Str, D.strs (kM ps) = some ps
 | [] => rfl
 | x :: ps => by show D.strs (.str x :: kM ps) = _; rw [D.strs, rN ps]; rfl
theorem yf0 {C : List Int} {u : Nat} {ps : List Str} (hu : C.length <= u) (hp : ps.length <= 1000) (hc : (cat ps).length <= 1000000) : yX [stD C u ps] = some (.str (cat ps)) := by
 have hl : (bW C).length = C.length := List.length_map _
 have g : ¬ ((u : Int) < (C.length : Int)) := by omega
 have e : vN (.str "") [.lst true (kM ps)] = some (.str (cat ps)) := by
  rw [vN, rN, Option.bind_some, if_pos]
  ·rw [show Txt.join ("" : Str) ps = Str.join "" ps from StrLaws.glued_eq_join _ _, zj2]
  ·rw [zo3]
   exact ⟨by decide +kernel, by omega⟩
 unfold stD
 simp [aV, bE, aP, bM, bV, aU, aX, aA, aE, fT, cF, aI, D.imm, D.imms, aB, aD, aG, gP, kA, aK, fIf, fB, f2, cL, iA, bI, bF, dLt, bP, hl, g, dB, aY, bJ, fMt, fC, e, sU]
noncomputable abbrev qE : tz7 := gE 2 0 (aZ [true, false]) oG
theorem ya1 (C : List Int) : qE [.obj true "Setter" [] [], .tup (bW C)] = some (.non, [stD C 0 [], .tup (bW C)]) := by
 have hi := kU C
 have e : stD C 0 [] = .obj true "Setter" nsS [.tup (bW C), .int 0, .int 0, .lst true []] := rfl
 rw [e]
 simp [aV, bE, aP, bM, bV, aU, aX, aA, aE, fT, cF, aI, D.imm, D.imms, aB, aD, aG, gE, oG, aK, dE, eJ, bI, bF, hi, fC, bL, fA, aZ]
noncomputable abbrev rX (n : Nat) : tz6 := gP 2 1 (rG qE (kO n) oU yX)
theorem ya2 {n : Nat} {r : List Pc} {C : List Int} {t : Str} (hd : cT r < n) (h8 : cT r <= 16) (ho : okR r) (hl : (bO r).length <= 800) (h : eP true 0 r C ⟨#[]⟩ = some ([], t)) : rX n [.tup (aQ r), .tup (bW C)] = some (.str t) := by
 obtain ⟨u', ps', q, e1, e2, e3, e4, e5⟩ := vK n r hd ho true 0 C 0 [] [] t (Int.le_refl _) (by omega) h (Nat.zero_le _) ⟨by show 0 + _ <= _; omega, by show 0 + _ <= _; omega⟩
 have e5' : (cat ps').length <= 0 + 201 * (bO r).length := e5
 have e4' : ps'.length <= 0 + (bO r).length := e4
 have hu : C.length <= u' := by
  have := congrArg List.length e1
  rw [List.length_drop] at this
  simp [aV, bE, aP, bM, bV, aU, aX, aA, aE, fT, cF, aI, D.imm, D.imms, aB, aD, aG] at this; omega
 have w := yf0 (C := C) (ps := ps') hu (by omega) (by omega)
 rw [e2] at w
 have i := ya1 C
 have f := zi8
 have hm := vI (m := "set_row") (by simp [aV, bE, aP, bM, bV, aU, aX, aA, aE, fT, cF, aI, D.imm, D.imms, aB, aD, aG, bI, bF]) q
 have p1 := dZ r
 have p2 := kU C
 have p3 := jB true 0
 have w' : eS "Setter" "whole_text" (aA 2) [some (.tup (aQ r)), some (.tup (bW C)), some (stD C u' ps')] = some (stD C u' ps') := by
  unfold stD
  simp [aV, bE, aP, bM, bV, aU, aX, aA, aE, fT, cF, aI, D.imm, D.imms, aB, aD, aG, eS, bI, bF]
 show gP 2 1 (rG qE (kO n) oU yX) _ = _
 generalize qE = G1 at i |-
 generalize kO n = G2 at hm |-
 generalize oU = G3 at f |-
 generalize yX = G4 at w |-
 generalize stD C u' ps' = S1 at *
 generalize stD C 0 [] = S0 at *
 generalize aN true 0 = pl at *
 have s1 : aR 2 (aE (dY "Setter" (aU [.im (aA 1)]) G1)) [some (.tup (aQ r)), some (.tup (bW C)), none] = some (.nx, [some (.tup (aQ r)), some (.tup (bW C)), some S0]) := by
  refine cA ?_
  simp [aV, bE, aP, bM, bV, aU, aX, aA, aE, fT, cF, aI, D.imm, D.imms, aB, aD, aG, dY, p2, i]
 have s2 : aV (bE 2 aP (aU [.im (aA 0), .im (aG G3 aD)]) (eO "Setter" "set_row" G2)) [some (.tup (aQ r)), some (.tup (bW C)), some S0] = some (.nx, [some (.tup (aQ r)), some (.tup (bW C)), some S1]) := by
  simp [aV, bE, aP, bM, bV, aU, aX, aA, aE, fT, cF, aI, D.imm, D.imms, aB, aD, aG, p1, p3, f, hm]
 exact jA rfl ((aF s1).trans ((aF s2).trans (eH (bU (aJ w' rfl) w))))
end My
namespace My
open PySem PySem.Spec PyProof.Rows L2 L3
noncomputable def sD (t : Str) (cs : List Int) (n : Nat) : D := .lst true [.str t, .lst true (bW cs), .int n]
theorem yu1 : ixN 3 0 = some 0 := by decide
noncomputable abbrev jE : tz7 := gE 2 0 (aZ [true, false]) uR
theorem yl4 {t : Str} {cs : List Int} {n : Nat} {m : Int} (h0 : 0 <= m) (h1 : m <= 100) (ht : t.length <= 1000000) : jE [sD t cs n, .int m] = some (.non, [sD (t ++ nlw m) cs n, .int m]) := by
 have q := zd9 m (by omega) (by omega)
 have hs : sizeLine = 16777216 := sizeLine_eq
 have e1 : bG (.str t) (.str "\n") = some (.str (t ++ (⟨#[10]⟩ : Str))) := by
  rw [zd7, bG, if_pos]
  show t.length + 1 <= _; omega
 have e2 : bG (.str (t ++ (⟨#[10]⟩ : Str))) (.str (Txt.mul " " m)) = some (.str (t ++ nlw m)) := by
  rw [bG, if_pos, zo1]; rfl
  rw [eD, mR]; show t.length + 1 + _ <= _; omega
 have i0 := yu1
 simp only [gE, uR, sD]
 simp only [List.length_cons, List.length_nil, if_pos, List.map_cons, List.map_nil, List.cons_append, List.nil_append, List.replicate_zero, dG, f2, aA, fC, dIx, cV, Option.bind_some, List.getElem?_cons_zero, List.getElem?_cons_succ, Option.join_some, e1, q, e2]
 simp [gP, gE, aK, aY, aR, aE, fIf, aI, fB, f2, aA, fC, aX, bJ, aV, bE, aP, bM, bV, aB, aD, bL, fKs, aG, dEq, eqB, dB, dIx, bP, bD, D.imm, D.imms, bG, fI, fT, cF, bF, cV, cK, fH, dF, cX, cE, aU, fA, aZ, fMt, sU, dG, fJ, xW, zd6, dC, dU, fIO, dX, fE2, fTE, jL, dGt, nH, eZ, i0]
noncomputable abbrev jJ : tz6 := gP 1 0 rH
theorem zc5 {t : Str} {cs : List Int} {n : Nat} (ht : t.length <= 1000000) : jJ [sD t cs n] = some (.int (col t)) := by
 have hs : sizeLine = 16777216 := sizeLine_eq
 have hz : t.length <= sizeLine := by omega
 have e := zz5 t
 rw [<- zd7] at e
 simp [gP, gE, aK, aY, aR, aE, fIf, aI, fB, f2, aA, fC, aX, bJ, aV, bE, aP, bM, bV, aB, aD, bL, fKs, aG, dEq, eqB, dB, dIx, bP, bD, D.imm, D.imms, bG, fI, fT, cF, bF, cV, cK, fH, dF, cX, cE, aU, fA, aZ, fMt, sU, dG, fJ, xW, zd6, dC, dU, fIO, dX, fE2, fTE, jL, dGt, nH, eZ, rH, sD, hz, uO, e]
theorem yf1 (n : Nat) : ∃ s : Int, atI [D.int 1, .int 12, .int 144, .int 1728, .int 20736, .int 248832, .int 2985984, .int 35831808] ((n : Int) % 8) = some (.int s) /\ 0 < s /\ s < 1073741824 := by
 have h0 := Int.emod_nonneg (n : Int) (show (8 : Int) ≠ 0 by decide)
 have h1 := Int.emod_lt_of_pos (n : Int) (show (0 : Int) < 8 by decide)
 obtain ⟨d, hd, e⟩ := nU [D.int 1, .int 12, .int 144, .int 1728, .int 20736, .int 248832, .int 2985984, .int 35831808] ((n : Int) % 8) h0 (by simpa using h1)
 simp only [List.mem_cons, List.not_mem_nil, or_false] at hd
 rcases hd with rfl | rfl | rfl | rfl | rfl | rfl | rfl | rfl <;> exact ⟨_, e, by decide, by decide⟩
noncomputable abbrev kB (GM GC : tz6) : tz7 := gE 4 2 (aZ [false, true, false, false]) (qW GM GC)
section
variable {GM GC : tz6} {S : D}
theorem yl5 {t : Str} {cs : List Int} {n many : Nat} {salt : Int} (hM : ∀ j s : Int, 0 <= j -> j < 1000 -> 0 <= s -> s < 1000 -> ∃ a, GM [S, .int j, .int s] = some (.int a) /\ 0 <= a) (hC : ∀ j : Int, 0 <= j -> j < 1000 -> ∃ a, GC [S, .int j] = some (.int a)) (hn : n <= 900) (h0 : 0 <= salt) (h1 : salt < 1000) (hm : 0 < many) (hl : cs.length <= 900) :
  ∃ d : Int, kB GM GC [S, sD t cs n, .int salt, .int many] = some (.int d, [S, sD t (cs ++ [d]) (n + 1), .int salt, .int many]) /\ 0 <= d /\ d < many := by
 obtain ⟨a, qa, ha⟩ := hM ((n : Int) + 40) salt (by omega) (by omega) h0 h1
 obtain ⟨b, qb⟩ := hC (40 + (n : Int) / 8) (by omega) (by omega)
 obtain ⟨s, qs, s0, s1⟩ := yf1 n
 have hm' : (0 : Int) < (many : Int) := by omega
 have hz : (bW cs).length < sizeLine := by rw [qP]; exact sz1 (by omega)
 have r := fun x : Int => And.intro (Int.emod_nonneg x (show (many : Int) ≠ 0 by omega)) (Int.emod_lt_of_pos x hm')
 have i1 : ∀ d : Int, bW [d] = [.int d] := fun _ => rfl
 have v2 : ∀ x4 x5, f2 dIx (aA 1) (fC (.int 2)) [some S, some (sD t cs n), some (.int salt), some (.int many), x4, x5] = some (.int n) := fun _ _ => aT rfl rfl (fH _ _ _ _)
 have s1' : aR 4 (aE (aG GM (aB (aA 0) (aB (f2 bG (f2 dIx (aA 1) (fC (.int 2))) (fC (.int 40))) (aB (aA 2) aD))))) [some S, some (sD t cs n), some (.int salt), some (.int many), none, none] = some (.nx, [some S, some (sD t cs n), some (.int salt), some (.int many), some (.int a), none]) := cA (bU (aJ rfl (aJ (aT (v2 _ _) rfl rfl) (aJ rfl rfl))) qa)
 have fin : ∀ (x : Int) (x5 : Option D), ∃ q, aK (dG 1 aP (fC (.int 2)) (f2 bG (f2 dIx (aA 1) (fC (.int 2))) (fC (.int 1)))) (aK (aV (bE 1 (dF 1 aP (fC (.int 1))) (aB (f2 eB (aA 4) (aA 3)) aD) bD)) (bJ (aE (f2 eB (aA 4) (aA 3))))) [some S, some (sD t cs n), some (.int salt), some (.int many), some (.int x), x5] = some (.ret (.int (x % many)), [some S, some (sD t (cs ++ [x % many]) (n + 1)), some (.int salt), some (.int many), some (.int x), x5]) /\ q = x5 := fun x x5 => by
  have md : ∀ s, f2 eB (aA 4) (aA 3) [some S, s, some (.int salt), some (.int many), some (.int x), x5] = some (.int (x % many)) := fun s => aT rfl rfl ((dC _ _).trans (if_pos hm'))
  have a1 : dG 1 aP (fC (.int 2)) (f2 bG (f2 dIx (aA 1) (fC (.int 2))) (fC (.int 1))) [some S, some (sD t cs n), some (.int salt), some (.int many), some (.int x), x5] = some (.nx, [some S, some (sD t cs (n + 1)), some (.int salt), some (.int many), some (.int x), x5]) := by
   unfold dG
   rw [aT (v2 _ _) rfl rfl]
   rfl
  have a2 : aV (bE 1 (dF 1 aP (fC (.int 1))) (aB (f2 eB (aA 4) (aA 3)) aD) bD) [some S, some (sD t cs (n + 1)), some (.int salt), some (.int many), some (.int x), x5] = some (.nx, [some S, some (sD t (cs ++ [x % many]) (n + 1)), some (.int salt), some (.int many), some (.int x), x5]) := by
   refine nV (d := .non) ?_
   unfold bE
   rw [aJ (md _) rfl]
   show ((bM (bD [.int (x % many)]) (sD t cs (n + 1)) [.ix 1]).bind _) = _
   have e : bM (bD [.int (x % many)]) (sD t cs (n + 1)) [.ix 1] = some (.non, sD t (cs ++ [x % many]) (n + 1)) := by
    show ((bD [.int (x % many)] (.lst true (bW cs))).bind _) = _
    rw [show bD [.int (x % many)] (.lst true (bW cs)) = some (.non, .lst true (bW cs ++ [.int (x % many)])) from if_pos hz]
    unfold sD
    rw [uL, i1]; rfl
   rw [e]; rfl
  exact ⟨_, (aF a1).trans ((aF a2).trans (eH (md _))), rfl⟩
 have out : ∀ (d : Int) (p4 p5 : Option D), qW GM GC [some S, some (sD t cs n), some (.int salt), some (.int many), none, none] = some (.ret (.int d), [some S, some (sD t (cs ++ [d]) (n + 1)), some (.int salt), some (.int many), p4, p5]) -> kB GM GC [S, sD t cs n, .int salt, .int many] = some (.int d, [S, sD t (cs ++ [d]) (n + 1), .int salt, .int many]) := fun d p4 p5 h => by
  unfold kB gE
  refine (if_pos rfl).trans ?_
  show (qW GM GC [some S, some (sD t cs n), some (.int salt), some (.int many), none, none]).bind _ = _
  rw [h]; rfl
 have t1 : fB (f2 dEq (aA 2) (fC (.int 1))) [some S, some (sD t cs n), some (.int salt), some (.int many), some (.int a), none] = some (decide (salt = 1)) := fL (aT rfl rfl rfl)
 by_cases c : salt = 1
 ·refine ⟨(b / s) % many, out _ (some (.int (b / s))) (some (.int s)) ?_, (r _).1, (r _).2⟩
  rw [decide_eq_true c] at t1
  have s2 : aR 5 (aE (f2 dIx (bL (fKs [.int 1, .int 12, .int 144, .int 1728, .int 20736, .int 248832, .int 2985984, .int 35831808])) (f2 eB (f2 dIx (aA 1) (fC (.int 2))) (fC (.int 8))))) [some S, some (sD t cs n), some (.int salt), some (.int many), some (.int a), none] = some (.nx, [some S, some (sD t cs n), some (.int salt), some (.int many), some (.int a), some (.int s)]) := cA (aT (eY rfl (Nat.le_of_ble_eq_true rfl)) (aT (v2 _ _) rfl ((dC _ _).trans (if_pos (by decide)))) qs)
  have s3 : aR 4 (aE (f2 gJ (aG GC (aB (aA 0) (aB (f2 bG (fC (.int 40)) (f2 gJ (f2 dIx (aA 1) (fC (.int 2))) (fC (.int 8)))) aD))) (aA 5))) [some S, some (sD t cs n), some (.int salt), some (.int many), some (.int a), some (.int s)] = some (.nx, [some S, some (sD t cs n), some (.int salt), some (.int many), some (.int (b / s)), some (.int s)]) := cA (aT (bU (aJ rfl (aJ (aT rfl (aT (v2 _ _) rfl ((dU _ _).trans (if_pos (by decide)))) rfl) rfl)) qb) rfl ((dU _ _).trans (if_pos ⟨s0, s1⟩)))
  obtain ⟨_, f, _⟩ := fin (b / s) (some (.int s))
  exact (aF s1').trans ((aF ((dI t1).trans ((aF s2).trans s3))).trans f)
 ·refine ⟨a % many, out _ (some (.int a)) none ?_, (r _).1, (r _).2⟩
  rw [decide_eq_false c] at t1
  obtain ⟨_, f, _⟩ := fin a none
  exact (aF s1').trans ((aF (bN t1)).trans f)
end
noncomputable abbrev kIf (w : String) (F : tz1) : tz1 := fIf (aI (kdT 6 w)) F aY
noncomputable abbrev xD (w : String) (c : tz4) (F : tz1) : tz1 := fIf (aI (cE (kdT 6 w) c)) F aY
noncomputable abbrev wrB : tz1 := dG 4 aP (fC (.int 0)) (f2 bG (f2 dIx (aA 4) (fC (.int 0))) (f2 dIx (aA 6) (fC (.int 1))))
noncomputable abbrev lnB (GL : tz7) (f : tz2) : tz1 := aV (fIO [.io 4, .im f] GL)
noncomputable abbrev noB : tz1 := bJ (aE (fC (.bl false)))
noncomputable abbrev vU (GC : tz6) : tz4 := fB (f2 dGt (aG GC (aB (aA 4) aD)) (f2 dIx (aA 6) (fC (.int 1))))
noncomputable abbrev blB (GC : tz6) : tz1 := dG 4 aP (fC (.int 0)) (f2 bG (f2 dIx (aA 4) (fC (.int 0))) (f2 iN (fC (.str " ")) (f2 fI (f2 dIx (aA 6) (fC (.int 1))) (aG GC (aB (aA 4) aD)))))
noncomputable abbrev zu1 (f1 f2 f3 : tz2) (GS : tz7) : tz1 := fIf (jL (fTE (fIO [.im (aA 0), .im f1, .im f2, .im f3, .io 4, .im (aA 5)] GS))) noB aY
noncomputable abbrev grB (GN GS : tz7) : tz1 := aK (aR 7 (aE (aX (aA 2))))
 (aK (fIf (aI (cE (cX (fT (aA 2))) (fB (f2 dGt (aA 5) (fC (.int 0))))))
  (aR 7 (fE2 dEq (fIO [.im (aA 0), .io 4, .im (aA 5), .im (fC (.int 2))] GN) (fC (.int 0))))
  (fIf (aI (cX (fT (aA 2)))) (aV (bE 4 (dF 4 aP (fC (.int 1))) (aB (fC (.int 1)) aD) bD)) aY))
 (zu1 (f2 dIx (aA 6) (fC (.int 1))) (aA 7) (aA 3) GS))
noncomputable abbrev haB (GS : tz7) : tz1 := aK (aR 8 (aE (f2 bG (aA 3) (f2 dIx (aA 6) (fC (.int 1)))))) (zu1 (f2 dIx (aA 6) (fC (.int 2))) (aA 2) (aA 8) GS)
noncomputable abbrev eiB (GN GS : tz7) : tz1 := aK (aR 9 (fIO [.im (aA 0), .io 4, .im (f2 bG (aA 5) (f2 iN (fC (.int 9)) (aG nH (aB (f2 dEq (aA 5) (fC (.int 0))) aD)))), .im (aG bP (aB (f2 dIx (aA 6) (fC (.int 1))) aD))] GN))
 (zu1 (f2 dIx (f2 dIx (aA 6) (fC (.int 1))) (aA 9)) (aA 2) (aA 3) GS)
noncomputable def mG (GL : tz7) (GC : tz6) (GN GS : tz7) : tz1 :=
 aK (kIf "word" wrB) (aK (xD "gap" (fT (aA 2)) wrB) (aK (xD "gap" (cX (fT (aA 2))) (lnB GL (aA 3))) (aK (kIf "end" (lnB GL (aA 3)))
  (aK (kIf "stop" (aK (fIf (aI (cE (fT (aA 2)) (vU GC))) noB aY) (aK (fIf (aI (vU GC)) (lnB GL (fC (.int 0))) aY) (blB GC))))
  (aK (xD "end" (fT (aA 2)) noB) (aK (kIf "group" (grB GN GS)) (aK (kIf "hang" (haB GS)) (kIf "either" (eiB GN GS)))))))))
section
variable {w k : String} {F : tz1} {c : tz4} {p : PSt} {ds : List D}
theorem eA (hp : p[6]? = some (some (.tup (.str k :: ds)))) (h : decide (k = w) = false) : kIf w F p = some (.nx, p) := bN (uK hp h)
theorem lP (hp : p[6]? = some (some (.tup (.str k :: ds)))) (h : decide (k = w) = true) : kIf w F p = F p := dI (uK hp h)
theorem iJ (hp : p[6]? = some (some (.tup (.str k :: ds)))) (h : decide (k = w) = false) : xD w c F p = some (.nx, p) := bN (kT (uK hp h))
theorem wY (hp : p[6]? = some (some (.tup (.str k :: ds)))) (h : decide (k = w) = true) (hc : c p = some true) : xD w c F p = F p := dI (jP (uK hp h) hc)
theorem wZ (hp : p[6]? = some (some (.tup (.str k :: ds)))) (h : decide (k = w) = true) (hc : c p = some false) : xD w c F p = some (.nx, p) := bN (jP (uK hp h) hc)
theorem ya3 {fe : tz2} {y a : D} {l : List D} (h : fe p = some y) (hp : p[4]? = some (some (.lst true (a :: l)))) : dG 4 aP (fC (.int 0)) fe p = some (.nx, p.set 4 (some (.lst true (y :: l)))) := by
 have e : ixN (l.length + 1) 0 = some 0 := oX _
 simp [gP, gE, aK, aY, aR, aE, fIf, aI, fB, f2, aA, fC, aX, bJ, aV, bE, aP, bM, bV, aB, aD, bL, fKs, aG, dEq, eqB, dB, dIx, bP, bD, D.imm, D.imms, bG, fI, fT, cF, bF, cV, cK, fH, dF, cX, cE, aU, fA, aZ, fMt, sU, dG, fJ, xW, zd6, dC, dU, fIO, dX, fE2, fTE, jL, dGt, nH, eZ, dG, h, hp, aP, fC, bM, fJ, e]
end
section
variable {GL GN GS : tz7} {GC : tz6} {k : String} {ds : List D} {p : PSt}
theorem yB (hp : p[6]? = some (some (.tup (.str k :: ds)))) (h1 : decide (k = "group") = false) (h2 : decide (k = "hang") = false) (h3 : decide (k = "either") = false) : aK (kIf "group" (grB GN GS)) (aK (kIf "hang" (haB GS)) (kIf "either" (eiB GN GS))) p = some (.nx, p) :=
 (aF (eA hp h1)).trans ((aF (eA hp h2)).trans (eA hp h3))
theorem yC (hp : p[6]? = some (some (.tup (.str k :: ds)))) (h1 : decide (k = "word") = false) (h2 : decide (k = "gap") = false) (h3 : decide (k = "end") = false) (h4 : decide (k = "stop") = false) : mG GL GC GN GS p = aK (kIf "group" (grB GN GS)) (aK (kIf "hang" (haB GS)) (kIf "either" (eiB GN GS))) p :=
 (aF (eA hp h1)).trans ((aF (iJ hp h2)).trans ((aF (iJ hp h2)).trans ((aF (eA hp h3)).trans ((aF (eA hp h4)).trans (aF (iJ hp h3))))))
end
section
variable {GN GS : tz7} {S : D} {R : Option D}
noncomputable def uT (GN GS : tz7) (S : D) (R : Option D) (t : Str) (cs : List Int) (n : Nat) (m salt : Int) (flat : Bool) (l : Leaf) (x7 x8 x9 : Option D) : Prop := ∃ ok t', mG jE jJ GN GS [some S, R, some (.bl flat), some (.int m), some (sD t cs n), some (.int salt), some (cZ l), x7, x8, x9] = some (if ok = true then .nx else .ret (.bl false), [some S, R, some (.bl flat), some (.int m), some (sD t' cs n), some (.int salt), some (cZ l), x7, x8, x9]) /\
   (ok = true -> ∃ w, wr (!flat) m (col t) l = some w /\ t' = t ++ w) /\ (ok = false -> wr (!flat) m (col t) l = none /\ flat = true) /\ t'.length <= t.length + 101
theorem yf2 {t : Str} {cs : List Int} {n : Nat} {m salt : Int} {flat : Bool} {l : Leaf} (x7 x8 x9 : Option D) (hl : jC l) (h0 : 0 <= m) (h1 : m <= 100) (ht : t.length <= 900000) : uT GN GS S R t cs n m salt flat l x7 x8 x9 := by
 have hs : sizeLine = 16777216 := sizeLine_eq
 have hnl : ∀ c : Int, 0 <= c -> c <= 100 -> (t ++ nlw c).length <= t.length + 101 := fun c c0 c1 => by
  unfold nlw
  rw [eD, eD, mR]; show _ + (1 + _) <= _; omega
 have add : ∀ x : Str, x.length <= 1000 -> bG (.str t) (.str x) = some (.str (t ++ x)) := fun x hx => by rw [bG, if_pos]; omega
 have line : ∀ (l : Leaf) (f : tz2) (c : Int), 0 <= c -> c <= 100 -> f [some S, R, some (.bl flat), some (.int m), some (sD t cs n), some (.int salt), some (cZ l), x7, x8, x9] = some (.int c) -> lnB jE f [some S, R, some (.bl flat), some (.int m), some (sD t cs n), some (.int salt), some (cZ l), x7, x8, x9] = some (.nx, [some S, R, some (.bl flat), some (.int m), some (sD (t ++ nlw c) cs n), some (.int salt), some (cZ l), x7, x8, x9]) := fun l f c c0 c1 hf =>
  nV (rR (pL rfl (dD hf rfl fS)) (yl4 c0 c1 (by omega)) rfl)
 have wrote : ∀ (l : Leaf) (x : Str), x.length <= 1000 -> f2 dIx (aA 6) (fC (.int 1)) [some S, R, some (.bl flat), some (.int m), some (sD t cs n), some (.int salt), some (cZ l), x7, x8, x9] = some (.str x) -> wrB [some S, R, some (.bl flat), some (.int m), some (sD t cs n), some (.int salt), some (cZ l), x7, x8, x9] = some (.nx, [some S, R, some (.bl flat), some (.int m), some (sD (t ++ x) cs n), some (.int salt), some (cZ l), x7, x8, x9]) := fun l x hx h =>
  ya3 (aT (aT rfl rfl (cV _ _)) h (add x hx)) rfl
 cases l with
 | word x =>
  have hx : x.length <= 12 := hl.2.1
  delta uT
  refine ⟨true, t ++ x, ?_, fun _ => ⟨x, rfl, rfl⟩, (nomatch ·), by rw [eD]; omega⟩
  exact (aF ((lP rfl (by decide)).trans (wrote (.word x) x (by omega) (aT rfl rfl (cK _ _ _))))).trans ((aF (iJ rfl (by decide))).trans ((aF (iJ rfl (by decide))).trans ((aF (eA rfl (by decide))).trans ((aF (eA rfl (by decide))).trans ((aF (iJ rfl (by decide))).trans (yB rfl (by decide) (by decide) (by decide)))))))
 | gap x =>
  have hx : x.length <= 1 := by
   rcases (hl : x = "" \/ x = " ") with rfl | rfl
   ·show (0 : Nat) <= 1; decide
   ·show (1 : Nat) <= 1; decide
  cases flat with
  | true =>
   delta uT
   refine ⟨true, t ++ x, ?_, fun _ => ⟨x, rfl, rfl⟩, (nomatch ·), by rw [eD]; omega⟩
   exact (aF (eA rfl (by decide))).trans ((aF ((wY rfl (by decide) rfl).trans (wrote (.gap x) x (by omega) (aT rfl rfl (cK _ _ _))))).trans ((aF (wZ rfl (by decide) rfl)).trans ((aF (eA rfl (by decide))).trans ((aF (eA rfl (by decide))).trans ((aF (iJ rfl (by decide))).trans (yB rfl (by decide) (by decide) (by decide)))))))
  | false =>
   delta uT
   refine ⟨true, t ++ nlw m, ?_, fun _ => ⟨_, rfl, rfl⟩, (nomatch ·), hnl m h0 h1⟩
   exact (aF (eA rfl (by decide))).trans ((aF (wZ rfl (by decide) rfl)).trans ((aF ((wY rfl (by decide) rfl).trans (line _ _ m h0 h1 rfl))).trans ((aF (eA rfl (by decide))).trans ((aF (eA rfl (by decide))).trans ((aF (iJ rfl (by decide))).trans (yB rfl (by decide) (by decide) (by decide)))))))
 | fin =>
  have z : ∀ {Z}, aK (xD "end" (fT (aA 2)) noB) (aK (kIf "group" (grB GN GS)) (aK (kIf "hang" (haB GS)) (kIf "either" (eiB GN GS)))) [some S, R, some (.bl flat), some (.int m), some (sD (t ++ nlw m) cs n), some (.int salt), some (cZ .fin), x7, x8, x9] = Z -> mG jE jJ GN GS [some S, R, some (.bl flat), some (.int m), some (sD t cs n), some (.int salt), some (cZ .fin), x7, x8, x9] = Z := fun h =>
   (aF (eA rfl (by decide))).trans ((aF (iJ rfl (by decide))).trans ((aF (iJ rfl (by decide))).trans ((aF ((lP rfl (by decide)).trans (line _ _ m h0 h1 rfl))).trans ((aF (eA rfl (by decide))).trans h))))
  delta uT
  refine ⟨!flat, t ++ nlw m, ?_, fun h => ⟨nlw m, (by cases flat <;> first | rfl | cases h), rfl⟩, fun h => (by cases flat <;> first | exact ⟨rfl, rfl⟩ | cases h), hnl m h0 h1⟩
  cases flat with
  | true => exact z (eN (wY rfl (by decide) rfl))
  | false => exact z ((aF (wZ rfl (by decide) rfl)).trans (yB rfl (by decide) (by decide) (by decide)))
 | stop c =>
  have hc : 0 <= c /\ c <= 40 := hl
  have past : ∀ t' : Str, t'.length <= 1000000 -> vU jJ [some S, R, some (.bl flat), some (.int m), some (sD t' cs n), some (.int salt), some (cZ (.stop c)), x7, x8, x9] = some (decide (c < (col t' : Int))) := fun t' h => fL (aT (bU (aJ rfl rfl) (zc5 h)) (aT rfl rfl (cK _ _ _)) rfl)
  have bl : ∀ t' : Str, t'.length <= 1000000 -> (col t' : Int) <= c -> blB jJ [some S, R, some (.bl flat), some (.int m), some (sD t' cs n), some (.int salt), some (cZ (.stop c)), x7, x8, x9] = some (.nx, [some S, R, some (.bl flat), some (.int m), some (sD (t' ++ Txt.mul " " (c - (col t' : Int))) cs n), some (.int salt), some (cZ (.stop c)), x7, x8, x9]) := fun t' h hk =>
   ya3 (aT (aT rfl rfl (cV _ _)) (aT rfl (aT (aT rfl rfl (cK _ _ _)) (bU (aJ rfl rfl) (zc5 h)) rfl) (zd9 _ (by omega) (by omega))) (by rw [bG, if_pos]; rw [mR]; omega)) rfl
  have z : ∀ {Z F t'}, F = aK (fIf (aI (cE (fT (aA 2)) (vU jJ))) noB aY) (aK (fIf (aI (vU jJ)) (lnB jE (fC (.int 0))) aY) (blB jJ)) -> (F [some S, R, some (.bl flat), some (.int m), some (sD t cs n), some (.int salt), some (cZ (.stop c)), x7, x8, x9] = some (.nx, [some S, R, some (.bl flat), some (.int m), some (sD t' cs n), some (.int salt), some (cZ (.stop c)), x7, x8, x9]) /\ Z = some (.nx, [some S, R, some (.bl flat), some (.int m), some (sD t' cs n), some (.int salt), some (cZ (.stop c)), x7, x8, x9])) \/ (∃ d q, F [some S, R, some (.bl flat), some (.int m), some (sD t cs n), some (.int salt), some (cZ (.stop c)), x7, x8, x9] = some (.ret d, q) /\ Z = some (.ret d, q)) ->
    mG jE jJ GN GS [some S, R, some (.bl flat), some (.int m), some (sD t cs n), some (.int salt), some (cZ (.stop c)), x7, x8, x9] = Z := fun hF h => by
   subst hF
   refine (aF (eA rfl (by decide))).trans ((aF (iJ rfl (by decide))).trans ((aF (iJ rfl (by decide))).trans ((aF (eA rfl (by decide))).trans ?_)))
   rcases h with ⟨h, rfl⟩ | ⟨d, q, h, rfl⟩
   ·exact (aF ((lP rfl (by decide)).trans h)).trans ((aF (iJ rfl (by decide))).trans (yB rfl (by decide) (by decide) (by decide)))
   ·exact eN ((lP rfl (by decide)).trans h)
  have p0 := past t (by omega)
  by_cases hk : (col t : Int) <= c
  ·rw [decide_eq_false (by omega)] at p0
   delta uT
   refine ⟨true, t ++ Txt.mul " " (c - (col t : Int)), ?_, fun _ => ⟨_, if_pos hk, rfl⟩, (nomatch ·), by rw [eD, mR]; omega⟩
   have pa : cE (fT (aA 2)) (vU jJ) [some S, R, some (.bl flat), some (.int m), some (sD t cs n), some (.int salt), some (cZ (.stop c)), x7, x8, x9] = some false := by
    cases flat with
    | true => exact jP rfl p0
    | false => exact kT rfl
   exact z rfl (.inl ⟨(aF (bN pa)).trans ((aF (bN p0)).trans (bl t (by omega) hk)), rfl⟩)
  ·rw [decide_eq_true (by omega)] at p0
   cases flat with
   | true =>
    delta uT
    exact ⟨false, t, z (t' := t) rfl (.inr ⟨_, _, eN (dI (jP rfl p0)), rfl⟩), (nomatch ·), fun _ => ⟨(if_neg hk).trans rfl, rfl⟩, by omega⟩
   | false =>
    have l0 := hnl 0 (by omega) (by omega)
    have c0 : col (t ++ nlw 0) = 0 := by
     unfold nlw
     rw [zi6 (zi5 0), mR]; rfl
    have q := bl (t ++ nlw 0) (by omega) (by rw [c0]; exact hc.1)
    have e : t ++ nlw c = (t ++ nlw 0) ++ Txt.mul " " (c - ((0 : Nat) : Int)) := by
     refine nW ?_
     unfold nlw
     simp only [eC, wV]
     simp [gP, gE, aK, aY, aR, aE, fIf, aI, fB, f2, aA, fC, aX, bJ, aV, bE, aP, bM, bV, aB, aD, bL, fKs, aG, dEq, eqB, dB, dIx, bP, bD, D.imm, D.imms, bG, fI, fT, cF, bF, cV, cK, fH, dF, cX, cE, aU, fA, aZ, fMt, sU, dG, fJ, xW, zd6, dC, dU, fIO, dX, fE2, fTE, jL, dGt, nH, eZ]
    rw [c0, <- e] at q
    delta uT
    exact ⟨true, t ++ nlw c, z rfl (.inl ⟨(aF (bN (kT rfl))).trans ((aF ((dI p0).trans (line _ _ 0 (Int.le_refl _) (by decide) rfl))).trans q), rfl⟩), fun _ => ⟨nlw c, (if_neg hk).trans rfl, rfl⟩, (nomatch ·), hnl c hc.1 (by omega)⟩
end
end My
namespace My
open PySem PySem.Spec PyProof.Rows L2 L3
section
variable {GM GC : tz6} {S : D}
noncomputable def Fit (n c l w : Nat) : Prop := n + w <= 900 /\ c + w <= 900 /\ l + 101 * w <= 900000
noncomputable def oH (n n' l l' : Nat) (ds : List Int) (w : Nat) : Prop := (n' <= n + w /\ l' <= l + 101 * w /\ ds.length <= w) /\ ∀ d ∈ ds, 0 <= d /\ d < 4
theorem yD {n c l w w' : Nat} (h : Fit n c l w) (hw : w' <= w) : Fit n c l w' := by unfold Fit at *; omega
theorem vL {n n' l l' w w' : Nat} {ds : List Int} (h : oH n n' l l' ds w) (hw : w <= w') : oH n n' l l' ds w' := ⟨by have := h.1; omega, h.2⟩
theorem yl6 {n l w : Nat} {cs : List Int} (h : Fit n cs.length l (w + 2)) (d : Int) : Fit n (cs ++ [d]).length l w := by
 rw [List.length_append]
 unfold Fit at *
 show _ /\ _ + 1 + _ <= _ /\ _
 omega
theorem zj3 {n l w : Nat} {cs : List Int} (h : Fit n cs.length l (w + 2)) (d : Int) : Fit (n + 1) (cs ++ [d]).length l w := by
 rw [List.length_append]
 unfold Fit at *
 show _ /\ _ + 1 + _ <= _ /\ _
 omega
theorem yE {n c l w : Nat} (h : Fit n c l w) : n <= 900 /\ c <= 900 := by unfold Fit at h; omega
theorem yf3 {n n' l l' w : Nat} {ds : List Int} (g : oH n n' l l' ds w) (d : Int) (hd : 0 <= d /\ d < 4) : oH n n' l l' (d :: ds) (w + 2) := ⟨by have := g.1; rw [List.length_cons]; omega, List.forall_mem_cons.mpr ⟨hd, g.2⟩⟩
theorem zc6 {n n' l l' w : Nat} {ds : List Int} (g : oH (n + 1) n' l l' ds w) (d : Int) (hd : 0 <= d /\ d < 4) : oH n n' l l' (d :: ds) (w + 2) := ⟨by have := g.1; rw [List.length_cons]; omega, List.forall_mem_cons.mpr ⟨hd, g.2⟩⟩
theorem yf4 {n n1 l l1 a b : Nat} {cs ds : List Int} (h : Fit n cs.length l (a + b)) (g : oH n n1 l l1 ds a) : Fit n1 (cs ++ ds).length l1 b := by
 have := g.1
 rw [List.length_append]
 unfold Fit at *
 omega
theorem zs9 {n n1 n2 l l1 l2 a b : Nat} {ds es : List Int} (g : oH n n1 l l1 ds a) (h : oH n1 n2 l1 l2 es b) : oH n n2 l l2 (ds ++ es) (a + b) :=
 ⟨by have := g.1; have := h.1; rw [List.length_append]; omega, fun d hd => (List.mem_append.mp hd).elim (g.2 d) (h.2 d)⟩
theorem ze0 {m : Int} {x : Nat} (h : m + 12 * ((x + 1 : Nat) : Int) <= 100) : m + 12 * (x : Int) <= 100 := by omega
theorem zj4 {m : Int} {x y : Nat} (h : m + 12 * (y : Int) <= 100) (hx : x <= y) : m + 12 * (x : Int) <= 100 := by omega
noncomputable def uU (S : D) (GS : tz7) (r : List Pc) : Prop := ∀ (flat : Bool) (m : Int) (t : Str) (cs : List Int) (n : Nat) (salt : Int), 0 <= m -> m + 12 * cT r <= 100 -> 0 <= salt -> salt <= 900 -> Fit n cs.length t.length (bO r).length ->
 ∃ ok t' ds n', GS [S, .tup (aQ r), .bl flat, .int m, sD t cs n, .int salt] = some (.bl ok, [S, .tup (aQ r), .bl flat, .int m, sD t' (cs ++ ds) n', .int salt]) /\ (ok = true -> ∀ x, eP (!flat) m r (ds ++ x) t = some (x, t')) /\ (ok = false -> ∀ x, eP (!flat) m r (ds ++ x) t = none) /\ (salt = 0 -> flat = false -> ok = true) /\ oH n n' t.length t'.length ds (bO r).length
noncomputable def xE (S : D) (GN GS : tz7) (p : Pc) (R : Option D) (flat : Bool) (m : Int) (t : Str) (cs : List Int) (n : Nat) (salt : Int) (x7 x8 x9 : Option D) : Prop := ∃ ok t' ds n' y7 y8 y9, mG jE jJ GN GS [some S, R, some (.bl flat), some (.int m), some (sD t cs n), some (.int salt), some (pcD p), x7, x8, x9] = some (if ok = true then .nx else .ret (.bl false), [some S, R, some (.bl flat), some (.int m), some (sD t' (cs ++ ds) n'), some (.int salt), some (pcD p), y7, y8, y9]) /\
  (ok = true -> ∀ x, gW (!flat) m p (ds ++ x) t = some (x, t')) /\ (ok = false -> ∀ x, gW (!flat) m p (ds ++ x) t = none) /\ (salt = 0 -> flat = false -> ok = true) /\ oH n n' t.length t'.length ds (dH p).length
noncomputable def zl0 (S : D) (GN GS : tz7) (p : Pc) : Prop := ∀ (R : Option D) (flat : Bool) (m : Int) (t : Str) (cs : List Int) (n : Nat) (salt : Int) (x7 x8 x9 : Option D), 0 <= m -> m + 12 * fK p <= 100 -> 0 <= salt -> salt <= 900 -> Fit n cs.length t.length (dH p).length -> xE S GN GS p R flat m t cs n salt x7 x8 x9
noncomputable def vV (S : D) (GN : tz7) : Prop := ∀ (t : Str) (cs : List Int) (n many : Nat) (salt : Int), n <= 900 -> 0 <= salt -> salt < 1000 -> 0 < many -> cs.length <= 900 -> ∃ d : Int, GN [S, sD t cs n, .int salt, .int many] = some (.int d, [S, sD t (cs ++ [d]) (n + 1), .int salt, .int many]) /\ 0 <= d /\ d < many
theorem yf5 (cs ds : List Int) (d : Int) : cs ++ [d] ++ ds = cs ++ (d :: ds) := by simp
theorem rS {GS : tz7} {r : List Pc} {b flat ok : Bool} {m m' salt : Int} {s0 s1 d6 : D} {R x7 x8 x9 : Option D} {f1 f2 f3 : tz2} (hS : S.imm = true) (e1 : f1 [some S, R, some (.bl flat), some (.int m), some s0, some (.int salt), some d6, x7, x8, x9] = some (.tup (aQ r))) (e2 : f2 [some S, R, some (.bl flat), some (.int m), some s0, some (.int salt), some d6, x7, x8, x9] = some (.bl b)) (e3 : f3 [some S, R, some (.bl flat), some (.int m), some s0, some (.int salt), some d6, x7, x8, x9] = some (.int m'))
  (q : GS [S, .tup (aQ r), .bl b, .int m', s0, .int salt] = some (.bl ok, [S, .tup (aQ r), .bl b, .int m', s1, .int salt])) :
  zu1 f1 f2 f3 GS [some S, R, some (.bl flat), some (.int m), some s0, some (.int salt), some d6, x7, x8, x9] = some (if ok = true then .nx else .ret (.bl false), [some S, R, some (.bl flat), some (.int m), some s1, some (.int salt), some d6, x7, x8, x9]) := by
 have c := ye4 (yq5 (rR (dD (f := aA 0) rfl hS (dD e1 (dZ r) (dD e2 rfl (dD e3 rfl (pL (j := 4) rfl (dD (f := aA 5) rfl rfl fS)))))) q rfl))
 cases ok with
 | true => exact (mE c).trans rfl
 | false => exact (vF c).trans rfl
theorem yF {F G : tz1} {ok : Bool} {p q : PSt} (h : F p = some (if ok = true then .nx else .ret (.bl false), q)) (hG : G q = some (.nx, q)) : aK F G p = some (if ok = true then .nx else .ret (.bl false), q) := by
 cases ok with
 | true => exact (aF h).trans hG
 | false => exact eN h
theorem bit {d : Int} (h0 : 0 <= d) (h1 : d < ((2 : Nat) : Int)) : d = 0 \/ d = 1 := by omega
theorem ya4 {GN GS : tz7} {r : List Pc} (hS : S.imm = true) (hN : vV S GN) (hr : uU S GS r) : zl0 S GN GS (.group r) := by
 intro R flat m t cs n salt x7 x8 x9 h0 h1 hs0 hs1 hft
 have hd : fK (.group r) = cT r + 1 := by rw [fK]
 have htk : (dH (.group r)).length = (bO r).length + 2 := by simp [dH]
 have pi := dZ r
 rw [hd] at h1
 rw [htk] at hft
 have set_eq : ∀ cs' t0, gW true m (.group r) cs' t0 = (match cs' with | [] => none | c :: cs => if c = 0 then eP false m r cs t0 else if c = 1 then eP true m r cs t0 else none) := fun cs' t0 => by rw [gW.eq_def]; cases cs' <;> simp
 cases flat with
 | true =>
  obtain ⟨ok, t', ds, n', q, e1, e2, e3, e4⟩ := hr true m t cs n salt h0 (ze0 h1) hs0 hs1 (yD hft (Nat.le_add_right _ 2))
  have se : ∀ cs' t0, gW (!true) m (.group r) cs' t0 = eP (!true) m r cs' t0 := fun cs' t0 => by rw [gW.eq_def]; simp
  delta xE
  rw [htk]
  refine ⟨ok, t', ds, n', some (.bl true), x8, x9, ?_, fun h x => by rw [se]; exact e1 h x, fun h x => by rw [se]; exact e2 h x, fun _ h => (by cases h), vL e4 (Nat.le_add_right _ 2)⟩
  refine (yC rfl (by decide) (by decide) (by decide) (by decide)).trans (yF ((lP rfl (by decide)).trans ?_) ((aF (eA rfl (by decide))).trans (eA rfl (by decide))))
  exact (aF (cA (eT rfl rfl))).trans ((aF ((mE (kS (kT rfl))).trans (bN rfl))).trans (rS hS (aT rfl rfl (cK _ _ _)) rfl rfl q))
 | false =>
  by_cases hz : salt = 0
  ·subst hz
   obtain ⟨ok, t', ds, n', q, e1, e2, e3, e4⟩ := hr false m t (cs ++ [1]) n 0 h0 (ze0 h1) hs0 hs1 (yl6 hft 1)
   have hok := e3 rfl rfl
   subst hok
   delta xE
   rw [htk]
   refine ⟨true, t', 1 :: ds, n', some (.bl false), x8, x9, ?_, fun _ x => by rw [show (!false) = true from rfl, set_eq]; simpa using e1 rfl x, (nomatch ·), fun _ _ => rfl, yf3 e4 1 (by decide)⟩
   rw [yf5] at q
   have hl : (bW cs).length < sizeLine := by rw [qP]; exact sz1 (Nat.le_trans (yE hft).2 (by decide))
   have ei : bW (cs ++ [1]) = bW cs ++ [.int 1] := by rw [uL]; rfl
   have ap : aV (bE 4 (dF 4 aP (fC (.int 1))) (aB (fC (.int 1)) aD) bD) [some S, R, some (.bl false), some (.int m), some (sD t cs n), some (.int 0), some (pcD (.group r)), some (.bl false), x8, x9] = some (.nx, [some S, R, some (.bl false), some (.int m), some (sD t (cs ++ [1]) n), some (.int 0), some (pcD (.group r)), some (.bl false), x8, x9]) := by
    unfold sD
    rw [ei]
    simp [aV, bE, dF, aP, fC, bV, xW, aB, aD, bM, bD, hl]
   refine (yC rfl (by decide) (by decide) (by decide) (by decide)).trans (yF (ok := true) ((lP rfl (by decide)).trans ?_) ((aF (eA rfl (by decide))).trans (eA rfl (by decide))))
   exact (aF (cA (eT rfl rfl))).trans ((aF ((mE (kS (jP rfl rfl))).trans ((dI rfl).trans ap))).trans (rS hS (aT rfl rfl (cK _ _ _)) rfl rfl q))
  ·have hp : 0 < salt := by omega
   obtain ⟨d, qd, d0, d1⟩ := hN t cs n 2 salt (yE hft).1 hs0 (Int.lt_of_le_of_lt hs1 (by decide)) (by decide) (yE hft).2
   obtain ⟨ok, t', ds, n', q, e1, e2, e3, e4⟩ := hr (decide (d = 0)) m t (cs ++ [d]) (n + 1) salt h0 (ze0 h1) hs0 hs1 (zj3 hft d)
   have se : ∀ x, gW (!false) m (.group r) (d :: ds ++ x) t = eP (!decide (d = 0)) m r (ds ++ x) t := fun x => by
    rw [show (!false) = true from rfl, set_eq]
    rcases (bit d0 d1) with rfl | rfl <;> simp
   delta xE
   rw [htk]
   refine ⟨ok, t', d :: ds, n', some (.bl (decide (d = 0))), x8, x9, ?_, fun h x => by rw [se]; exact e1 h x, fun h x => by rw [se]; exact e2 h x, fun h => absurd h hz, zc6 e4 d ⟨d0, Int.lt_trans d1 (by decide)⟩⟩
   rw [yf5] at q
   have qd' : GN [S, sD t cs n, .int salt, .int 2] = some (.int d, [S, sD t (cs ++ [d]) (n + 1), .int salt, .int 2]) := qd
   have dr : aR 7 (fE2 dEq (fIO [.im (aA 0), .io 4, .im (aA 5), .im (fC (.int 2))] GN) (fC (.int 0))) [some S, R, some (.bl false), some (.int m), some (sD t cs n), some (.int salt), some (pcD (.group r)), some (.bl false), x8, x9] = some (.nx, [some S, R, some (.bl false), some (.int m), some (sD t (cs ++ [d]) (n + 1)), some (.int salt), some (pcD (.group r)), some (.bl (decide (d = 0))), x8, x9]) := by
    unfold aR fE2
    rw [rR (dD (f := aA 0) rfl hS (pL (j := 4) rfl (dD (f := aA 5) rfl rfl (dD (f := fC (.int 2)) rfl rfl fS)))) qd' rfl]
    rfl
   have gt : cE (cX (fT (aA 2))) (fB (f2 dGt (aA 5) (fC (.int 0)))) [some S, R, some (.bl false), some (.int m), some (sD t cs n), some (.int salt), some (pcD (.group r)), some (.bl false), x8, x9] = some true := jP rfl (fL (aT rfl rfl (show some (D.bl (decide (0 < salt))) = _ by rw [decide_eq_true hp])))
   refine (yC rfl (by decide) (by decide) (by decide) (by decide)).trans (yF ((lP rfl (by decide)).trans ?_) ((aF (eA rfl (by decide))).trans (eA rfl (by decide))))
   exact (aF (cA (eT rfl rfl))).trans ((aF ((dI gt).trans dr)).trans (rS hS (aT rfl rfl (cK _ _ _)) rfl rfl q))
theorem yu2 {m k : Int} {x : Nat} (h : m + 12 * ((x + 1 : Nat) : Int) <= 100) (hk : k <= 12) : m + k + 12 * (x : Int) <= 100 := by omega
theorem yf6 {GN GS : tz7} {k : Int} {r : List Pc} (hS : S.imm = true) (hk : 0 <= k /\ k <= 12) (hr : uU S GS r) : zl0 S GN GS (.hang k r) := by
 intro R flat m t cs n salt x7 x8 x9 h0 h1 hs0 hs1 hft
 have hd : fK (.hang k r) = cT r + 1 := by rw [fK]
 have htk : (dH (.hang k r)).length = (bO r).length + 2 := by simp [dH]
 have pi := dZ r
 rw [hd] at h1
 rw [htk] at hft
 obtain ⟨ok, t', ds, n', q, e1, e2, e3, e4⟩ := hr flat (m + k) t cs n salt (Int.add_nonneg h0 hk.1) (yu2 h1 hk.2) hs0 hs1 (yD hft (Nat.le_add_right _ 2))
 have se : ∀ cs' t0, gW (!flat) m (.hang k r) cs' t0 = eP (!flat) (m + k) r cs' t0 := fun cs' t0 => by rw [gW]
 delta xE
 rw [htk]
 refine ⟨ok, t', ds, n', x7, some (.int (m + k)), x9, ?_, fun h x => by rw [se]; exact e1 h x, fun h x => by rw [se]; exact e2 h x, e3, vL e4 (Nat.le_add_right _ 2)⟩
 refine (yC rfl (by decide) (by decide) (by decide) (by decide)).trans ((aF (eA rfl (by decide))).trans (yF ((lP rfl (by decide)).trans ?_) (eA rfl (by decide))))
 exact (aF (cA (aT rfl (aT rfl rfl (cK _ _ _)) rfl))).trans (rS hS (aT rfl rfl (fH _ _ _ _)) rfl rfl q)
theorem zj5 : ∀ {rs : List (List Pc)} {i : Nat} {r : List Pc}, rs[i]? = some r -> (cI rs)[i]? = some (.tup (aQ r))
 | [], i, _, h => by simp at h
 | q :: rs, 0, _, h => by simp at h; subst h; rfl
 | q :: rs, i + 1, _, h => by show (cI rs)[i]? = _; exact zj5 (by simpa using h)
theorem zt0 {GN GS : tz7} {rs : List (List Pc)} (hS : S.imm = true) (hN : vV S GN) (hl : 0 < rs.length /\ rs.length <= 4) (hr : ∀ r ∈ rs, uU S GS r) : zl0 S GN GS (.either rs) := by
 intro R flat m t cs n salt x7 x8 x9 h0 h1 hs0 hs1 hft
 have hd : fK (.either rs) = kL rs + 1 := by rw [fK]
 have htk : (dH (.either rs)).length = (oE rs).length + 2 := by simp [dH]
 rw [hd] at h1
 rw [htk] at hft
 obtain ⟨s', hs', hs2, hs3⟩ : ∃ s' : Int, salt + 9 * (if decide (salt = 0) = true then 1 else 0) = s' /\ 0 <= s' /\ s' < 1000 := by
  refine ⟨_, rfl, ?_, ?_⟩ <;> by_cases h : salt = 0 <;> simp [h] <;> omega
 obtain ⟨d, qd, d0, d1⟩ := hN t cs n rs.length s' (yE hft).1 hs2 hs3 hl.1 (yE hft).2
 obtain ⟨r, hg⟩ : ∃ r, rs[d.toNat]? = some r := ⟨_, List.getElem?_eq_getElem (by omega)⟩
 have hdr := oP hg
 have htr := rA (List.mem_of_getElem? hg)
 have pi := dZ r
 obtain ⟨ok, t', ds, n', q, e1, e2, e3, e4⟩ := hr r (List.mem_of_getElem? hg) flat m t (cs ++ [d]) (n + 1) salt h0 (zj4 (ze0 h1) hdr) hs0 hs1 (yD (zj3 hft d) htr)
 have se : ∀ x, gW (!flat) m (.either rs) (d :: ds ++ x) t = eP (!flat) m r (ds ++ x) t := fun x => by
  rw [gW.eq_def]
  simp only [List.cons_append]
  rw [if_pos d0, qO hg]
 delta xE
 rw [htk]
 refine ⟨ok, t', d :: ds, n', x7, x8, some (.int d), ?_, fun h x => by rw [se]; exact e1 h x, fun h x => by rw [se]; exact e2 h x, e3, zc6 (vL e4 htr) d ⟨d0, Int.lt_of_lt_of_le d1 (Int.ofNat_le.mpr hl.2)⟩⟩
 rw [yf5] at q
 have qx : atI (cI rs) d = some (.tup (aQ r)) := by
  have := lI (zj5 hg)
  rwa [Int.toNat_of_nonneg d0] at this
 have hrl : (cI rs).length = rs.length := jS rs
 have hmul : uM 9 (if decide (salt = 0) = true then 1 else 0) = true := by by_cases h : salt = 0 <;> simp [h] <;> decide
 have hmul' : iN (.int 9) (.int (if decide (salt = 0) = true then 1 else 0)) = some (.int (9 * (if decide (salt = 0) = true then 1 else 0))) := by rw [iN, if_pos hmul]
 have hm2 : f2 bG (aA 5) (f2 iN (fC (.int 9)) (aG nH (aB (f2 dEq (aA 5) (fC (.int 0))) aD))) [some S, R, some (.bl flat), some (.int m), some (sD t cs n), some (.int salt), some (.tup [.str "either", .tup (cI rs)]), x7, x8, x9] = some (.int s') := by
  rw [<- hs']
  refine aT rfl (aT rfl (d := .int (9 * (if decide (salt = 0) = true then 1 else 0))) ?_ hmul') rfl
  exact bU (aJ (aT rfl rfl rfl) rfl) rfl
 have ln : aG bP (aB (f2 dIx (aA 6) (fC (.int 1))) aD) [some S, R, some (.bl flat), some (.int m), some (sD t cs n), some (.int salt), some (.tup [.str "either", .tup (cI rs)]), x7, x8, x9] = some (.int rs.length) := by
  rw [<- hrl]
  exact bU (aJ (aT rfl rfl (cK _ _ _)) rfl) rfl
 have dr : aR 9 (fIO [.im (aA 0), .io 4, .im (f2 bG (aA 5) (f2 iN (fC (.int 9)) (aG nH (aB (f2 dEq (aA 5) (fC (.int 0))) aD)))), .im (aG bP (aB (f2 dIx (aA 6) (fC (.int 1))) aD))] GN) [some S, R, some (.bl flat), some (.int m), some (sD t cs n), some (.int salt), some (.tup [.str "either", .tup (cI rs)]), x7, x8, x9] = some (.nx, [some S, R, some (.bl flat), some (.int m), some (sD t (cs ++ [d]) (n + 1)), some (.int salt), some (.tup [.str "either", .tup (cI rs)]), x7, x8, some (.int d)]) := by
  unfold aR
  rw [rR (dD (f := aA 0) rfl hS (pL (j := 4) rfl (dD hm2 rfl (dD ln rfl fS)))) qd rfl]
  rfl
 refine (yC (ds := [.tup (cI rs)]) rfl (by decide) (by decide) (by decide) (by decide)).trans ((aF (eA (ds := [.tup (cI rs)]) rfl (by decide))).trans ((aF (eA (ds := [.tup (cI rs)]) rfl (by decide))).trans ((lP (ds := [.tup (cI rs)]) rfl (by decide)).trans ?_)))
 exact (aF dr).trans (rS hS (aT (aT rfl rfl (cK _ _ _)) rfl qx) rfl rfl q)
theorem ya5 {GN GS : tz7} {l : Leaf} (hl : jC l) : zl0 S GN GS (.leaf l) := by
 intro R flat m t cs n salt x7 x8 x9 h0 h1 hs0 hs1 hft
 have hd : fK (.leaf l) = 0 := by rw [fK]
 have htk : (dH (.leaf l)).length = 1 := by simp [dH]
 rw [hd] at h1
 rw [htk] at hft
 obtain ⟨ok, t', q, e1, e2, e3⟩ := yf2 (GN := GN) (GS := GS) (S := S) (R := R) (cs := cs) (n := n) (salt := salt) (flat := flat) x7 x8 x9 hl h0 (by omega) (Nat.le_trans (Nat.le_add_right _ _) hft.2.2)
 delta xE
 rw [htk]
 refine ⟨ok, t', [], n, x7, x8, x9, by rw [List.append_nil]; exact q, fun h x => ?_, fun h x => ?_, fun _ hf => ?_, ⟨⟨Nat.le_add_right _ _, e3, Nat.zero_le _⟩, fun _ h => absurd h (List.not_mem_nil)⟩⟩
 ·obtain ⟨w, hw, rfl⟩ := e1 h
  rw [gW, hw]; rfl
 ·rw [gW, (e2 h).1]; rfl
 ·cases ok with
  | true => rfl
  | false => have := (e2 rfl).2; rw [hf] at this; cases this
theorem ya6 {GN GS : tz7} {k : Nat} (hS : S.imm = true) (hN : vV S GN) (hG : ∀ r, cT r < k -> okR r -> uU S GS r) {p : Pc} (hd : fK p <= k) (ho : okP p) : zl0 S GN GS p := by
 cases p with
 | leaf l => exact ya5 ho
 | group r => rw [fK] at hd; exact ya4 hS hN (hG r (by omega) ho)
 | hang n r => rw [fK] at hd; exact yf6 hS ho.1 (hG r (by omega) ho.2)
 | either rs =>
  rw [fK] at hd
  have ho' : (2 <= rs.length /\ rs.length <= 4) /\ kJ rs := ho
  refine zt0 hS hN ⟨by omega, ho'.1.2⟩ fun r hr => ?_
  obtain ⟨i, hi⟩ := List.getElem?_of_mem hr
  have := oP hi
  exact hG r (by omega) (sP ho'.2 hi)
noncomputable def zl1 (S : D) (GN GS : tz7) (R : Option D) (flat : Bool) (m salt : Int) (r : List Pc) (t : Str) (cs : List Int) (n : Nat) (x6 x7 x8 x9 : Option D) : Prop := ∃ ok t' ds n' y6 y7 y8 y9, fN 6 (mG jE jJ GN GS) (aQ r) [some S, R, some (.bl flat), some (.int m), some (sD t cs n), some (.int salt), x6, x7, x8, x9] = some (if ok = true then .nx else .ret (.bl false), [some S, R, some (.bl flat), some (.int m), some (sD t' (cs ++ ds) n'), some (.int salt), y6, y7, y8, y9]) /\
   (ok = true -> ∀ x, eP (!flat) m r (ds ++ x) t = some (x, t')) /\ (ok = false -> ∀ x, eP (!flat) m r (ds ++ x) t = none) /\ (salt = 0 -> flat = false -> ok = true) /\ oH n n' t.length t'.length ds (bO r).length
theorem zj6 {GN GS : tz7} {k : Nat} {R : Option D} {flat : Bool} {m salt : Int} (hS : S.imm = true) (hN : vV S GN) (hG : ∀ r, cT r < k -> okR r -> uU S GS r) (h0 : 0 <= m) (hs0 : 0 <= salt) (hs1 : salt <= 900) : ∀ (r : List Pc) (t : Str) (cs : List Int) (n : Nat) (x6 x7 x8 x9 : Option D), cT r <= k -> okR r ->
  m + 12 * cT r <= 100 -> Fit n cs.length t.length (bO r).length -> zl1 S GN GS R flat m salt r t cs n x6 x7 x8 x9
 | [], t, cs, n, x6, x7, x8, x9, _, _, _, _ => show zl1 S GN GS R flat m salt [] t cs n x6 x7 x8 x9 by delta zl1; exact ⟨true, t, [], n, x6, x7, x8, x9, by rw [List.append_nil]; rfl, fun _ x => by rw [eP]; rfl, (nomatch ·), fun _ _ => rfl, ⟨⟨Nat.le_refl _, Nat.le_refl _, Nat.le_refl _⟩, fun _ h => absurd h (List.not_mem_nil)⟩⟩
 | p :: r, t, cs, n, x6, x7, x8, x9, hd, ho, h1, hft => by
  rw [okR] at ho
  rw [cT] at hd h1
  have htk : (bO (p :: r)).length = (dH p).length + (bO r).length := by rw [bO, List.length_append]
  rw [htk] at hft
  obtain ⟨ok, t1, d1, n1, y7, y8, y9, q, e1, e2, e3, e4⟩ := ya6 hS hN hG (p := p) (Nat.le_trans (Nat.le_max_left _ _) hd) ho.1 R flat m t cs n salt x7 x8 x9 h0 (zj4 h1 (Nat.le_max_left _ _)) hs0 hs1 (yD hft (Nat.le_add_right _ _))
  have st : ∀ (Y : Fl × PSt), mG jE jJ GN GS [some S, R, some (.bl flat), some (.int m), some (sD t cs n), some (.int salt), some (pcD p), x7, x8, x9] = some Y -> fN 6 (mG jE jJ GN GS) (aQ (p :: r)) [some S, R, some (.bl flat), some (.int m), some (sD t cs n), some (.int salt), x6, x7, x8, x9] = (match Y with
    | (.nx, p) => fN 6 (mG jE jJ GN GS) (aQ r) p
    | (.ct, p) => fN 6 (mG jE jJ GN GS) (aQ r) p
    | (.bk, p) => some (.nx, p)
    | (.ret d, p) => some (.ret d, p)) := fun Y hY => by
   show fN 6 _ (pcD p :: aQ r) _ = _
   rw [fN]
   show ((mG jE jJ GN GS [some S, R, some (.bl flat), some (.int m), some (sD t cs n), some (.int salt), some (pcD p), x7, x8, x9]).bind _) = _
   rw [hY]; rfl
  cases ok with
  | false =>
   delta zl1
   rw [htk]
   refine ⟨false, t1, d1, n1, _, y7, y8, y9, st _ q, (nomatch ·), fun _ x => by rw [eP, e2 rfl x]; rfl, fun a b => (by have := e3 a b; cases this), vL e4 (Nat.le_add_right _ _)⟩
  | true =>
   obtain ⟨ok, t2, d2, n2, z6, z7, z8, z9, q2, f1, f2, f3, f4⟩ := zj6 (R := R) (flat := flat) hS hN hG h0 hs0 hs1 r t1 (cs ++ d1) n1 (some (pcD p)) y7 y8 y9 (Nat.le_trans (Nat.le_max_right _ _) hd) ho.2 (zj4 h1 (Nat.le_max_right _ _)) (yf4 hft e4)
   rw [List.append_assoc] at q2
   delta zl1
   rw [htk]
   refine ⟨ok, t2, d1 ++ d2, n2, z6, z7, z8, z9, (st _ q).trans q2, fun h x => ?_, fun h x => ?_, f3, zs9 e4 f4⟩
   ·rw [eP, List.append_assoc, e1 rfl]; exact f1 h x
   ·rw [eP, List.append_assoc, e1 rfl]; exact f2 h x
noncomputable def jF (GN : tz7) : Nat -> tz7
 | 0 => fun _ => none
 | n + 1 => gE 6 4 (aZ [false, false, false, false, true, false]) (sZ jE jJ GN (jF GN n))
theorem zo4 {GN : tz7} (hS : S.imm = true) (hN : vV S GN) : ∀ (k : Nat) (r : List Pc), cT r < k -> okR r -> uU S (jF GN k) r
 | 0, _, h, _ => absurd h (Nat.not_lt_zero _)
 | k + 1, r, hd, ho => fun flat m t cs n salt h0 h1 hs0 hs1 hft => by
  obtain ⟨ok, t', ds, n', y6, y7, y8, y9, q, e⟩ := zj6 (GS := jF GN k) (k := k) (R := some (.tup (aQ r))) (flat := flat) hS hN (fun s hs hk => zo4 hS hN k s hs hk) h0 hs0 hs1 r t cs n none none none none (Nat.le_of_lt_succ hd) ho h1 hft
  refine ⟨ok, t', ds, n', ?_, e⟩
  show gE 6 4 _ (sZ jE jJ GN (jF GN k)) _ = _
  have s1 : kH 6 (gA (aA 1)) (mG jE jJ GN (jF GN k)) [some S, some (.tup (aQ r)), some (.bl flat), some (.int m), some (sD t cs n), some (.int salt), none, none, none, none] = _ := q
  have z : sZ jE jJ GN (jF GN k) ([S, .tup (aQ r), .bl flat, .int m, sD t cs n, .int salt].map some ++ List.replicate 4 none) = some (.ret (.bl ok), [some S, some (.tup (aQ r)), some (.bl flat), some (.int m), some (sD t' (cs ++ ds) n'), some (.int salt), y6, y7, y8, y9]) := by
   cases ok with
   | true => exact (aF s1).trans rfl
   | false => exact eN s1
  unfold gE
  refine (if_pos rfl).trans ?_
  rw [z]; rfl
end
end My
namespace My
open PySem PySem.Spec PyProof.Rows L2 L3
section
variable {S : D} {GN : tz7}
noncomputable abbrev rY (GS : tz7) : tz6 := gP 3 1 (yU GS)
theorem yf7 {GS : tz7} {r : List Pc} {salt : Int} (hS : S.imm = true) (hL : uU S GS r) (hd : cT r <= 8) (hl : (bO r).length <= 800) (h0 : 0 <= salt) (h1 : salt <= 900) :
  ∃ C t, rY GS [S, .tup (aQ r), .int salt] = some (.tup [.str t, .tup (bW C)]) /\ eP true 0 r C ⟨#[]⟩ = some ([], t) /\ C.length <= (bO r).length /\ t.length <= 900000 /\ ∀ c ∈ C, 0 <= c /\ c < 4 := by
 have pi := dZ r
 have run : ∀ s : Int, 0 <= s -> s <= 900 -> ∃ ok t' ds n', GS [S, .tup (aQ r), .bl false, .int 0, sD ⟨#[]⟩ [] 0, .int s] = some (.bl ok, [S, .tup (aQ r), .bl false, .int 0, sD t' ds n', .int s]) /\ (ok = true -> eP true 0 r ds ⟨#[]⟩ = some ([], t')) /\ (s = 0 -> ok = true) /\ ds.length <= (bO r).length /\ t'.length <= 900000 /\ ∀ c ∈ ds, 0 <= c /\ c < 4 := fun s s0 s1 => by
  obtain ⟨ok, t', ds, n', q, e1, e2, e3, ⟨_, e5, e6⟩, e7⟩ := hL false 0 ⟨#[]⟩ [] 0 s (Int.le_refl _) (by omega) s0 s1 ⟨by omega, by show 0 + _ <= _; omega, by show 0 + _ <= _; omega⟩
  exact ⟨ok, t', ds, n', q, fun h => by have := e1 h []; rwa [List.append_nil] at this, fun h => e3 h rfl, e6, (by have e5' : t'.length <= 0 + 101 * (bO r).length := e5; omega), e7⟩
 have st0 : bL (aB (fC (.str "")) (aB (bL aD) (aB (fC (.int 0)) aD))) = fun _ => some (sD ⟨#[]⟩ [] 0) := by
  funext p
  refine eY (aJ rfl (aJ (d := .lst true []) rfl (aJ rfl rfl))) (by simp) |>.trans ?_
  rw [zi4]; rfl
 have fin : ∀ (t' : Str) (ds : List Int) (n' : Nat), bJ (aE (cU (aB (aX (f2 dIx (aA 3) (fC (.int 0)))) (aB (aG cQ (aB (f2 dIx (aA 3) (fC (.int 1))) aD)) aD)))) [some S, some (.tup (aQ r)), some (.int salt), some (sD t' ds n')] = some (.ret (.tup [.str t', .tup (bW ds)]), [some S, some (.tup (aQ r)), some (.int salt), some (sD t' ds n')]) := fun t' ds n' => by
  have hi := kU ds
  refine eH ?_
  simp [cU, aB, aD, aX, f2, dIx, aA, fC, sD, cV, cK, aG, cQ, hi, D.imm, D.imms]
 have call : ∀ (s : Int) (f5 : tz2) (ok : Bool) (t' : Str) (ds : List Int) (n' : Nat), f5 [some S, some (.tup (aQ r)), some (.int salt), some (sD ⟨#[]⟩ [] 0)] = some (.int s) -> GS [S, .tup (aQ r), .bl false, .int 0, sD ⟨#[]⟩ [] 0, .int s] = some (.bl ok, [S, .tup (aQ r), .bl false, .int 0, sD t' ds n', .int s]) ->
   fIO [.im (aA 0), .im (aA 1), .im (fC (.bl false)), .im (fC (.int 0)), .io 3, .im f5] GS [some S, some (.tup (aQ r)), some (.int salt), some (sD ⟨#[]⟩ [] 0)] = some (.bl ok, [some S, some (.tup (aQ r)), some (.int salt), some (sD t' ds n')]) := fun s f5 ok t' ds n' h5 q => by
  generalize sD ⟨#[]⟩ [] 0 = s0 at h5 q |-
  generalize sD t' ds n' = s1 at q |-
  simp [fIO, aU, aX, aA, fC, hS, pi, D.imm, D.imms, h5, q, dX]
 obtain ⟨ok, t', ds, n', q, e1, _, e6⟩ := run salt h0 h1
 have s0 : ∀ x, aR 3 (aE (bL (aB (fC (.str "")) (aB (bL aD) (aB (fC (.int 0)) aD))))) [some S, some (.tup (aQ r)), some (.int salt), x] = some (.nx, [some S, some (.tup (aQ r)), some (.int salt), some (sD ⟨#[]⟩ [] 0)]) := fun x => by rw [st0]; rfl
 have c1 : fTE (fIO [.im (aA 0), .im (aA 1), .im (fC (.bl false)), .im (fC (.int 0)), .io 3, .im (aA 2)] GS) [some S, some (.tup (aQ r)), some (.int salt), some (sD ⟨#[]⟩ [] 0)] = some (ok, [some S, some (.tup (aQ r)), some (.int salt), some (sD t' ds n')]) := by
  unfold fTE
  rw [call salt (aA 2) ok t' ds n' rfl q]; rfl
 cases ok with
 | true => exact ⟨ds, t', jA rfl ((aF (s0 _)).trans (eN ((vF c1).trans (fin t' ds n')))), e1 rfl, e6⟩
 | false =>
  obtain ⟨ok2, t2, d2, n2, q2, f1, f2, f6⟩ := run 0 (Int.le_refl _) (by decide)
  have hok := f2 rfl
  subst hok
  have c2 : aV (fIO [.im (aA 0), .im (aA 1), .im (fC (.bl false)), .im (fC (.int 0)), .io 3, .im (fC (.int 0))] GS) [some S, some (.tup (aQ r)), some (.int salt), some (sD ⟨#[]⟩ [] 0)] = some (.nx, [some S, some (.tup (aQ r)), some (.int salt), some (sD t2 d2 n2)]) := by
   unfold aV
   rw [call 0 (fC (.int 0)) true t2 d2 n2 rfl q2]; rfl
  exact ⟨d2, t2, jA rfl ((aF (s0 _)).trans ((aF ((mE c1).trans rfl)).trans ((aF (s0 _)).trans ((aF c2).trans (fin t2 d2 n2))))), f1 rfl, f6⟩
end
end My
namespace My
open PySem PySem.Spec PyProof.Rows L2 L3
noncomputable def ifR (GM : tz6) (GS : tz7) (GL : tz6) : tz1 :=
 (fIf (aI (cE (fB (f2 dLt (aA 7) (fC (.int 4)))) (fB (f2 dLe (aG bP (aB (aA 4) aD)) (aA 3)))))
  (aK (aR 9 (aE (f2 dIx (bL (fKs [.str "group", .str "group", .str "hang", .str "either"])) (aA 7))))
 (aV (bE 4 aP (aB (bL (aB (aX (aA 9)) (aB (f2 dIx (bL (aB (fC (.int 1)) (aB (fC (.int 2)) (aB (fC (.int 4)) (aB (f2 eB (f2 gJ (aA 6) (fC (.int 13))) (fC (.int 13))) aD))))) (f2 eB (f2 gJ (aA 6) (fC (.int 169))) (fC (.int 4)))) (aB (bL aD) (aB (bL aD) aD))))) aD) bD)))
  (fIf (aI (cE (fB (f2 dEq (aA 7) (fC (.int 4)))) (fB (f2 dGt (aG bP (aB (aA 4) aD)) (fC (.int 1))))))
  (aV (fIO [.io 4] GS))
  (fIf (aI (cE (fB (f2 dLt (aA 7) (fC (.int 7)))) (cE (fB (f2 dEq (aA 8) (fC (.str "either")))) (fB (f2 dLt (aG bP (aB (f2 dIx (f2 dIx (aA 4) (eQ (fC (.int 1)))) (fC (.int 2))) aD)) (fC (.int 3)))))))
  (aK (aV (bE 4 (dF 4 (dF 4 aP (eQ (fC (.int 1)))) (fC (.int 2))) (aB (aG cQ (aB (f2 dIx (f2 dIx (aA 4) (eQ (fC (.int 1)))) (fC (.int 3))) aD)) aD) bD))
 (dG 4 (dF 4 aP (eQ (fC (.int 1)))) (fC (.int 3)) (bL aD)))
  (aV (bE 4 (dF 4 (dF 4 aP (eQ (fC (.int 1)))) (fC (.int 3))) (aB (aG GL (aB (aG GM (aB (aA 0) (aB (aA 5) (aB (fC (.int 32)) aD)))) aD)) aD) bD)))))
noncomputable def tD (GM : tz6) (GS : tz7) (GL : tz6) : tz1 :=
   (aK (aR 6 (aE (aG GM (aB (aA 0) (aB (aA 5) (aB (fC (.int 31)) aD))))))
 (aK (aR 7 (aE (f2 eB (aA 6) (fC (.int 13)))))
 (aK (aR 8 (aE (aX (f2 dIx (f2 dIx (aA 4) (eQ (fC (.int 1)))) (fC (.int 0))))))
 (ifR GM GS GL))))
section
variable {GM : tz6} {GS : tz7} {GL : tz6} {S : D} {x1 x2 x6 x7 x8 x9 : Option D} {nest : Nat} {f : Gm} {fs : List Gm} {i m : Int}
theorem ya7 (hm : GM [S, .int i, .int 31] = some (.int m)) : tD GM GS GL [some S, x1, x2, some (.int nest), some (.lst true (cD (f :: fs))), some (.int i), x6, x7, x8, x9]
  = ifR GM GS GL [some S, x1, x2, some (.int nest), some (.lst true (cD (f :: fs))), some (.int i), some (.int m), some (.int (m % 13)), some (.str (kdS f.kd)), x9] := by
 unfold tD
 refine (aF (cA (bU rfl hm))).trans ?_
 refine (aF (cA (d := .int (m % 13)) (by simp [aK, aY, aR, aE, fIf, aI, fB, f2, aA, fC, aX, bJ, aV, bE, aP, bM, bV, aB, aD, bL, cU, fKs, aG, dEq, dNe, eqB, dB, dIx, bP, bD, D.imm, D.imms, cQ, bG, fT, cF, bF, cV, cK, fH, dF, dG, fJ, eQ, cE, dS, cX, dLt, dLe, dGt, dGe, fIO, aU, dX, dC, dU, gH, gI, oX, L2.gZ, nD, nE, iT]))).trans ?_
 exact aF (cA (d := .str (kdS f.kd)) (by simp [aK, aY, aR, aE, fIf, aI, fB, f2, aA, fC, aX, bJ, aV, bE, aP, bM, bV, aB, aD, bL, cU, fKs, aG, dEq, dNe, eqB, dB, dIx, bP, bD, D.imm, D.imms, cQ, bG, fT, cF, bF, cV, cK, fH, dF, dG, fJ, eQ, cE, dS, cX, dLt, dLe, dGt, dGe, fIO, aU, dX, dC, dU, gH, gI, oX, L2.gZ, nD, nE, iT, cD, gmD]))
theorem yq7 (a k : Int) (ha : 0 <= a /\ a <= 12) : ∃ n : Int, atI [D.int 1, .int 2, .int 4, .int a] (k % 4) = some (.int n) /\ 0 <= n /\ n <= 12 := by
 have h0 := Int.emod_nonneg k (show (4 : Int) ≠ 0 by decide)
 have h1 := Int.emod_lt_of_pos k (show (0 : Int) < 4 by decide)
 obtain ⟨d, hd, e⟩ := nU [D.int 1, .int 2, .int 4, .int a] (k % 4) h0 (by simpa using h1)
 simp only [List.mem_cons, List.not_mem_nil, or_false] at hd
 rcases hd with rfl | rfl | rfl | rfl
 ·exact ⟨_, e, by decide, by decide⟩
 ·exact ⟨_, e, by decide, by decide⟩
 ·exact ⟨_, e, by decide, by decide⟩
 ·exact ⟨_, e, ha⟩
theorem yl7 (m : Int) (h0 : 0 <= m % 13) (h : m % 13 < 4) : ∃ kd : Nat, atI [D.str (Str.ofString "group"), .str (Str.ofString "group"), .str (Str.ofString "hang"), .str (Str.ofString "either")] (m % 13) = some (.str (kdS kd)) /\ 1 <= kd /\ kd <= 3 := by
 have hn : m % 13 = 0 \/ m % 13 = 1 \/ m % 13 = 2 \/ m % 13 = 3 := by omega
 rcases hn with e | e | e | e <;> rw [e]
 ·exact ⟨1, rfl, by decide, by decide⟩
 ·exact ⟨1, rfl, by decide, by decide⟩
 ·exact ⟨2, rfl, by decide, by decide⟩
 ·exact ⟨3, rfl, by decide, by decide⟩
theorem yG {a b : Prop} [Decidable a] [Decidable b] (h : ¬ (a /\ b)) : (decide a && decide b) = false := by
 by_cases ha : a
 ·rw [decide_eq_false (fun hb => h ⟨ha, hb⟩), Bool.and_false]
 ·rw [decide_eq_false ha, Bool.false_and]
theorem zo5 {a b : Prop} [Decidable a] [Decidable b] (ha : a) (hb : b) : (decide a && decide b) = true := by rw [decide_eq_true ha, decide_eq_true hb]; rfl
theorem yH {f g : tz4} {p : PSt} {a b : Bool} (h1 : f p = some a) (h2 : g p = some b) : cE f g p = some (a && b) := by
 cases a with
 | true => exact jP h1 h2
 | false => exact kT h1
theorem zt1 {N : List D} {w : Int} {x0 x5 x6 : Option D} : cE (fB (f2 dLt (aA 7) (fC (.int 4)))) (fB (f2 dLe (aG bP (aB (aA 4) aD)) (aA 3))) [x0, x1, x2, some (.int nest), some (.lst true N), x5, x6, some (.int w), x8, x9] = some (decide (w < 4) && decide ((N.length : Int) <= (nest : Int))) :=
 yH (fL (aT rfl rfl rfl)) (fL (aT (bU (aJ rfl rfl) rfl) rfl rfl))
theorem yh5 {N : List D} {w : Int} {x0 x3 x5 x6 : Option D} : cE (fB (f2 dEq (aA 7) (fC (.int 4)))) (fB (f2 dGt (aG bP (aB (aA 4) aD)) (fC (.int 1)))) [x0, x1, x2, x3, some (.lst true N), x5, x6, some (.int w), x8, x9] = some (decide (w = 4) && decide ((1 : Int) < (N.length : Int))) :=
 yH (fL (aT rfl rfl rfl)) (fL (aT (bU (aJ rfl rfl) rfl) rfl rfl))
theorem zo6 {p : PSt} {j : Nat} {M : List D} {d : D} (hp : p[j]? = some (some (.lst true (M ++ [d])))) : f2 dIx (aA j) (eQ (fC (.int 1))) p = some d := aT (mQ hp) rfl (show atI (M ++ [d]) (-1) = _ from L2.gZ _ _)
theorem yh6 {M R : List D} {w : Int} {k : String} {a b c : D} {x0 x3 x5 x6 : Option D} : cE (fB (f2 dLt (aA 7) (fC (.int 7)))) (cE (fB (f2 dEq (aA 8) (fC (.str "either")))) (fB (f2 dLt (aG bP (aB (f2 dIx (f2 dIx (aA 4) (eQ (fC (.int 1)))) (fC (.int 2))) aD)) (fC (.int 3))))) [x0, x1, x2, x3, some (.lst true (M ++ [.lst true [a, b, .lst true R, c]])), x5, x6, some (.int w), some (.str k), x9] = some (decide (w < 7) && (decide (k = "either") && decide ((R.length : Int) < 3))) := by
 refine yH (fL (aT rfl rfl rfl)) (yH (fL (aT rfl rfl ?_)) (fL (aT (bU (aJ (aT (zo6 (j := 4) rfl) rfl (fH _ _ _ _)) rfl) rfl) rfl rfl)))
 show some (D.bl (decide ((k : Str) = (("either" : String) : Str)))) = _
 congr 2
 exact decide_eq_decide.mpr (by rw [bF])
theorem ya8 {p : PSt} {j : Nat} {M : List D} {k n : Nat} {l : List D} (hp : p[j]? = some (some (.lst true (M ++ [.lst true l])))) (hk : ixN l.length (k : Int) = some n) : dF j (dF j aP (eQ (fC (.int 1)))) (fC (.int (k : Int))) p = some [.ix M.length, .ix n] := by
 have e1 : ixN (M ++ [D.lst true l]).length (-1) = some M.length := by rw [List.length_append]; exact gH _
 have e2 : (M ++ [D.lst true l])[M.length]? = some (.lst true l) := by simp [aK, aY, aR, aE, fIf, aI, fB, f2, aA, fC, aX, bJ, aV, bE, aP, bM, bV, aB, aD, bL, cU, fKs, aG, dEq, dNe, eqB, dB, dIx, bP, bD, D.imm, D.imms, cQ, bG, fT, cF, bF, cV, cK, fH, dF, dG, fJ, eQ, cE, dS, cX, dLt, dLe, dGt, dGe, fIO, aU, dX, dC, dU, gH, gI, oX, L2.gZ, nD, nE, iT]
 simp [aK, aY, aR, aE, fIf, aI, fB, f2, aA, fC, aX, bJ, aV, bE, aP, bM, bV, aB, aD, bL, cU, fKs, aG, dEq, dNe, eqB, dB, dIx, bP, bD, D.imm, D.imms, cQ, bG, fT, cF, bF, cV, cK, fH, dF, dG, fJ, eQ, cE, dS, cX, dLt, dLe, dGt, dGe, fIO, aU, dX, dC, dU, gH, gI, oX, L2.gZ, nD, nE, iT, dF, aP, hp, bV, e1, e2, hk, eQ, fC]
theorem yf8 {α : Type} {h : D -> Option (α × D)} {M l : List D} {n : Nat} {d d' : D} {r : α} (hl : l[n]? = some d) (e : h d = some (r, d')) : bM h (.lst true (M ++ [.lst true l])) [.ix M.length, .ix n] = some (r, .lst true (M ++ [.lst true (l.set n d')])) := by
 have e2 : (M ++ [D.lst true l])[M.length]? = some (.lst true l) := by simp [aK, aY, aR, aE, fIf, aI, fB, f2, aA, fC, aX, bJ, aV, bE, aP, bM, bV, aB, aD, bL, cU, fKs, aG, dEq, dNe, eqB, dB, dIx, bP, bD, D.imm, D.imms, cQ, bG, fT, cF, bF, cV, cK, fH, dF, dG, fJ, eQ, cE, dS, cX, dLt, dLe, dGt, dGe, fIO, aU, dX, dC, dU, gH, gI, oX, L2.gZ, nD, nE, iT]
 show (((M ++ [D.lst true l])[M.length]?).bind _) = _
 rw [e2, Option.bind_some]
 show (((l[n]?).bind _).bind _) = _
 rw [hl, Option.bind_some]
 show (((h d).bind _).bind _) = _
 rw [e]
 show some (r, D.lst true ((M ++ [D.lst true l]).set M.length _)) = _
 rw [gI]
theorem zj7 {p : PSt} {j k n : Nat} {M l xs : List D} {fe : tz2} {y : D} (hp : p[j]? = some (some (.lst true (M ++ [.lst true l])))) (hk : ixN l.length (k : Int) = some n) (hl : l[n]? = some (.lst true xs)) (h : fe p = some y) (hz : xs.length < sizeLine) : aV (bE j (dF j (dF j aP (eQ (fC (.int 1)))) (fC (.int (k : Int)))) (aB fe aD) bD) p = some (.nx, p.set j (some (.lst true (M ++ [.lst true (l.set n (.lst true (xs ++ [y])))])))) := by
 refine nV (d := .non) ?_
 unfold bE
 rw [hp, Option.join_some, Option.bind_some, ya8 hp hk, Option.bind_some, aJ h rfl, Option.bind_some, yf8 hl (show bD [y] (.lst true xs) = _ from if_pos hz)]
 rfl
theorem zt2 {p : PSt} {j k n : Nat} {M l : List D} {fe : tz2} {y : D} (hp : p[j]? = some (some (.lst true (M ++ [.lst true l])))) (hk : ixN l.length (k : Int) = some n) (h : fe p = some y) : dG j (dF j aP (eQ (fC (.int 1)))) (fC (.int (k : Int))) fe p = some (.nx, p.set j (some (.lst true (M ++ [.lst true (l.set n y)])))) := by
 have e1 : ixN (M ++ [D.lst true l]).length (-1) = some M.length := by rw [List.length_append]; exact gH _
 have e2 : (M ++ [D.lst true l])[M.length]? = some (.lst true l) := by simp [aK, aY, aR, aE, fIf, aI, fB, f2, aA, fC, aX, bJ, aV, bE, aP, bM, bV, aB, aD, bL, cU, fKs, aG, dEq, dNe, eqB, dB, dIx, bP, bD, D.imm, D.imms, cQ, bG, fT, cF, bF, cV, cK, fH, dF, dG, fJ, eQ, cE, dS, cX, dLt, dLe, dGt, dGe, fIO, aU, dX, dC, dU, gH, gI, oX, L2.gZ, nD, nE, iT]
 have ep : dF j aP (eQ (fC (.int 1))) p = some [.ix M.length] := by simp [aK, aY, aR, aE, fIf, aI, fB, f2, aA, fC, aX, bJ, aV, bE, aP, bM, bV, aB, aD, bL, cU, fKs, aG, dEq, dNe, eqB, dB, dIx, bP, bD, D.imm, D.imms, cQ, bG, fT, cF, bF, cV, cK, fH, dF, dG, fJ, eQ, cE, dS, cX, dLt, dLe, dGt, dGe, fIO, aU, dX, dC, dU, gH, gI, oX, L2.gZ, nD, nE, iT, dF, aP, hp, bV, e1, eQ, fC]
 unfold dG
 rw [h, Option.bind_some, hp, Option.join_some, Option.bind_some, ep, Option.bind_some]
 show ((bM (fJ (.int (k : Int)) y) (.lst true (M ++ [.lst true l])) [.ix M.length]).bind _) = _
 have em : bM (fJ (.int (k : Int)) y) (.lst true (M ++ [.lst true l])) [.ix M.length] = some ((), .lst true (M ++ [.lst true (l.set n y)])) := by
  show (((M ++ [D.lst true l])[M.length]?).bind _) = _
  rw [e2, Option.bind_some]
  show (((ixN l.length (k : Int)).bind _).bind _) = _
  rw [hk]
  show some ((), D.lst true ((M ++ [D.lst true l]).set M.length _)) = _
  rw [gI]
 rw [em]; rfl
theorem ya9 (hw : m % 13 < 4) (hl : (f :: fs).length <= nest) (hz : (f :: fs).length <= 900) : ∃ kd n y9, ifR GM GS GL [some S, x1, x2, some (.int nest), some (.lst true (cD (f :: fs))), some (.int i), some (.int m), some (.int (m % 13)), x8, x9]
  = some (.nx, [some S, x1, x2, some (.int nest), some (.lst true (cD (⟨kd, n, [], []⟩ :: f :: fs))), some (.int i), some (.int m), some (.int (m % 13)), x8, y9]) /\ (1 <= kd /\ kd <= 3) /\ 0 <= n /\ n <= 12 := by
 have h0 := Int.emod_nonneg m (show (13 : Int) ≠ 0 by decide)
 have d0 := Int.emod_nonneg (m / 13) (show (13 : Int) ≠ 0 by decide)
 have d1 := Int.emod_lt_of_pos (m / 13) (show (0 : Int) < 13 by decide)
 obtain ⟨kd, q1, hk1, hk2⟩ := yl7 m h0 hw
 obtain ⟨n, q2, hn1, hn2⟩ := yq7 (m / 13 % 13) (m / 169) ⟨d0, Int.le_of_lt_add_one d1⟩
 have hz' : (cD (f :: fs)).length < sizeLine := by rw [nX]; exact sz1 (by omega)
 have hl' : ((cD (f :: fs)).length : Int) <= (nest : Int) := by rw [nX]; exact Int.ofNat_le.mpr hl
 refine ⟨kd, n, some (.str (kdS kd)), ?_, ⟨hk1, hk2⟩, hn1, hn2⟩
 have e : cD (⟨kd, n, [], []⟩ :: f :: fs) = cD (f :: fs) ++ [.lst true [.str (kdS kd), .int n, .lst true [], .lst true []]] := rfl
 rw [e]
 generalize cD (f :: fs) = N at hz' hl' |-
 unfold ifR
 refine (dI (zt1.trans (by rw [zo5 hw hl']))).trans ((aF (cA (aT (eY rfl (Nat.le_of_ble_eq_true rfl)) rfl q1))).trans ?_)
 refine nV (d := .non) ?_
 unfold bE
 rw [aJ (eY (aJ (eT (d := .str (kdS kd)) rfl rfl) (aJ (aT (eY (aJ rfl (aJ rfl (aJ rfl (aJ (aT (aT rfl rfl ((dU _ _).trans (if_pos (by decide)))) rfl ((dC _ _).trans (if_pos (by decide)))) rfl)))) (Nat.le_of_ble_eq_true rfl)) (aT (aT rfl rfl ((dU _ _).trans (if_pos (by decide)))) rfl ((dC _ _).trans (if_pos (by decide)))) q2) (aJ (eY rfl (Nat.le_of_ble_eq_true rfl)) (aJ (eY rfl (Nat.le_of_ble_eq_true rfl)) rfl)))) (Nat.le_of_ble_eq_true rfl)) rfl]
 show ((bD [.lst true [.str (kdS kd), .int n, .lst true [], .lst true []]] (.lst true N)).bind _) = _
 rw [show bD [.lst true [.str (kdS kd), .int n, .lst true [], .lst true []]] (.lst true N) = _ from if_pos hz']
 rfl
theorem yb0 {g : Gm} (q : GS [.lst true (cD (f :: g :: fs))] = some (.non, [.lst true (cD (kI g (gQ f) :: fs))])) (hw : m % 13 = 4) :
  ifR GM GS GL [some S, x1, x2, some (.int nest), some (.lst true (cD (f :: g :: fs))), some (.int i), some (.int m), some (.int (m % 13)), x8, x9]
  = some (.nx, [some S, x1, x2, some (.int nest), some (.lst true (cD (kI g (gQ f) :: fs))), some (.int i), some (.int m), some (.int (m % 13)), x8, x9]) := by
 have hl : (1 : Int) < ((cD (f :: g :: fs)).length : Int) := by rw [nX]; simp; omega
 unfold ifR
 exact (mE (kS (zt1.trans (by rw [yG (fun z => by omega)])))).trans ((dI (yh5.trans (by rw [zo5 hw hl]))).trans (nV (rR (pL rfl fS) q rfl)))
theorem zo7 (hw : ¬ (m % 13 < 4 /\ (f :: fs).length <= nest)) (hw4 : ¬ (m % 13 = 4 /\ fs ≠ [])) {F1 F2 F3 : tz1} : fIf (aI (cE (fB (f2 dLt (aA 7) (fC (.int 4)))) (fB (f2 dLe (aG bP (aB (aA 4) aD)) (aA 3))))) F1 (fIf (aI (cE (fB (f2 dEq (aA 7) (fC (.int 4)))) (fB (f2 dGt (aG bP (aB (aA 4) aD)) (fC (.int 1)))))) F2 F3) [some S, x1, x2, some (.int nest), some (.lst true (cD (f :: fs))), some (.int i), some (.int m), some (.int (m % 13)), x8, x9]
  = F3 [some S, x1, x2, some (.int nest), some (.lst true (cD (f :: fs))), some (.int i), some (.int m), some (.int (m % 13)), x8, x9] := by
 have hl : (cD (f :: fs)).length = (f :: fs).length := nX _
 have hn : ¬ (m % 13 = 4 /\ (1 : Int) < ((f :: fs).length : Int)) := fun z => hw4 ⟨z.1, fun e => by rw [e] at z; exact absurd z.2 (Int.lt_irrefl 1)⟩
 exact (mE (kS (zt1.trans (by rw [hl, yG (fun z => hw ⟨z.1, Int.ofNat_le.mp z.2⟩)])))).trans (mE (kS (yh5.trans (by rw [hl, yG hn]))))
theorem yl8 (hw : ¬ (m % 13 < 4 /\ (f :: fs).length <= nest)) (hw4 : ¬ (m % 13 = 4 /\ fs ≠ [])) (hw7 : m % 13 < 7) (hk : f.kd = 3) (hf : f.full.length < 3) :
  ifR GM GS GL [some S, x1, x2, some (.int nest), some (.lst true (cD (f :: fs))), some (.int i), some (.int m), some (.int (m % 13)), some (.str (kdS f.kd)), x9]
  = some (.nx, [some S, x1, x2, some (.int nest), some (.lst true (cD ({ f with full := f.full ++ [f.parts], parts := [] } :: fs))), some (.int i), some (.int m), some (.int (m % 13)), some (.str (kdS f.kd)), x9]) := by
 unfold ifR
 refine (zo7 hw hw4).trans ?_
 obtain ⟨kd, n, full, parts⟩ := f
 have hk' : kd = 3 := hk
 subst hk'
 have hz : (cI full).length < sizeLine := by rw [jS]; exact sz1 (by have : full.length < 3 := hf; omega)
 have hf' : ((cI full).length : Int) < 3 := by rw [jS]; exact Int.ofNat_lt.mpr hf
 have er : cI (full ++ [parts]) = cI full ++ [.tup (aQ parts)] := by rw [uJ]; rfl
 have b3 : (decide (m % 13 < 7) && (decide (kdS 3 = "either") && decide (((cI full).length : Int) < 3))) = true := by rw [decide_eq_true hw7, decide_eq_true hf']; rfl
 have s1 := zj7 (p := [some S, x1, x2, some (.int nest), some (.lst true (cD (⟨3, n, full, parts⟩ :: fs))), some (.int i), some (.int m), some (.int (m % 13)), some (.str (kdS 3)), x9]) (j := 4) (k := 2) (n := 2) (M := cD fs) (fe := aG cQ (aB (f2 dIx (f2 dIx (aA 4) (eQ (fC (.int 1)))) (fC (.int 3))) aD)) rfl rfl rfl (bU (aJ (aT (zo6 (M := cD fs) rfl) rfl (yw1 _ _ _ _)) rfl) (if_pos (dZ parts))) hz
 rw [<- er] at s1
 have s2 := zt2 (p := [some S, x1, x2, some (.int nest), some (.lst true (cD fs ++ [.lst true [.str (kdS 3), .int n, .lst true (cI (full ++ [parts])), .lst true (aQ parts)]])), some (.int i), some (.int m), some (.int (m % 13)), some (.str (kdS 3)), x9]) (j := 4) (k := 3) (n := 3) (M := cD fs) (fe := bL aD) (y := .lst true []) rfl rfl (eY rfl (Nat.le_of_ble_eq_true rfl))
 exact (dI (yh6.trans (congrArg some b3))).trans ((aF s1).trans s2)
theorem yb1 {l : Leaf} {m2 : Int} (hm2 : GM [S, .int i, .int 32] = some (.int m2)) (hL : GL [.int m2] = some (cZ l)) (hz : f.parts.length <= 900)
  (hw : ¬ (m % 13 < 4 /\ (f :: fs).length <= nest)) (hw4 : ¬ (m % 13 = 4 /\ fs ≠ [])) (h3 : ¬ (m % 13 < 7 /\ f.kd = 3 /\ f.full.length < 3)) (hkd : f.kd <= 3) :
  ifR GM GS GL [some S, x1, x2, some (.int nest), some (.lst true (cD (f :: fs))), some (.int i), some (.int m), some (.int (m % 13)), some (.str (kdS f.kd)), x9]
  = some (.nx, [some S, x1, x2, some (.int nest), some (.lst true (cD (kI f (.leaf l) :: fs))), some (.int i), some (.int m), some (.int (m % 13)), some (.str (kdS f.kd)), x9]) := by
 have hz' : (aQ f.parts).length < sizeLine := by rw [wU]; exact sz1 (by omega)
 have ep : aQ (f.parts ++ [.leaf l]) = aQ f.parts ++ [cZ l] := by rw [wT]; rfl
 have b3 : (decide (m % 13 < 7) && (decide (kdS f.kd = "either") && decide (((cI f.full).length : Int) < 3))) = false := by
  by_cases a1 : m % 13 < 7
  ·rw [yG, Bool.and_false]
   intro ⟨z1, z2⟩
   rw [jS] at z2
   have hk : f.kd = 0 \/ f.kd = 1 \/ f.kd = 2 \/ f.kd = 3 := by omega
   rcases hk with e | e | e | e
   ·rw [e] at z1; exact absurd z1 (by decide)
   ·rw [e] at z1; exact absurd z1 (by decide)
   ·rw [e] at z1; exact absurd z1 (by decide)
   ·exact h3 ⟨a1, e, Int.ofNat_lt.mp z2⟩
  ·rw [decide_eq_false a1, Bool.false_and]
 unfold ifR
 refine (zo7 hw hw4).trans ((mE (kS (yh6.trans (by rw [b3])))).trans ?_)
 have e : cD (kI f (.leaf l) :: fs) = cD fs ++ [.lst true [.str (kdS f.kd), .int f.n, .lst true (cI f.full), .lst true (aQ f.parts ++ [cZ l])]] := by rw [<- ep]; rfl
 rw [e]
 have s1 := zj7 (p := [some S, x1, x2, some (.int nest), some (.lst true (cD (f :: fs))), some (.int i), some (.int m), some (.int (m % 13)), some (.str (kdS f.kd)), x9]) (j := 4) (k := 3) (n := 3) (M := cD fs) (fe := aG GL (aB (aG GM (aB (aA 0) (aB (aA 5) (aB (fC (.int 32)) aD)))) aD)) rfl rfl rfl (bU (aJ (bU (aJ rfl (aJ rfl (aJ rfl rfl))) hm2) rfl) hL) hz'
 exact s1
end
end My
namespace My
open PySem PySem.Spec PyProof.Rows L2 L3
section
variable {GM : tz6} {GS : tz7} {GL : tz6} {S : D} {x1 x2 x6 x7 x8 x9 : Option D} {nest k : Nat} {fs : List Gm} {i : Int}
theorem zt3 {f : Gm} {fs : List Gm} (h : zk9 (f :: fs)) : f.kd <= 3 := by
 cases fs with
 | nil => have : f.kd = 0 := h; omega
 | cons g fs => exact h.1.2
theorem yl9 (hS : ∀ (f g : Gm) (fs : List Gm), (1 <= f.kd /\ f.kd <= 3) -> (f.kd ≠ 3 -> f.full = []) -> f.full.length <= 3 -> g.parts.length <= 900 -> GS [.lst true (cD (f :: g :: fs))] = some (.non, [.lst true (cD (kI g (gQ f) :: fs))]))
  (hL : ∀ m, 0 <= m -> ∃ l, GL [.int m] = some (cZ l) /\ jC l) (hM : ∀ s : Int, s = 31 \/ s = 32 -> ∃ m, GM [S, .int i, .int s] = some (.int m) /\ 0 <= m) (h : GInv nest k fs) (hk : 4 * k + 4 <= 800) (hn : nest <= 100) :
  ∃ fs' y6 y7 y8 y9, tD GM GS GL [some S, x1, x2, some (.int nest), some (.lst true (cD fs)), some (.int i), x6, x7, x8, x9] = some (.nx, [some S, x1, x2, some (.int nest), some (.lst true (cD fs')), some (.int i), y6, y7, y8, y9]) /\ GInv nest (k + 1) fs' := by
 obtain ⟨m, hm, hm0⟩ := hM 31 (.inl rfl)
 obtain ⟨m2, hm2, hm20⟩ := hM 32 (.inr rfl)
 have hln := h.len
 cases fs with
 | nil => exact h.kinds.elim
 | cons f fs =>
  have hd := ya7 (GS := GS) (GL := GL) (x1 := x1) (x2 := x2) (x6 := x6) (x7 := x7) (x8 := x8) (x9 := x9) (nest := nest) (f := f) (fs := fs) hm
  by_cases c1 : m % 13 < 4 /\ (f :: fs).length <= nest
  ·obtain ⟨kd, n, y9, q, h1, h2⟩ := ya9 (GM := GM) (GS := GS) (GL := GL) (S := S) (x1 := x1) (x2 := x2) (x8 := some (.str (kdS f.kd))) (x9 := x9) (i := i) c1.1 c1.2 (by omega)
   exact ⟨_, _, _, _, y9, hd.trans q, h.opener h1 h2 c1.2⟩
  ·by_cases c2 : m % 13 = 4 /\ fs ≠ []
   ·cases fs with
    | nil => exact absurd rfl c2.2
    | cons g fs =>
     have hf := h.each f List.mem_cons_self
     have hg := h.parts (f := g) (List.mem_cons_of_mem _ List.mem_cons_self)
     have q := yb0 (GM := GM) (GL := GL) (S := S) (x1 := x1) (x2 := x2) (x8 := some (.str (kdS f.kd))) (x9 := x9) (nest := nest) (i := i) (hS f g fs h.kinds.1 hf.2.2.2.1 hf.2.2.1 (by omega)) c2.1
     exact ⟨_, _, _, _, _, hd.trans q, h.shut.more (by omega)⟩
   ·by_cases c3 : m % 13 < 7 /\ f.kd = 3 /\ f.full.length < 3
    ·have q := yl8 (GM := GM) (GS := GS) (GL := GL) (S := S) (x1 := x1) (x2 := x2) (x9 := x9) (i := i) c1 c2 c3.1 c3.2.1 c3.2.2
     exact ⟨_, _, _, _, _, hd.trans q, h.orr c3.2.2 c3.2.1⟩
    ·obtain ⟨l, hl, hlk⟩ := hL m2 hm20
     have q := yb1 (GM := GM) (GS := GS) (GL := GL) (S := S) (x1 := x1) (x2 := x2) (x9 := x9) (i := i) hm2 hl (by have := h.parts (f := f) List.mem_cons_self; omega) c1 c2 c3 (zt3 h.kinds)
     exact ⟨_, _, _, _, _, hd.trans q, h.leaf hlk⟩
theorem zo8 (hS : ∀ (f g : Gm) (fs : List Gm), (1 <= f.kd /\ f.kd <= 3) -> (f.kd ≠ 3 -> f.full = []) -> f.full.length <= 3 -> g.parts.length <= 900 -> GS [.lst true (cD (f :: g :: fs))] = some (.non, [.lst true (cD (kI g (gQ f) :: fs))]))
  (hL : ∀ m, 0 <= m -> ∃ l, GL [.int m] = some (cZ l) /\ jC l) (hn : nest <= 100) : ∀ (l : List Int) (fs : List Gm) (k : Nat) (x5 x6 x7 x8 x9 : Option D), (∀ j ∈ l, ∀ s : Int, s = 31 \/ s = 32 -> ∃ m, GM [S, .int j, .int s] = some (.int m) /\ 0 <= m) -> GInv nest k fs -> 4 * (k + l.length) + 4 <= 800 ->
  ∃ fs' y5 y6 y7 y8 y9, fN 5 (tD GM GS GL) (l.map .int) [some S, x1, x2, some (.int nest), some (.lst true (cD fs)), x5, x6, x7, x8, x9] = some (.nx, [some S, x1, x2, some (.int nest), some (.lst true (cD fs')), y5, y6, y7, y8, y9]) /\ GInv nest (k + l.length) fs'
 | [], fs, k, x5, x6, x7, x8, x9, _, h, _ => ⟨fs, x5, x6, x7, x8, x9, by simp [aK, aY, aR, aE, fIf, aI, fB, f2, aA, fC, aX, bJ, aV, aB, aD, bL, aG, dB, dIx, bP, dGt, D.imm, D.imms, cQ, bG, fT, cF, cV, cK, fH, fIO, aU, dX, iT, fN], h⟩
 | j :: l, fs, k, x5, x6, x7, x8, x9, hM, h, hk => by
  rw [List.length_cons] at hk
  obtain ⟨fs1, y6, y7, y8, y9, q, h1⟩ := yl9 (x1 := x1) (x2 := x2) (x6 := x6) (x7 := x7) (x8 := x8) (x9 := x9) hS hL (hM j List.mem_cons_self) h (by omega) hn
  obtain ⟨fs2, z5, z6, z7, z8, z9, q2, h2⟩ := zo8 hS hL hn l fs1 (k + 1) (some (.int j)) y6 y7 y8 y9 (fun i hi => hM i (List.mem_cons_of_mem _ hi)) h1 (by omega)
  refine ⟨fs2, z5, z6, z7, z8, z9, ?_, (show k + 1 + l.length = k + (j :: l).length by rw [List.length_cons]; omega) ▸ h2⟩
  rw [<- q2]
  show (tD GM GS GL [some S, x1, x2, some (.int nest), some (.lst true (cD fs)), some (.int j), x6, x7, x8, x9]).bind _ = _
  rw [q]; rfl
noncomputable def yY (GS : tz7) (n : Nat) : tz1 := kC (aI (fB (f2 dGt (aG bP (aB (aA 4) aD)) (fC (.int 1))))) (aV (fIO [.io 4] GS)) n
theorem zo9 {x0 x3 x5 : Option D} (hS : ∀ (f g : Gm) (fs : List Gm), (1 <= f.kd /\ f.kd <= 3) -> (f.kd ≠ 3 -> f.full = []) -> f.full.length <= 3 -> g.parts.length <= 900 -> GS [.lst true (cD (f :: g :: fs))] = some (.non, [.lst true (cD (kI g (gQ f) :: fs))])) (hk : 4 * k + 4 <= 800) :
  ∀ (n : Nat) (fs : List Gm), fs.length <= n -> GInv nest k fs -> ∃ f, yY GS n [x0, x1, x2, x3, some (.lst true (cD fs)), x5, x6, x7, x8, x9] = some (.nx, [x0, x1, x2, x3, some (.lst true (cD [f])), x5, x6, x7, x8, x9]) /\ GInv nest k [f]
 | 0, [], _, h => h.kinds.elim
 | 0, _ :: _, hl, _ => by simp [aK, aY, aR, aE, fIf, aI, fB, f2, aA, fC, aX, bJ, aV, aB, aD, bL, aG, dB, dIx, bP, dGt, D.imm, D.imms, cQ, bG, fT, cF, cV, cK, fH, fIO, aU, dX, iT] at hl
 | n + 1, [], _, h => h.kinds.elim
 | n + 1, [f], _, h => by
  refine ⟨f, ?_, h⟩
  unfold yY
  rw [kC]
  have hl : (cD [f]).length = 1 := rfl
  generalize cD [f] = N at hl |-
  simp [aK, aY, aR, aE, fIf, aI, fB, f2, aA, fC, aX, bJ, aV, aB, aD, bL, aG, dB, dIx, bP, dGt, D.imm, D.imms, cQ, bG, fT, cF, cV, cK, fH, fIO, aU, dX, iT, hl]
 | n + 1, f :: g :: fs, hl, h => by
  have hf := h.each f List.mem_cons_self
  have hg := h.parts (f := g) (List.mem_cons_of_mem _ List.mem_cons_self)
  have q := hS f g fs h.kinds.1 hf.2.2.2.1 hf.2.2.1 (by omega)
  obtain ⟨f', w, h'⟩ := zo9 (x0 := x0) (x3 := x3) (x5 := x5) hS hk n (kI g (gQ f) :: fs) (by simp [aK, aY, aR, aE, fIf, aI, fB, f2, aA, fC, aX, bJ, aV, aB, aD, bL, aG, dB, dIx, bP, dGt, D.imm, D.imms, cQ, bG, fT, cF, cV, cK, fH, fIO, aU, dX, iT] at hl |-; omega) h.shut
  refine ⟨f', ?_, h'⟩
  rw [<- w]
  have hl2 : (cD (f :: g :: fs)).length = fs.length + 1 + 1 := by rw [nX]; rfl
  have hpos : (1 : Int) < ((fs.length : Int) + 1 + 1) := by omega
  show kC _ _ (n + 1) _ = _
  rw [kC]
  generalize cD (f :: g :: fs) = N at q hl2 |-
  generalize cD (kI g (gQ f) :: fs) = M at q |-
  simp [aK, aY, aR, aE, fIf, aI, fB, f2, aA, fC, aX, bJ, aV, aB, aD, bL, aG, dB, dIx, bP, dGt, D.imm, D.imms, cQ, bG, fT, cF, cV, cK, fH, fIO, aU, dX, iT, hl2, hpos, q, yY]
noncomputable def yz1 (n : Nat) (GM : tz6) (GS : tz7) (GL : tz6) : tz1 :=
 aK (aR 4 (aE (bL (aB (bL (aB (fC (.str "top")) (aB (fC (.int 0)) (aB (bL aD) (aB (bL aD) aD))))) aD)))) (aK (kH 5 (vP (aB (aA 1) (aB (f2 bG (aA 1) (aA 2)) aD))) (tD GM GS GL)) (aK (yY GS n) (bJ (aE (aG cQ (aB (f2 dIx (f2 dIx (aA 4) (fC (.int 0))) (fC (.int 3))) aD))))))
structure RowOk (nest w : Nat) (r : List Pc) : Prop where
 ok : okR r
 dep : cT r <= nest
 len : (bO r).length <= w
theorem yu3 {a many n : Nat} (hS : ∀ (f g : Gm) (fs : List Gm), (1 <= f.kd /\ f.kd <= 3) -> (f.kd ≠ 3 -> f.full = []) -> f.full.length <= 3 -> g.parts.length <= 900 -> GS [.lst true (cD (f :: g :: fs))] = some (.non, [.lst true (cD (kI g (gQ f) :: fs))]))
  (hL : ∀ m, 0 <= m -> ∃ l, GL [.int m] = some (cZ l) /\ jC l) (hM : ∀ j s : Int, (a : Int) <= j /\ j < a + many -> s = 31 \/ s = 32 -> ∃ m, GM [S, .int j, .int s] = some (.int m) /\ 0 <= m) (hn : nest <= 100) (hmany : many <= 90) (ha : a <= 1000) (hnn : nest < n) :
  ∃ r, gP 4 6 (yz1 n GM GS GL) [S, .int a, .int many, .int nest] = some (.tup (aQ r)) /\ RowOk nest (4 * many) r := by
 have i0 : GInv nest 0 [⟨0, 0, [], []⟩] := ⟨by simp [aK, aY, aR, aE, fIf, aI, fB, f2, aA, fC, aX, bJ, aV, aB, aD, bL, aG, dB, dIx, bP, dGt, D.imm, D.imms, cQ, bG, fT, cF, cV, cK, fH, fIO, aU, dX, iT], by decide, fun f hf => by rw [List.mem_singleton.mp hf]; exact ⟨trivial, trivial, Nat.zero_le _, fun _ => rfl, Int.le_refl _, by decide⟩, rfl, ⟨Nat.zero_le _, Nat.zero_le _, trivial⟩⟩
 obtain ⟨fs1, y5, y6, y7, y8, y9, q, h1⟩ := zo8 (GM := GM) (GS := GS) (GL := GL) (S := S) (x1 := some (.int a)) (x2 := some (.int many)) hS hL hn ((List.range many).map fun (k : Nat) => (a : Int) + (k : Int)) [⟨0, 0, [], []⟩] 0 none none none none none
  (fun j hj s hs => by obtain ⟨k, hk, rfl⟩ := List.mem_map.mp hj; have := List.mem_range.mp hk; exact hM _ s (by omega) hs) i0 (by simp; omega)
 rw [<- yq4] at q
 rw [List.length_map, List.length_range, Nat.zero_add] at h1
 have hln := h1.len
 obtain ⟨f, w, h2⟩ := zo9 (GS := GS) (x0 := some S) (x1 := some (.int a)) (x2 := some (.int many)) (x3 := some (.int nest)) (x5 := y5) (x6 := y6) (x7 := y7) (x8 := y8) (x9 := y9) hS (by omega) n fs1 (by omega) h1
 have hf := h2.each f List.mem_cons_self
 have hd := h2.deep.1
 have hwt : wF f + 0 <= 4 * many + 4 := h2.wt
 refine ⟨f.parts, ?_, hf.2.1, by simpa using hd, by unfold wF at hwt; omega⟩
 have e : ((a : Int) + (many : Int) - (a : Int)).toNat = many := by omega
 have s0 : aR 4 (aE (bL (aB (bL (aB (fC (.str "top")) (aB (fC (.int 0)) (aB (bL aD) (aB (bL aD) aD))))) aD))) [some S, some (.int a), some (.int many), some (.int nest), none, none, none, none, none, none] = some (.nx, [some S, some (.int a), some (.int many), some (.int nest), some (.lst true (cD [⟨0, 0, [], []⟩])), none, none, none, none, none]) := cA rfl
 have s1 : kH 5 (vP (aB (aA 1) (aB (f2 bG (aA 1) (aA 2)) aD))) (tD GM GS GL) [some S, some (.int a), some (.int many), some (.int nest), some (.lst true (cD [⟨0, 0, [], []⟩])), none, none, none, none, none] = some (.nx, [some S, some (.int a), some (.int many), some (.int nest), some (.lst true (cD fs1)), y5, y6, y7, y8, y9]) := by
  have e1 : aB (aA 1) (aB (f2 bG (aA 1) (aA 2)) aD) [some S, some (.int a), some (.int many), some (.int nest), some (.lst true (cD [⟨0, 0, [], []⟩])), none, none, none, none, none] = some [.int a, .int ((a : Int) + (many : Int))] := rfl
  unfold kH vP
  rw [e1, Option.bind_some, yk8 (by omega) (by omega) (by omega) (by omega), e]
  exact q
 have s3 : aG cQ (aB (f2 dIx (f2 dIx (aA 4) (fC (.int 0))) (fC (.int 3))) aD) [some S, some (.int a), some (.int many), some (.int nest), some (.lst true (cD [f])), y5, y6, y7, y8, y9] = some (.tup (aQ f.parts)) := by
  show aG cQ (aB (f2 dIx (f2 dIx (aA 4) (fC (.int 0))) (fC (.int 3))) aD) [some S, some (.int a), some (.int many), some (.int nest), some (.lst true [.lst true [.str (kdS f.kd), .int f.n, .lst true (cI f.full), .lst true (aQ f.parts)]]), y5, y6, y7, y8, y9] = _
  simp [aK, aY, aR, aE, fIf, aI, fB, f2, aA, fC, aX, bJ, aV, aB, aD, bL, aG, dB, dIx, bP, dGt, D.imm, D.imms, cQ, bG, fT, cF, cV, cK, fH, fIO, aU, dX, iT, dZ]
 have z := (aF s0).trans ((aF s1).trans ((aF w).trans (eH s3)))
 exact jA rfl z
end
noncomputable abbrev zl2 (GM GL : tz6) : tz6 := gP 4 6 (zk7 GM yW GL)
theorem yq8 {GM GL : tz6} {S : D} {nest a many : Nat} (hL : ∀ m, 0 <= m -> ∃ l, GL [.int m] = some (cZ l) /\ jC l) (hM : ∀ j s : Int, (a : Int) <= j /\ j < a + many -> s = 31 \/ s = 32 -> ∃ m, GM [S, .int j, .int s] = some (.int m) /\ 0 <= m) (hn : nest <= 100) (hmany : many <= 90) (ha : a <= 1000) :
  ∃ r, zl2 GM GL [S, .int a, .int many, .int nest] = some (.tup (aQ r)) /\ RowOk nest (4 * many) r := by
 obtain ⟨r, h1, h2⟩ := yu3 (n := 400) (GS := yW) (fun f g fs h1 h2 h3 h4 => ye7 h1 h2 h3 h4) hL hM hn hmany ha (Nat.lt_of_le_of_lt hn (by decide))
 exact ⟨r, h1, h2⟩
end My
namespace My
open PySem PySem.Spec PyProof.Rows L2 L3
theorem yq9 {j k : Int} (h0 : 0 <= j) (h1 : j < 100) : iN (.int j) (.int k) = some (.int (j * k)) := by
 rw [iN, if_pos]
 unfold uM
 rw [decide_eq_true (by omega), decide_eq_true (by omega)]; rfl
theorem yw3 {k : Int} {c : Nat} (h : atI sg.cps.toList k = some c) : dIx (.str sg) (.int k) = some (.str ⟨#[c]⟩) := by
 rw [dIx, if_pos yk5, h]; rfl
theorem zj8 {m : Int} : ∀ (l : List Int) (w : Str) (x2 x4 x5 : Option D), (∀ j ∈ l, 0 <= j /\ j < 100) -> w.length + l.length <= 100 -> w.cps.toList.all vR = true ->
  ∃ w' x4' x5', fN 4 (aK (aR 5 (aE (f2 bG (f2 gJ (aA 0) (fC (.int 12))) (f2 iN (aA 4) (f2 eB (f2 gJ (aA 0) (fC (.int 9000))) (fC (.int 93))))))) (aR 3 (aE (f2 bG (aA 3) (f2 dIx (aA 1) (f2 eB (aA 5) (fC (.int 93)))))))) (l.map .int) [some (.int m), some (.str sg), x2, some (.str w), x4, x5]
   = some (.nx, [some (.int m), some (.str sg), x2, some (.str w'), x4', x5']) /\ w'.length = w.length + l.length /\ w'.cps.toList.all vR = true
 | [], w, x2, x4, x5, _, _, hw => ⟨w, x4, x5, rfl, rfl, hw⟩
 | j :: l, w, x2, x4, x5, hj, hl, hw => by
  rw [List.length_cons] at hl
  have hj0 := hj j List.mem_cons_self
  obtain ⟨c, hc, hg⟩ := yt8 ((m / 12 + j * (m / 9000 % 93)) % 93) (Int.emod_nonneg _ (by decide)) (Int.emod_lt_of_pos _ (by decide))
  have hw1 : (w ++ (⟨#[c]⟩ : Str)).length = w.length + 1 := by rw [eD]; rfl
  obtain ⟨w', x4', x5', q1, q2, q3⟩ := zj8 (m := m) l (w ++ ⟨#[c]⟩) x2 (some (.int j)) (some (.int (m / 12 + j * (m / 9000 % 93)))) (fun i hi => hj i (List.mem_cons_of_mem _ hi)) (by rw [hw1]; omega) (by rw [eC, List.all_append, hw]; simp [gP, aK, aY, aR, aE, fIf, aI, fB, f2, aA, fC, aX, bJ, eZ, aB, aD, bL, cU, fKs, aG, dEq, dNe, eqB, dB, dIx, bP, kH, pA, D.imm, D.imms, cQ, bG, iN, fT, cF, bF, cV, cK, fH, dLt, dLe, dGt, dGe, dC, dU, pF, yO, D.flat, uM, hg])
  refine ⟨w', x4', x5', ?_, by rw [q2, hw1, List.length_cons]; omega, q3⟩
  rw [<- q1]
  have hz : w.length + (⟨#[c]⟩ : Str).length <= sizeLine := sz (by show w.length + 1 <= 1000; omega)
  have s1 : aR 5 (aE (f2 bG (f2 gJ (aA 0) (fC (.int 12))) (f2 iN (aA 4) (f2 eB (f2 gJ (aA 0) (fC (.int 9000))) (fC (.int 93)))))) [some (.int m), some (.str sg), x2, some (.str w), some (.int j), x5] = some (.nx, [some (.int m), some (.str sg), x2, some (.str w), some (.int j), some (.int (m / 12 + j * (m / 9000 % 93)))]) :=
   cA (aT (aT rfl rfl ((dU _ _).trans (if_pos (by decide)))) (aT rfl (aT (aT rfl rfl ((dU _ _).trans (if_pos (by decide)))) rfl ((dC _ _).trans (if_pos (by decide)))) (yq9 hj0.1 hj0.2)) rfl)
  have s2 : aR 3 (aE (f2 bG (aA 3) (f2 dIx (aA 1) (f2 eB (aA 5) (fC (.int 93)))))) [some (.int m), some (.str sg), x2, some (.str w), some (.int j), some (.int (m / 12 + j * (m / 9000 % 93)))] = some (.nx, [some (.int m), some (.str sg), x2, some (.str (w ++ ⟨#[c]⟩)), some (.int j), some (.int (m / 12 + j * (m / 9000 % 93)))]) := by
   refine cA (aT rfl (aT rfl (aT rfl rfl ((dC _ _).trans (if_pos (by decide)))) (yw3 hc)) ?_)
   show (if w.length + (⟨#[c]⟩ : Str).length <= sizeLine then some (D.str (w ++ ⟨#[c]⟩)) else none) = _
   exact if_pos hz
  show ((aK _ _ [some (.int m), some (.str sg), x2, some (.str w), some (.int j), x5]).bind _) = _
  rw [(aF s1).trans s2]; rfl
noncomputable abbrev zu2 : tz6 := gP 1 5 zc8
theorem ym0 {m : Int} (hm : 0 <= m) : ∃ z, zu2 [.int m] = some (.str z) /\ zk5 z := by
 obtain ⟨s, hs, h1, h2⟩ := yk6 m
 obtain ⟨w, x4, x5, q1, q2, q3⟩ := zj8 (m := m) ((List.range s.toNat).map fun (k : Nat) => (k : Int)) "" (some (.int s)) none none
  (fun j hj => by obtain ⟨k, hk, rfl⟩ := List.mem_map.mp hj; have := List.mem_range.mp hk; omega) (by rw [List.length_map, List.length_range]; show 0 + _ <= 100; omega) (by decide +kernel)
 rw [<- yq2] at q1
 rw [List.length_map, List.length_range] at q2
 have q2' : w.length = s.toNat := by rw [q2]; show 0 + _ = _; omega
 refine ⟨w, ?_, by omega, by omega, q3⟩
 have hz : (Str.ofString "abcdefghijklmnopqrstuvwxyzABCDEFGHIJKLMNOPQRSTUVWXYZ0123456789").length + (Str.ofString "!\"#$&'()*+,-./:;<=>?\x40[\\]^_`{|}~").length <= sizeLine := by decide +kernel
 have e1 : Str.ofString "abcdefghijklmnopqrstuvwxyzABCDEFGHIJKLMNOPQRSTUVWXYZ0123456789" ++ Str.ofString "!\"#$&'()*+,-./:;<=>?\x40[\\]^_`{|}~" = sg := rfl
 have s2 : aR 1 (aE (f2 bG (aA 1) (fC (.str "!\"#$&'()*+,-./:;<=>?\x40[\\]^_`{|}~")))) [some (.int m), some (.str "abcdefghijklmnopqrstuvwxyzABCDEFGHIJKLMNOPQRSTUVWXYZ0123456789"), none, none, none, none] = some (.nx, [some (.int m), some (.str sg), none, none, none, none]) := by
  refine cA (aT rfl rfl ?_)
  rw [<- e1]
  exact if_pos (e := none) hz
 have s3 : aR 2 (aE (f2 dIx (bL (fKs [.int 1, .int 2, .int 3, .int 4, .int 5, .int 6, .int 7, .int 8, .int 10, .int 11, .int 9, .int 12])) (f2 eB (aA 0) (fC (.int 12))))) [some (.int m), some (.str sg), none, none, none, none] = some (.nx, [some (.int m), some (.str sg), some (.int s), none, none, none]) := cA (aT (eY rfl (Nat.le_of_ble_eq_true rfl)) (aT rfl rfl ((dC _ _).trans (if_pos (by decide)))) hs)
 have s5 : kH 4 (pF (aB (aA 2) aD)) (aK (aR 5 (aE (f2 bG (f2 gJ (aA 0) (fC (.int 12))) (f2 iN (aA 4) (f2 eB (f2 gJ (aA 0) (fC (.int 9000))) (fC (.int 93))))))) (aR 3 (aE (f2 bG (aA 3) (f2 dIx (aA 1) (f2 eB (aA 5) (fC (.int 93)))))))) [some (.int m), some (.str sg), some (.int s), some (.str ""), none, none] = some (.nx, [some (.int m), some (.str sg), some (.int s), some (.str w), x4, x5]) := by
  have er : pF (aB (aA 2) aD) [some (.int m), some (.str sg), some (.int s), some (.str ""), none, none] = some (lR 0 s.toNat) := yk9 (by omega) (by omega)
  unfold kH
  rw [er]; exact q1
 exact jA rfl ((aF (cA rfl)).trans ((aF s2).trans ((aF s3).trans ((aF (cA rfl)).trans ((aF s5).trans rfl)))))
noncomputable abbrev tF : tz6 := gP 1 1 (uQ zu2)
theorem ym1 {m : Int} (hm : 0 <= m) : ∃ l, tF [.int m] = some (cZ l) /\ jC l := by
 have hd : 0 <= m / 16 := Int.ediv_nonneg hm (by decide)
 have s1 : aR 1 (aE (f2 gJ (aA 0) (fC (.int 16)))) [some (.int m), none] = some (.nx, [some (.int m), some (.int (m / 16))]) := cA (aT rfl rfl ((dU _ _).trans (if_pos (by decide))))
 have md : f2 eB (aA 0) (fC (.int 16)) [some (.int m), some (.int (m / 16))] = some (.int (m % 16)) := aT rfl rfl ((dC _ _).trans (if_pos (by decide)))
 have t : ∀ c : Int, fB (f2 dLt (f2 eB (aA 0) (fC (.int 16))) (fC (.int c))) [some (.int m), some (.int (m / 16))] = some (decide (m % 16 < c)) := fun c => fL (aT md rfl rfl)
 have out : ∀ {p : PSt} (l : Leaf), uQ zu2 [some (.int m), none] = some (.ret (cZ l), p) -> tF [.int m] = some (cZ l) := fun l h => jA rfl h
 have t8 := t 8
 have t13 := t 13
 by_cases c1 : m % 16 < 8
 ·obtain ⟨z, q, hz⟩ := ym0 hd
  rw [decide_eq_true c1] at t8
  exact ⟨.word z, out (.word z) ((aF s1).trans (eN ((dI t8).trans (eH (lN (aJ rfl (aJ (bU (aJ rfl rfl) q) rfl)) rfl (Nat.le_of_ble_eq_true rfl)))))), hz⟩
 ·rw [decide_eq_false c1] at t8
  by_cases c2 : m % 16 < 13
  ·obtain ⟨x, q, hx⟩ := yq3 (m / 16)
   rw [decide_eq_true c2] at t13
   exact ⟨.gap x, out (.gap x) ((aF s1).trans ((aF (bN t8)).trans (eN ((dI t13).trans (eH (lN (aJ rfl (aJ (aT (eY rfl (Nat.le_of_ble_eq_true rfl)) (aT rfl rfl ((dC _ _).trans (if_pos (by decide)))) q) rfl)) rfl (Nat.le_of_ble_eq_true rfl))))))), hx⟩
  ·rw [decide_eq_false c2] at t13
   have te : fB (f2 dEq (f2 eB (aA 0) (fC (.int 16))) (fC (.int 13))) [some (.int m), some (.int (m / 16))] = some (decide (m % 16 = 13)) := fL (aT md rfl rfl)
   by_cases c3 : m % 16 = 13
   ·rw [decide_eq_true c3] at te
    exact ⟨.fin, out .fin ((aF s1).trans ((aF (bN t8)).trans ((aF (bN t13)).trans (eN ((dI te).trans (eH rfl)))))), trivial⟩
   ·rw [decide_eq_false c3] at te
    have ha := Int.emod_nonneg (m / 16 / 2) (show (10 : Int) ≠ 0 by decide)
    have hb := Int.emod_lt_of_pos (m / 16 / 2) (show (0 : Int) < 10 by decide)
    have hc := Int.emod_nonneg (m / 16 / 2) (show (41 : Int) ≠ 0 by decide)
    have he := Int.emod_lt_of_pos (m / 16 / 2) (show (0 : Int) < 41 by decide)
    obtain ⟨c, q, h1, h2⟩ := yk7 (m / 16 / 2 % 10) (m / 16 / 2 % 41) (m / 16) ⟨ha, Int.le_trans (Int.le_of_lt hb) (by decide)⟩ ⟨hc, Int.le_of_lt_add_one he⟩
    have dv : f2 gJ (aA 1) (fC (.int 2)) [some (.int m), some (.int (m / 16))] = some (.int (m / 16 / 2)) := aT rfl rfl ((dU _ _).trans (if_pos (by decide)))
    exact ⟨.stop c, out (.stop c) ((aF s1).trans ((aF (bN t8)).trans ((aF (bN t13)).trans ((aF (bN te)).trans (eH (lN (aJ rfl (aJ (aT (eY (aJ (aT dv rfl ((dC _ _).trans (if_pos (by decide)))) (aJ (aT dv rfl ((dC _ _).trans (if_pos (by decide)))) rfl)) (Nat.le_of_ble_eq_true rfl)) (aT rfl rfl ((dC _ _).trans (if_pos (by decide)))) q) rfl)) rfl (Nat.le_of_ble_eq_true rfl))))))), h1, h2⟩
end My
namespace My
open PySem PySem.Spec PyProof.Rows L2 L3
theorem zt4 {GM GC : tz6} {S : D} {k1 k2 nest a many : Nat} (h1 : nest < k1) (h2 : nest < k2) (hn : nest <= 8) (hmany : many <= 90) (ha : a + many <= 1000) (hS : S.imm = true) (hM : ∀ j s : Int, 0 <= j -> j < 1000 -> 0 <= s -> s < 1000 -> ∃ a, GM [S, .int j, .int s] = some (.int a) /\ 0 <= a) (hC : ∀ j : Int, 0 <= j -> j < 1000 -> ∃ a, GC [S, .int j] = some (.int a)) :
  ∃ r, zl2 GM tF [S, .int a, .int many, .int nest] = some (.tup (aQ r)) /\ RowOk nest (4 * many) r /\ uU S (jF (kB GM GC) k1) r /\ ∀ salt : Int, 0 <= salt -> salt <= 900 ->
   ∃ C t, rY (jF (kB GM GC) k1) [S, .tup (aQ r), .int salt] = some (.tup [.str t, .tup (bW C)]) /\ eP true 0 r C ⟨#[]⟩ = some ([], t) /\ C.length <= 360 /\ rX k2 [.tup (aQ r), .tup (bW C)] = some (.str t) /\ t.length <= 900000 /\ ∀ c ∈ C, 0 <= c /\ c < 4 := by
 obtain ⟨r, qr, hr⟩ := yq8 (GM := GM) (GL := tF) (S := S) (nest := nest) (a := a) (many := many) (fun m hm => ym1 hm) (fun j s hj hs => hM j s (by omega) (by omega) (by omega) (by omega)) (Nat.le_trans hn (by decide)) hmany (by omega)
 have hdr : vV S (kB GM GC) := fun t cs n many salt h1 h2 h3 h4 h5 => yl5 hM hC h1 h2 h3 h4 h5
 have hLR := zo4 hS hdr k1 r (Nat.lt_of_le_of_lt hr.dep h1) hr.ok
 have h8 := Nat.le_trans hr.dep hn
 have hl : (bO r).length <= 360 := Nat.le_trans hr.len (by omega)
 have hl8 : (bO r).length <= 800 := Nat.le_trans hl (by decide)
 refine ⟨r, qr, hr, hLR, fun salt s0 s1 => ?_⟩
 obtain ⟨C, t, d, g, len, ht, hc⟩ := yf7 (S := S) hS hLR h8 hl8 s0 s1
 exact ⟨C, t, d, g, Nat.le_trans len hl, ya2 (n := k2) (Nat.lt_of_le_of_lt hr.dep h2) (Nat.le_trans h8 (by decide)) hr.ok hl8 g, ht, hc⟩
end My
namespace My
open PySem PySem.Spec PyProof.Rows L2 L3
theorem jX {f : tz1} {fx : tz5} {p p' : PSt} (h : f p = some (.nx, p')) : iU f fx p = fx p' := by unfold iU; rw [h]
theorem yf9 {C m : Str} {fo : tz2} {g : List D -> Bool} {p : PSt} {d : D} (h : eS C m fo p = some d) : vQ C m fo g p = g [d] := by unfold vQ; rw [h]
theorem rT {c : tz4} {fx : tz5} {p : PSt} (h : c p = some true) : rE c fx p = fx p := by unfold rE; rw [h]
theorem zj9 {f g : tz5} {p : PSt} (h : f p = true) : rF f g p = true := by unfold rF; rw [h]; rfl
theorem zk0 {f g : tz5} {p : PSt} (h : g p = true) : rF f g p = true := by unfold rF; rw [h, Bool.or_true]
theorem pW {j : Nat} {ga : tz3} {h : List D -> D -> Bool} {p : PSt} {d0 : D} {ys : List D} (hd : p[j]? = some (some d0)) (hg : ga p = some ys) (hh : h ys d0 = true) : lS j aP ga h p = true := by
 have e : bM (sX h ys) d0 [] = some ((), d0) := by
  show sX h ys d0 = _
  unfold sX
  rw [if_pos hh]
 unfold lS
 rw [hd, hg]
 show (bM (sX h ys) d0 []).isSome = true
 rw [e]; rfl
theorem pX {g : List D -> Bool} {m : Str} {C : List Int} {u : Nat} {ps : List Str} {ys : List D} (hm : bI nsS m = none) (h : g (stD C u ps :: ys) = true) : kD "Setter" m g ys (stD C u ps) = true := by
 show (decide (("Setter" : Str) = "Setter" /\ bI nsS m = none) && g (stD C u ps :: ys)) = true
 rw [h, decide_eq_true ⟨rfl, hm⟩]; rfl
theorem qR {np n : Nat} {fx : tz5} {ds : List D} (hl : ds.length = np) (h : fx (ds.map some ++ List.replicate n none) = true) : gX np n fx ds = true := by
 unfold gX
 rw [h, decide_eq_true hl]; rfl
theorem vM {C : List Int} {u : Nat} {ps : List Str} {p : PSt} (h : p[0]? = some (some (stD C u ps))) : cL "Setter" "used" (aA 0) p = some (.int u) := by
 unfold cL
 rw [mQ h]
 unfold stD
 simp [iA, bI, bF]
theorem yI {C : List Int} {u : Nat} {ps : List Str} {p : PSt} (h : p[0]? = some (some (stD C u ps))) : cL "Setter" "choices" (aA 0) p = some (.tup (bW C)) := by
 unfold cL
 rw [mQ h]
 unfold stD
 simp [iA, bI, bF]
theorem yb2 {C : List Int} {u : Nat} {ps : List Str} {p : PSt} (h : p[0]? = some (some (stD C u ps))) : cL "Setter" "column" (aA 0) p = some (.int (col (cat ps))) := by
 unfold cL
 rw [mQ h]
 unfold stD
 simp [iA, bI, bF]
theorem za0 {C : List Int} {u : Nat} {ps : List Str} {p : PSt} (h : p[0]? = some (some (stD C u ps))) : aG bP (aB (cL "Setter" "choices" (aA 0)) aD) p = some (.int (C.length : Nat)) := by
 refine bU (ds := [.tup (bW C)]) (aJ (yI h) rfl) ?_
 show some (D.int ((bW C).length : Nat)) = _
 rw [qP]
noncomputable abbrev zp2 : List D -> Bool := gX 1 0 mU
theorem yb3 {C : List Int} {u : Nat} {ps : List Str} (hu : u < C.length) : zp2 [stD C u ps] = true := by
 refine qR rfl ((rT (fL (aT (vM rfl) (za0 rfl) ?_))).trans rfl)
 show some (D.bl (decide ((u : Int) < (C.length : Nat)))) = _
 rw [decide_eq_true (by omega)]
noncomputable abbrev kG : List D -> Bool := gX 3 1 (nL qD)
theorem yb4 {C : List Int} {u : Nat} {ps : List Str} {l : Leaf} {b : Bool} {m : Int} (hl : jC l) (h0 : 0 <= m) (h1 : m <= 200) (hw : wr b m (col (cat ps)) l = none) (hc : (cat ps).length <= 1000000) : kG [stD C u ps, cZ l, aN b m] = true := by
 have q1 := xY l b m (col (cat ps)) hl h0 h1 (Nat.le_trans (zz4 _) hc)
 rw [hw] at q1
 refine qR rfl ((jX (cA (bU (aJ rfl (aJ rfl (aJ (yb2 rfl) rfl))) q1))).trans ((rT (fL (aT rfl rfl rfl))).trans rfl))
noncomputable def pI (c : Int) : Prop := c.natAbs.log2 < 1920
theorem zk1 {c : Int} (h : c.natAbs < 2 ^ 1900) : pI c := by
 unfold pI
 by_cases z : c.natAbs = 0
 ·rw [z]; decide
 ·exact Nat.lt_trans ((Nat.log2_lt z).mpr h) (by decide)
noncomputable abbrev vW : List D -> Bool := gX 2 1 lU
theorem yJ {C : List Int} {u n : Nat} {ps : List Str} (hu : C.length <= u) : vW [stD C u ps, .int n] = true := by
 refine qR rfl (zj9 ((rT (fL (aT (vM rfl) (za0 rfl) ?_))).trans rfl))
 show some (D.bl (decide ((C.length : Nat) <= (u : Int)))) = _
 rw [decide_eq_true (by omega)]
theorem yK {C : List Int} {u n : Nat} {c : Int} {ps : List Str} (hc : C[u]? = some c) (h : c < 0 \/ (n : Int) <= c) (hs : pI c) (hn : n <= 1000) : vW [stD C u ps, .int n] = true := by
 obtain ⟨hu, _⟩ := List.getElem?_eq_some_iff.mp hc
 have e : atI (bW C) (u : Int) = some (.int c) := lI (by unfold bW; rw [List.getElem?_map, hc]; rfl)
 have t1 : fB (f2 dGe (cL "Setter" "used" (aA 0)) (aG bP (aB (cL "Setter" "choices" (aA 0)) aD))) [some (stD C u ps), some (.int n), none] = some false := by
  refine fL (aT (vM rfl) (za0 rfl) ?_)
  show some (D.bl (decide ((C.length : Nat) <= (u : Int)))) = _
  rw [decide_eq_false (by omega)]
 have s2 : aR 2 (aE (aX (f2 dIx (cL "Setter" "choices" (aA 0)) (cL "Setter" "used" (aA 0))))) [some (stD C u ps), some (.int n), none] = some (.nx, [some (stD C u ps), some (.int n), some (.int c)]) := cA (eT (aT (yI rfl) (vM rfl) e) rfl)
 have sn : pI (n : Int) := zk1 (by show n < _; exact Nat.lt_of_le_of_lt hn (by decide +kernel))
 refine qR rfl (zk0 ((jX (bN t1)).trans ((jX s2).trans ((rT ?_).trans ?_))))
 ·have a1 : fB (f2 dLt (aA 2) (fC (.int 0))) [some (stD C u ps), some (.int n), some (.int c)] = some (decide (c < 0)) := fL (aT rfl rfl rfl)
  have a2 : fB (f2 dGe (aA 2) (aA 1)) [some (stD C u ps), some (.int n), some (.int c)] = some (decide ((n : Int) <= c)) := fL (aT rfl rfl rfl)
  by_cases h1 : c < 0
  ·rw [decide_eq_true h1] at a1
   exact yt9 a1
  ·rw [decide_eq_false h1] at a1
   rw [decide_eq_true (h.resolve_left h1)] at a2
   exact zs5 a1 a2
 ·show (decide (c.natAbs.log2 < 1920) && (decide ((n : Int).natAbs.log2 < 1920) && true)) = true
  rw [decide_eq_true (show c.natAbs.log2 < 1920 from hs), decide_eq_true (show (n : Int).natAbs.log2 < 1920 from sn)]; rfl
noncomputable abbrev lG (GX : List D -> Bool) : List D -> Bool := gX 3 3 (mT tB mB iQ vW GX)
section
variable {GX : List D -> Bool} {p : Pc} {b : Bool} {m : Int} {C : List Int} {u : Nat} {ps : List Str}
theorem xA {W : D} {x4 x5 : Option D} (hp : lF p = true) : fT (aG mB (aB (aA 1) (aB (aA 2) aD))) [some (stD C u ps), some (pcD p), some (aN b m), some W, x4, x5] = some (oV b p) := qN (bU (aJ rfl (aJ rfl rfl)) (zi7 p b m hp))
theorem yL {F : tz5} (hp : lF p = true) (hn : kN p <= 1000) : iU (aR 3 (aE (aG tB (aB (aA 1) (aB (aA 2) aD))))) (iU (aR 4 (aE (fC (.int 0)))) F) [some (stD C u ps), some (pcD p), some (aN b m), none, none, none] = F [some (stD C u ps), some (pcD p), some (aN b m), some (.lst true ((iE b m p).map fU)), some (.int 0), none] :=
 (jX (cA (bU (aJ rfl (aJ rfl rfl)) (zo0 p b m hp hn)))).trans (jX rfl)
theorem qS (hp : lF p = true) (hn : kN p <= 1000) (ht : oV b p = true) (h : vW [stD C u ps, .int ((iE b m p).length : Nat)] = true) : lG GX [stD C u ps, pcD p, aN b m] = true := by
 refine qR rfl ((yL hp hn).trans (zj9 ((rT ((xA hp).trans (by rw [ht]))).trans ?_)))
 refine pW (ys := [.int ((iE b m p).length : Nat)]) rfl (dD (bU (ds := [.lst true ((iE b m p).map fU)]) (aJ rfl rfl) ?_) rfl fS) (pX (by simp [bI, bF]) h)
 show some (D.int (((iE b m p).map fU).length : Nat)) = _
 rw [List.length_map]
theorem sQ {u1 i : Nat} {x : List Pc × Bool × Int} (hp : lF p = true) (hn : kN p <= 1000) (hi : (iE b m p)[i]? = some x)
  (hc : (oV b p = true /\ C[u]? = some (i : Int) /\ u1 = u + 1) \/ (oV b p = false /\ i = 0 /\ u1 = u)) (h : GX [stD C u1 ps, .tup (aQ x.1), aN x.2.1 x.2.2] = true) : lG GX [stD C u ps, pcD p, aN b m] = true := by
 have hil : i < ((iE b m p).map fU).length := by rw [List.length_map]; exact (List.getElem?_eq_some_iff.mp hi).1
 have e1 : atI ((iE b m p).map fU) (i : Int) = some (fU x) := lI (by rw [List.getElem?_map, hi]; rfl)
 have hw := vG x
 refine qR rfl ((yL hp hn).trans (zk0 ?_))
 generalize hW : (iE b m p).map fU = W at hil e1
 have s3 : fIf (aI (fT (aG mB (aB (aA 1) (aB (aA 2) aD))))) (aR 4 (bE 0 aP (aU [.im (aG bP (aB (aA 3) aD))]) (eO "Setter" "choice_below" iQ))) aY [some (stD C u ps), some (pcD p), some (aN b m), some (.lst true W), some (.int 0), none] = some (.nx, [some (stD C u1 ps), some (pcD p), some (aN b m), some (.lst true W), some (.int (i : Int)), none]) := by
  rcases hc with ⟨hT, hC, rfl⟩ | ⟨hT, rfl, rfl⟩
  ·have qb := zi9 (ps := ps) hC (by omega) (show (i : Int) < (W.length : Nat) by omega)
   have hb : eO "Setter" "choice_below" iQ [.int (W.length : Nat)] (stD C u ps) = some (.int (i : Int), stD C (u + 1) ps) := by
    show (if (("Setter" : Str) = "Setter" /\ bI nsS "choice_below" = none) then (iQ [stD C u ps, .int (W.length : Nat)]).bind _ else none) = _
    rw [if_pos ⟨rfl, by simp [bI, bF]⟩, qb]; rfl
   refine (dI ((xA hp).trans (by rw [hT]))).trans ?_
   have em : bE 0 aP (aU [.im (aG bP (aB (aA 3) aD))]) (eO "Setter" "choice_below" iQ) [some (stD C u ps), some (pcD p), some (aN b m), some (.lst true W), some (.int 0), none] = some (.int (i : Int), [some (stD C (u + 1) ps), some (pcD p), some (aN b m), some (.lst true W), some (.int 0), none]) := by
    unfold bE
    rw [dD (f := aG bP (aB (aA 3) aD)) (p := [some (stD C u ps), some (pcD p), some (aN b m), some (.lst true W), some (.int 0), none]) (d := .int (W.length : Nat)) (bU (ds := [.lst true W]) (aJ rfl rfl) rfl) rfl fS]
    show ((eO "Setter" "choice_below" iQ [.int (W.length : Nat)] (stD C u ps)).bind _) = _
    rw [hb]; rfl
   unfold aR
   rw [em]; rfl
  ·exact (bN ((xA hp).trans (by rw [hT])))
 have s4 : aR 5 (aE (aX (f2 dIx (aA 3) (aA 4)))) [some (stD C u1 ps), some (pcD p), some (aN b m), some (.lst true W), some (.int (i : Int)), none] = some (.nx, [some (stD C u1 ps), some (pcD p), some (aN b m), some (.lst true W), some (.int (i : Int)), some (fU x)]) := cA (eT (aT rfl rfl e1) hw)
 refine (jX s3).trans ((jX s4).trans ?_)
 exact pW (ys := [.tup (aQ x.1), aN x.2.1 x.2.2]) rfl (dD (aT rfl rfl (cV _ _)) (dZ x.1) (dD (aT rfl rfl (cK _ _ _)) (jB _ _) fS)) (pX (by simp [bI, bF]) h)
end
noncomputable abbrev oN (GHX GPX : List D -> Bool) : tz5 :=
   pH (fT (aG lZ (aB (aA 3) aD)))
   (lS 0 aP (aU [.im (aA 3), .im (aA 2)]) (kD "Setter" "set_holder" GHX))
   (lS 0 aP (aU [.im (aA 3), .im (aA 2)]) (kD "Setter" "set_plain" GPX))
section
variable {GHX GPX : List D -> Bool} {C : List Int} {u : Nat} {ps : List Str} {p : Pc} {b : Bool} {m : Int} {R : Option D}
theorem mS (hp : lF p = true) (h : GHX [stD C u ps, pcD p, aN b m] = true) : oN GHX GPX [some (stD C u ps), R, some (aN b m), some (pcD p)] = true := by
 have q := sM p
 rw [hp] at q
 show pH _ _ _ _ = true
 unfold pH
 rw [qN (bU (ds := [pcD p]) (aJ rfl rfl) q)]
 exact pW (ys := [pcD p, aN b m]) rfl (dD rfl (oO p) (dD rfl (jB b m) fS)) (pX (by simp [bI, bF]) h)
theorem ym2 (hp : lF p = false) (h : GPX [stD C u ps, pcD p, aN b m] = true) : oN GHX GPX [some (stD C u ps), R, some (aN b m), some (pcD p)] = true := by
 have q := sM p
 rw [hp] at q
 show pH _ _ _ _ = true
 unfold pH
 rw [qN (bU (ds := [pcD p]) (aJ rfl rfl) q)]
 exact pW (ys := [pcD p, aN b m]) rfl (dD rfl (oO p) (dD rfl (jB b m) fS)) (pX (by simp [bI, bF]) h)
end
noncomputable def yZ : Nat -> List D -> Bool
 | 0 => fun _ => false
 | n + 1 => gX 3 1 (oS lZ (lT (kO n)) (lG (yZ n)) gF kG)
noncomputable def za2 (GX : List D -> Bool) (r : List Pc) : Prop := ∀ (b : Bool) (m : Int) (C : List Int) (u : Nat) (ps : List Str), 0 <= m -> m + 12 * cT r <= 200 -> eP b m r (C.drop u) (cat ps) = none -> u <= C.length -> (∀ c ∈ C, pI c) ->
 pB ps.length (cat ps).length (bO r).length -> GX [stD C u ps, .tup (aQ r), aN b m] = true
theorem yr0 {GX : List D -> Bool} {p : Pc} {k : Nat} (hG : ∀ r, cT r < k -> okR r -> za2 GX r) (hd : fK p <= k) (ho : okP p) {b : Bool} {m : Int} {C : List Int} {u : Nat} {ps : List Str} {R : Option D} (h0 : 0 <= m) (h1 : m + 12 * fK p <= 200)
  (h : gW b m p (C.drop u) (cat ps) = none) (hu : u <= C.length) (hs : ∀ c ∈ C, pI c) (hf : pB ps.length (cat ps).length (dH p).length) : oN (lG GX) kG [some (stD C u ps), R, some (aN b m), some (pcD p)] = true := by
 cases p with
 | leaf l =>
  rw [gW] at h
  have h' : wr b m (col (cat ps)) l = none := by
   cases e : wr b m (col (cat ps)) l with
   | none => rfl
   | some w => rw [e] at h; cases h
  exact ym2 rfl (yb4 ho h0 (by rw [fK] at h1; omega) h' (by have := hf.2; omega))
 | group r =>
  have ho' : okR r := ho
  rw [fK] at hd h1
  have h1' : m + 12 * cT r <= 200 := yA h1
  have ht : (dH (.group r)).length = (bO r).length + 2 := by simp [dH]
  rw [ht] at hf
  have hf' := lO hf (Nat.le_add_right _ 2)
  rw [gW.eq_def] at h
  simp only at h
  cases b with
  | false =>
   simp only [Bool.false_eq_true, if_false] at h
   exact mS rfl (sQ (i := 0) (x := (r, false, m)) rfl (by simp [kN]) rfl (.inr ⟨rfl, rfl, rfl⟩) (hG r hd ho' false m C u ps h0 h1' h hu hs hf'))
  | true =>
   cases hC : C.drop u with
   | nil => exact mS rfl (qS rfl (by simp [kN]) rfl (yJ (by have := congrArg List.length hC; rw [List.length_drop] at this; simp at this; omega)))
   | cons c cs =>
    obtain ⟨g1, g2, g3⟩ := qQ hC
    rw [hC] at h
    simp only [if_true] at h
    have go : ∀ (i : Nat) (bb : Bool), (i : Int) = c -> (iE true m (.group r))[i]? = some (r, bb, m) -> eP bb m r cs (cat ps) = none -> oN (lG GX) kG [some (stD C u ps), R, some (aN true m), some (pcD (.group r))] = true := fun i bb hi hw hh => by
     rw [<- g2] at hh
     exact mS rfl (sQ (i := i) (x := (r, bb, m)) rfl (by simp [kN]) hw (.inl ⟨rfl, by rw [hi]; exact g1, rfl⟩) (hG r hd ho' bb m C (u + 1) ps h0 h1' hh g3 hs hf'))
    by_cases c0 : c = 0
    ·subst c0
     rw [if_pos rfl] at h
     exact go 0 false rfl rfl h
    ·rw [if_neg c0] at h
     by_cases c1 : c = 1
     ·subst c1
      rw [if_pos rfl] at h
      exact go 1 true rfl rfl h
     ·refine mS rfl (qS rfl (by simp [kN]) rfl (yK g1 ?_ (hs c (List.mem_of_getElem? g1)) (by show 2 <= 1000; decide)))
      show c < 0 \/ ((2 : Nat) : Int) <= c
      omega
 | hang n r =>
  have ho' : (0 <= n /\ n <= 12) /\ okR r := ho
  rw [fK] at hd h1
  have ht : (dH (.hang n r)).length = (bO r).length + 2 := by simp [dH]
  rw [ht] at hf
  rw [gW] at h
  exact mS rfl (sQ (i := 0) (x := (r, b, m + n)) rfl (by simp [kN]) rfl (.inr ⟨rfl, rfl, rfl⟩) (hG r hd ho'.2 b (m + n) C u ps (Int.add_nonneg h0 ho'.1.1) (ya0 h1 ho'.1.2) h hu hs (lO hf (Nat.le_add_right _ 2))))
 | either rs =>
  have ho' : (2 <= rs.length /\ rs.length <= 4) /\ kJ rs := ho
  have hn : kN (.either rs) <= 1000 := Nat.le_trans ho'.1.2 (by decide)
  have hwl : (iE b m (.either rs)).length = rs.length := by show (rs.map _).length = _; rw [List.length_map]
  rw [gW.eq_def] at h
  simp only at h
  cases hC : C.drop u with
  | nil => exact mS rfl (qS rfl hn rfl (yJ (by have := congrArg List.length hC; rw [List.length_drop] at this; simp at this; omega)))
  | cons c cs =>
   obtain ⟨g1, g2, g3⟩ := qQ hC
   rw [hC] at h
   simp only at h
   have off : (c < 0 \/ (rs.length : Int) <= c) -> oN (lG GX) kG [some (stD C u ps), R, some (aN b m), some (pcD (.either rs))] = true := fun hc => by
    refine mS rfl (qS rfl hn rfl ?_)
    rw [hwl]
    exact yK g1 hc (hs c (List.mem_of_getElem? g1)) (Nat.le_trans ho'.1.2 (by decide))
   by_cases c0 : 0 <= c
   ·rw [if_pos c0] at h
    cases hr : rs[c.toNat]? with
    | none =>
     have := List.getElem?_eq_none_iff.mp hr
     exact off (.inr (by omega))
    | some r =>
     rw [qO hr, <- g2] at h
     have hdr := oP hr
     have hor := sP ho'.2 hr
     have htr := rA (List.mem_of_getElem? hr)
     have ht : (dH (.either rs)).length = (oE rs).length + 2 := by simp [dH]
     rw [fK] at hd h1
     rw [ht] at hf
     exact mS rfl (sQ (i := c.toNat) (x := (r, b, m)) rfl hn (by show (rs.map _)[c.toNat]? = _; rw [List.getElem?_map, hr]; rfl) (.inl ⟨rfl, by rw [Int.toNat_of_nonneg c0]; exact g1, rfl⟩) (hG r (Nat.lt_of_le_of_lt hdr hd) hor b m C (u + 1) ps h0 (nY (yA h1) hdr) h g3 hs (lO hf (Nat.le_trans htr (Nat.le_add_right _ 2)))))
   ·exact off (.inl (Int.not_le.mp c0))
theorem yh7 {GR : tz7} {GX : List D -> Bool} {k : Nat} (hR : ∀ r, cT r < k -> okR r -> ze4 GR r) (hG : ∀ r, cT r < k -> okR r -> za2 GX r) {b : Bool} {m : Int} {C : List Int} {R : Option D} (h0 : 0 <= m) (hs : ∀ c ∈ C, pI c) : ∀ (r : List Pc) (u : Nat) (ps : List Str) (x : Option D), cT r <= k -> okR r -> m + 12 * cT r <= 200 ->
  eP b m r (C.drop u) (cat ps) = none -> u <= C.length -> pB ps.length (cat ps).length (bO r).length ->
  iO 3 (mF (lT GR) gF) (oN (lG GX) kG) (aQ r) [some (stD C u ps), R, some (aN b m), x] = true
 | [], u, ps, x, _, _, _, h, _, _ => by rw [eP] at h; cases h
 | p :: r, u, ps, x, hd, ho, h1, h, hu, hf => by
  rw [okR] at ho
  rw [cT] at hd h1
  have ht : (bO (p :: r)).length = (dH p).length + (bO r).length := by rw [bO, List.length_append]
  rw [ht] at hf
  rw [eP] at h
  show iO 3 _ _ (pcD p :: aQ r) _ = true
  rw [iO]
  show (oN (lG GX) kG [some (stD C u ps), R, some (aN b m), some (pcD p)] || (match mF (lT GR) gF [some (stD C u ps), R, some (aN b m), some (pcD p)] with
   | some (.nx, q) => iO 3 (mF (lT GR) gF) (oN (lG GX) kG) (aQ r) q
   | some (.ct, q) => iO 3 (mF (lT GR) gF) (oN (lG GX) kG) (aQ r) q
   | _ => false)) = true
  cases e : gW b m p (C.drop u) (cat ps) with
  | none =>
   rw [yr0 (R := R) hG (Nat.le_trans (Nat.le_max_left _ _) hd) ho.1 h0 (nY h1 (Nat.le_max_left _ _)) e hu hs (lO hf (Nat.le_add_right _ _))]; rfl
  | some s =>
   obtain ⟨c1, t1⟩ := s
   rw [e] at h
   obtain ⟨u1, ps1, q1, a1, a2, a3, a4⟩ := zc4 (R := R) hR (Nat.le_trans (Nat.le_max_left _ _) hd) ho.1 h0 (nY h1 (Nat.le_max_left _ _)) e hu (lO hf (Nat.le_add_right _ _))
   have h' : eP b m r (C.drop u1) (cat ps1) = none := by rw [a1, a2]; exact h
   rw [q1]
   show (_ || iO 3 (mF (lT GR) gF) (oN (lG GX) kG) (aQ r) [some (stD C u1 ps1), R, some (aN b m), some (pcD p)]) = true
   rw [yh7 hR hG h0 hs r u1 ps1 (some (pcD p)) (Nat.le_trans (Nat.le_max_right _ _) hd) ho.2 (nY h1 (Nat.le_max_right _ _)) h' a3 (zc3 hf a4), Bool.or_true]
theorem zp0 : ∀ (n : Nat) (r : List Pc), cT r < n -> okR r -> za2 (yZ n) r
 | 0, _, h, _ => absurd h (Nat.not_lt_zero _)
 | n + 1, r, hd, ho => fun b m C u ps h0 h1 h hu hs hf => by
  have q := yh7 (GR := kO n) (GX := yZ n) (k := n) (R := some (.tup (aQ r))) (fun s hs hk => vK n s hs hk) (fun s hs hk => zp0 n s hs hk) h0 hs r u ps none (Nat.le_of_lt_succ hd) ho h1 h hu hf
  exact qR rfl q
noncomputable abbrev vX (n : Nat) : List D -> Bool := gX 2 1 (uP qE (kO n) (yZ n) oU zp2)
theorem zt5 {n : Nat} {r : List Pc} {C : List Int} (hd : cT r < n) (h8 : cT r <= 16) (ho : okR r) (hl : (bO r).length <= 800) (hs : ∀ c ∈ C, pI c) (h : ∀ t, eP true 0 r C ⟨#[]⟩ ≠ some ([], t)) : vX n [.tup (aQ r), .tup (bW C)] = true := by
 have i := ya1 C
 have f := zi8
 have p1 := dZ r
 have p2 := kU C
 have p3 := jB true 0
 have s1 : aR 2 (aE (dY "Setter" (aU [.im (aA 1)]) qE)) [some (.tup (aQ r)), some (.tup (bW C)), none] = some (.nx, [some (.tup (aQ r)), some (.tup (bW C)), some (stD C 0 [])]) := by
  refine cA ?_
  unfold dY
  rw [dD (f := aA 1) (p := [some (.tup (aQ r)), some (.tup (bW C)), none]) (d := .tup (bW C)) rfl p2 fS]
  show (qE [.obj true "Setter" [] [], .tup (bW C)]).bind _ = _
  rw [i]; rfl
 have ar : ∀ S0 : D, aU [.im (aA 0), .im (aG oU aD)] [some (.tup (aQ r)), some (.tup (bW C)), some S0] = some [.tup (aQ r), aN true 0] := fun S0 => dD (f := aA 0) rfl p1 (dD (f := aG oU aD) (bU (ds := []) rfl f) p3 fS)
 refine qR rfl ((jX s1).trans ?_)
 cases e : eP true 0 r C ⟨#[]⟩ with
 | none =>
  refine zj9 (pW (ys := [.tup (aQ r), aN true 0]) rfl (ar _) (pX (by simp [bI, bF]) ?_))
  exact zp0 n r hd ho true 0 C 0 [] (Int.le_refl _) (by omega) e (Nat.zero_le _) hs ⟨by show 0 + _ <= _; omega, by show 0 + _ <= _; omega⟩
 | some s =>
  obtain ⟨rest, t⟩ := s
  obtain ⟨u', ps', q, e1, e2, e3, _⟩ := vK n r hd ho true 0 C 0 [] rest t (Int.le_refl _) (by omega) e (Nat.zero_le _) ⟨by show 0 + _ <= _; omega, by show 0 + _ <= _; omega⟩
  have hr : rest ≠ [] := fun z => h t (by rw [e, z])
  have hu : u' < C.length := by
   have := congrArg List.length e1
   rw [List.length_drop] at this
   have := List.length_pos_iff.mpr hr
   omega
  have hm := vI (m := "set_row") (by simp [bI, bF]) q
  have s2 : aV (bE 2 aP (aU [.im (aA 0), .im (aG oU aD)]) (eO "Setter" "set_row" (kO n))) [some (.tup (aQ r)), some (.tup (bW C)), some (stD C 0 [])] = some (.nx, [some (.tup (aQ r)), some (.tup (bW C)), some (stD C u' ps')]) := by
   refine nV (d := .non) ?_
   unfold bE
   rw [ar]
   show ((eO "Setter" "set_row" (kO n) [.tup (aQ r), aN true 0] (stD C 0 [])).bind _) = _
   rw [hm]; rfl
  have w' : eS "Setter" "whole_text" (aA 2) [some (.tup (aQ r)), some (.tup (bW C)), some (stD C u' ps')] = some (stD C u' ps') := by
   unfold stD
   simp [eS, bI, bF, aA]
  exact zk0 ((jX s2).trans ((yf9 w').trans (yb3 hu)))
noncomputable abbrev oI (n : Nat) : tz6 := gP 2 0 (uS (vX n))
theorem zt6 {n : Nat} {R Cs : D} (h : vX n [R, Cs] = true) : oI n [R, Cs] = some (.bl true) := by
 have s : zk4 (vX n) (aB (aA 0) (aB (aA 1) aD)) [some R, some Cs] = some (.ret (.bl true), [some R, some Cs]) := by
  unfold zk4
  rw [aJ (f := aA 0) (d := R) rfl (aJ (f := aA 1) (d := Cs) rfl (show aD _ = some [] from rfl)), Option.bind_some, if_pos h]
 exact jA rfl (eN s)
end My
namespace My
open PySem PySem.Spec PyProof.Rows L2 L3
section
variable {GM GC : tz6} {S : D}
noncomputable abbrev rZ (GS : tz7) (GR GD GB : tz6) : tz1 :=
 (aK (aR 4 (aE (f2 dIx (bL (fKs [.int 1, .int 50, .int 51])) (aA 3))))
 (aK (aR 5 (aE (bL (aB (fC (.str "")) (aB (bL aD) (aB (fC (.int 0)) aD))))))
 (aK (fIf (jL (fTE (fIO [.im (aA 0), .im (aA 2), .im (fC (.bl false)), .im (fC (.int 0)), .io 5, .im (aA 4)] GS)))
  (aK (aR 6 (aE (aG cQ (aB (f2 dIx (aA 5) (fC (.int 1))) aD))))
 (fIf (aI (dS (cX (fT (aG GR (aB (aA 2) (aB (aA 6) aD))))) (cX (fT (aG GR (aB (aA 2) (aB (f2 bG (aA 6) (cU (fKs [.int 0, .int 1, .int 0, .int 1]))) aD)))))))
  (bJ (aE (fC (.bl false))))
  aY))
  aY)
 (aK (aR 7 (aE (aG GD (aB (aA 0) (aB (aA 2) (aB (aA 4) aD))))))
 (aK (aR 8 (aE (aG GB (aB (aA 2) (aB (f2 dIx (aA 7) (fC (.int 1))) aD)))))
 (fIf (aI (dS (cX (fT (aG uN (aB (aA 8) (aB (fC (.ty "str")) aD))))) (fB (f2 dNe (aA 8) (f2 dIx (aA 7) (fC (.int 0)))))))
  (bJ (aE (fC (.bl false))))
  aY))))))
theorem yu4 {GS : tz7} {GR GD GB : tz6} {r : List Pc} {x1 x4 x5 x6 x7 x8 : Option D} {lap salt : Int} {C ds : List Int} {t t' : Str} {n' : Nat} {ok : Bool} (hS : S.imm = true) (hx : atI [D.int 1, .int 50, .int 51] lap = some (.int salt))
  (q : GS [S, .tup (aQ r), .bl false, .int 0, sD ⟨#[]⟩ [] 0, .int salt] = some (.bl ok, [S, .tup (aQ r), .bl false, .int 0, sD t' ds n', .int salt])) (hds : ds.length <= 900)
  (hr1 : ok = false -> GR [.tup (aQ r), .tup (bW ds)] = some (.bl true)) (hr2 : ok = false -> GR [.tup (aQ r), .tup (bW (ds ++ [0, 1, 0, 1]))] = some (.bl true))
  (d : GD [S, .tup (aQ r), .int salt] = some (.tup [.str t, .tup (bW C)])) (b : GB [.tup (aQ r), .tup (bW C)] = some (.str t)) :
  ∃ y4 y5 y6 y7 y8, rZ GS GR GD GB [some S, x1, some (.tup (aQ r)), some (.int lap), x4, x5, x6, x7, x8] = some (.nx, [some S, x1, some (.tup (aQ r)), some (.int lap), y4, y5, y6, y7, y8]) := by
 have pi : D.imm (.tup (aQ r)) = true := dZ r
 have s1 : aR 4 (aE (f2 dIx (bL (fKs [.int 1, .int 50, .int 51])) (aA 3))) [some S, x1, some (.tup (aQ r)), some (.int lap), x4, x5, x6, x7, x8] = some (.nx, [some S, x1, some (.tup (aQ r)), some (.int lap), some (.int salt), x5, x6, x7, x8]) := cA (aT (eY rfl (Nat.le_of_ble_eq_true rfl)) rfl hx)
 have s2 : aR 5 (aE (bL (aB (fC (.str "")) (aB (bL aD) (aB (fC (.int 0)) aD))))) [some S, x1, some (.tup (aQ r)), some (.int lap), some (.int salt), x5, x6, x7, x8] = some (.nx, [some S, x1, some (.tup (aQ r)), some (.int lap), some (.int salt), some (sD ⟨#[]⟩ [] 0), x6, x7, x8]) := by
  refine cA ((eY (aJ rfl (aJ (d := .lst true []) rfl (aJ rfl rfl))) (Nat.le_of_ble_eq_true rfl)).trans ?_)
  rw [zi4]; rfl
 have c0 : fIO [.im (aA 0), .im (aA 2), .im (fC (.bl false)), .im (fC (.int 0)), .io 5, .im (aA 4)] GS [some S, x1, some (.tup (aQ r)), some (.int lap), some (.int salt), some (sD ⟨#[]⟩ [] 0), x6, x7, x8] = some (.bl ok, [some S, x1, some (.tup (aQ r)), some (.int lap), some (.int salt), some (sD t' ds n'), x6, x7, x8]) :=
  (rR (dD (f := aA 0) rfl hS (dD (f := aA 2) rfl pi (dD (f := fC (.bl false)) rfl rfl (dD (f := fC (.int 0)) rfl rfl (pL (j := 5) rfl (dD (f := aA 4) rfl rfl fS)))))) q rfl).trans rfl
 have c1 : jL (fTE (fIO [.im (aA 0), .im (aA 2), .im (fC (.bl false)), .im (fC (.int 0)), .io 5, .im (aA 4)] GS)) [some S, x1, some (.tup (aQ r)), some (.int lap), some (.int salt), some (sD ⟨#[]⟩ [] 0), x6, x7, x8] = some (!ok, [some S, x1, some (.tup (aQ r)), some (.int lap), some (.int salt), some (sD t' ds n'), x6, x7, x8]) := by
  unfold jL fTE
  rw [c0]; rfl
 have rest : ∀ y6 : Option D, ∃ y7 y8, (aK (aR 7 (aE (aG GD (aB (aA 0) (aB (aA 2) (aB (aA 4) aD))))))
   (aK (aR 8 (aE (aG GB (aB (aA 2) (aB (f2 dIx (aA 7) (fC (.int 1))) aD)))))
   (fIf (aI (dS (cX (fT (aG uN (aB (aA 8) (aB (fC (.ty "str")) aD))))) (fB (f2 dNe (aA 8) (f2 dIx (aA 7) (fC (.int 0)))))))
    (bJ (aE (fC (.bl false))))
    aY))) [some S, x1, some (.tup (aQ r)), some (.int lap), some (.int salt), some (sD t' ds n'), y6, x7, x8] = some (.nx, [some S, x1, some (.tup (aQ r)), some (.int lap), some (.int salt), some (sD t' ds n'), y6, y7, y8]) := fun y6 => by
  refine ⟨_, _, (aF (cA (bU (aJ rfl (aJ rfl (aJ rfl rfl))) d))).trans ((aF (cA (bU (aJ rfl (aJ (aT rfl rfl (cK _ _ _)) rfl)) b))).trans (bN (zs5 (kF (b := true) (qN (bU (ds := [.str t, .ty "str"]) (aJ rfl (aJ rfl rfl)) (yu0 t)))) (fL (aT rfl (aT rfl rfl (cV _ _)) ?_)))))⟩
  show some (D.bl (!decide (t = t))) = _
  rw [decide_eq_true rfl]; rfl
 cases ok with
 | true =>
  obtain ⟨y7, y8, f⟩ := rest x6
  exact ⟨_, _, _, _, _, (aF s1).trans ((aF s2).trans ((aF ((mE c1).trans rfl)).trans f))⟩
 | false =>
  obtain ⟨y7, y8, f⟩ := rest (some (.tup (bW ds)))
  have s6 : aR 6 (aE (aG cQ (aB (f2 dIx (aA 5) (fC (.int 1))) aD))) [some S, x1, some (.tup (aQ r)), some (.int lap), some (.int salt), some (sD t' ds n'), x6, x7, x8] = some (.nx, [some S, x1, some (.tup (aQ r)), some (.int lap), some (.int salt), some (sD t' ds n'), some (.tup (bW ds)), x7, x8]) :=
   cA (bU (ds := [.lst true (bW ds)]) (aJ (aT rfl rfl (cK _ _ _)) rfl) (if_pos (kU ds)))
  have ad : f2 bG (aA 6) (cU (fKs [.int 0, .int 1, .int 0, .int 1])) [some S, x1, some (.tup (aQ r)), some (.int lap), some (.int salt), some (sD t' ds n'), some (.tup (bW ds)), x7, x8] = some (.tup (bW (ds ++ [0, 1, 0, 1]))) := by
   refine aT rfl (lN rfl rfl (Nat.le_of_ble_eq_true rfl)) ?_
   rw [uL]
   refine if_pos ?_
   rw [qP]
   exact sz (show ds.length + 4 <= 1000 by omega)
  have s7 : fIf (aI (dS (cX (fT (aG GR (aB (aA 2) (aB (aA 6) aD))))) (cX (fT (aG GR (aB (aA 2) (aB (f2 bG (aA 6) (cU (fKs [.int 0, .int 1, .int 0, .int 1]))) aD))))))) (bJ (aE (fC (.bl false)))) aY [some S, x1, some (.tup (aQ r)), some (.int lap), some (.int salt), some (sD t' ds n'), some (.tup (bW ds)), x7, x8] = some (.nx, [some S, x1, some (.tup (aQ r)), some (.int lap), some (.int salt), some (sD t' ds n'), some (.tup (bW ds)), x7, x8]) :=
   bN (zs5 (kF (b := true) (qN (bU (aJ rfl (aJ rfl rfl)) (hr1 rfl)))) (kF (b := true) (qN (bU (aJ rfl (aJ ad rfl)) (hr2 rfl)))))
  exact ⟨_, _, _, _, _, (aF s1).trans ((aF s2).trans ((aF ((vF c1).trans ((aF s6).trans s7))).trans f))⟩
theorem ym3 (a : Int) : ∃ n : Nat, atI [D.int 3, .int 3, .int 6] (a % 3) = some (.int n) /\ n <= 6 := by
 have h0 := Int.emod_nonneg a (show (3 : Int) ≠ 0 by decide)
 have h1 := Int.emod_lt_of_pos a (show (0 : Int) < 3 by decide)
 obtain ⟨d, hd, e⟩ := nU [D.int 3, .int 3, .int 6] (a % 3) h0 (by simpa using h1)
 simp only [List.mem_cons, List.not_mem_nil, or_false] at hd
 rcases hd with rfl | rfl | rfl
 ·exact ⟨3, e, by decide⟩
 ·exact ⟨3, e, by decide⟩
 ·exact ⟨6, e, by decide⟩
theorem yr1 {c : Int} (h : 0 <= c /\ c < 4) : pI c := zk1 (Nat.lt_of_lt_of_le (show c.natAbs < 4 by omega) (by decide +kernel))
noncomputable abbrev yt0 (k1 k2 : Nat) (GM GC : tz6) : tz6 := gP 1 8 (zk8 GM (zl2 GM tF) (jF (kB GM GC) k1) (oI k2) (rY (jF (kB GM GC) k1)) (rX k2))
theorem zt7 {k1 k2 : Nat} (hk1 : 6 < k1) (hk2 : 6 < k2) (hS : S.imm = true) (hM : ∀ j s : Int, 0 <= j -> j < 1000 -> 0 <= s -> s < 1000 -> ∃ a, GM [S, .int j, .int s] = some (.int a) /\ 0 <= a) (hC : ∀ j : Int, 0 <= j -> j < 1000 -> ∃ a, GC [S, .int j] = some (.int a)) : yt0 k1 k2 GM GC [S] = some (.bl true) := by
 obtain ⟨a, qa, ha⟩ := hM 0 40 (by decide) (by decide) (by decide) (by decide)
 obtain ⟨mr, hmr0, mr1⟩ := yl0 a 3 38 (by decide)
 have hmr : 3 + a % 38 = (mr : Int) := hmr0
 obtain ⟨nest, hnest, n6⟩ := ym3 (a / 38)
 obtain ⟨r, qr, hr, hL, hdr⟩ := zt4 (k1 := k1) (k2 := k2) (nest := nest) (a := 3) (many := mr) (Nat.lt_of_le_of_lt n6 hk1) (Nat.lt_of_le_of_lt n6 hk2) (Nat.le_trans n6 (by decide)) (Nat.le_trans (Nat.le_of_lt mr1) (by decide)) (Nat.le_trans (Nat.add_le_add_left (Nat.le_of_lt mr1) 3) (by decide)) hS hM hC
 have hd6 : cT r <= 6 := Nat.le_trans hr.dep n6
 have hlen : (bO r).length <= 800 := Nat.le_trans hr.len (by omega)
 have lap : ∀ (j salt : Int) (x1 x4 x5 x6 x7 x8 : Option D), atI [D.int 1, .int 50, .int 51] j = some (.int salt) -> 0 <= salt -> salt <= 900 -> ∃ y4 y5 y6 y7 y8, rZ (jF (kB GM GC) k1) (oI k2) (rY (jF (kB GM GC) k1)) (rX k2) [some S, x1, some (.tup (aQ r)), some (.int j), x4, x5, x6, x7, x8] = some (.nx, [some S, x1, some (.tup (aQ r)), some (.int j), y4, y5, y6, y7, y8]) := fun j salt x1 x4 x5 x6 x7 x8 hj s0 s1 => by
  obtain ⟨C, t, d, g, len, b, ht, hc⟩ := hdr salt s0 s1
  obtain ⟨ok, t', ds, n', q, e1, e2, e3, ⟨_, _, e6⟩, e7⟩ := hL false 0 ⟨#[]⟩ [] 0 salt (Int.le_refl _) (by omega) s0 s1 ⟨by omega, by show 0 + _ <= _; omega, by show 0 + _ <= _; omega⟩
  have no : ok = false -> ∀ x, (∀ c ∈ x, (0 : Int) <= c /\ c < 4) -> oI k2 [.tup (aQ r), .tup (bW (ds ++ x))] = some (.bl true) := fun h x hx => zt6 (zt5 (Nat.lt_of_le_of_lt hd6 hk2) (Nat.le_trans hd6 (by decide)) hr.ok hlen (fun c hc => yr1 ((List.mem_append.mp hc).elim (e7 c) (hx c))) fun t z => by have e := e2 h x; rw [show (!false) = true from rfl] at e; rw [e] at z; cases z)
  exact yu4 hS hj q (Nat.le_trans e6 (Nat.le_trans hlen (by decide))) (fun h => by have := no h [] (fun _ h => absurd h List.not_mem_nil); rwa [List.append_nil] at this) (fun h => no h [0, 1, 0, 1] (by decide)) d b
 obtain ⟨a4, a5, a6, a7, a8, l1⟩ := lap 0 1 (some (.int a)) none none none none none rfl (by decide) (by decide)
 obtain ⟨b4, b5, b6, b7, b8, l2⟩ := lap 1 50 (some (.int a)) a4 a5 a6 a7 a8 rfl (by decide) (by decide)
 obtain ⟨c4, c5, c6, c7, c8, l3⟩ := lap 2 51 (some (.int a)) b4 b5 b6 b7 b8 rfl (by decide) (by decide)
 have s1 : aR 1 (aE (aG GM (aB (aA 0) (aB (fC (.int 0)) (aB (fC (.int 40)) aD))))) [some S, none, none, none, none, none, none, none, none] = some (.nx, [some S, some (.int a), none, none, none, none, none, none, none]) := cA (bU (aJ rfl (aJ rfl (aJ rfl rfl))) qa)
 have s2 : aR 2 (aE (aG (zl2 GM tF) (aB (aA 0) (aB (fC (.int 3)) (aB (f2 bG (fC (.int 3)) (f2 eB (aA 1) (fC (.int 38)))) (aB (f2 dIx (bL (fKs [.int 3, .int 3, .int 6])) (f2 eB (f2 gJ (aA 1) (fC (.int 38))) (fC (.int 3)))) aD)))))) [some S, some (.int a), none, none, none, none, none, none, none] = some (.nx, [some S, some (.int a), some (.tup (aQ r)), none, none, none, none, none, none]) := by
  refine cA (bU (ds := [S, .int ((3 : Nat) : Int), .int (mr : Int), .int (nest : Int)]) (aJ rfl (aJ rfl (aJ ?_ (aJ ?_ rfl)))) qr)
  ·refine aT rfl (aT rfl rfl ((dC _ _).trans (if_pos (by decide)))) ?_
   rw [<- hmr]; rfl
  ·exact aT (eY rfl (Nat.le_of_ble_eq_true rfl)) (aT (aT rfl rfl ((dU _ _).trans (if_pos (by decide)))) rfl ((dC _ _).trans (if_pos (by decide)))) hnest
 have s3 : kH 3 (pF (aB (fC (.int 3)) aD)) (rZ (jF (kB GM GC) k1) (oI k2) (rY (jF (kB GM GC) k1)) (rX k2)) [some S, some (.int a), some (.tup (aQ r)), none, none, none, none, none, none] = some (.nx, [some S, some (.int a), some (.tup (aQ r)), some (.int 2), c4, c5, c6, c7, c8]) := by
  have e : pF (aB (fC (.int 3)) aD) [some S, some (.int a), some (.tup (aQ r)), none, none, none, none, none, none] = some [.int 0, .int 1, .int 2] := rfl
  unfold kH
  rw [e, Option.bind_some, fN]
  show ((rZ _ _ _ _ [some S, some (.int a), some (.tup (aQ r)), some (.int 0), none, none, none, none, none]).bind _) = _
  rw [l1]
  show fN 3 _ [.int 1, .int 2] _ = _
  rw [fN]
  show ((rZ _ _ _ _ [some S, some (.int a), some (.tup (aQ r)), some (.int 1), a4, a5, a6, a7, a8]).bind _) = _
  rw [l2]
  show fN 3 _ [.int 2] _ = _
  rw [fN]
  show ((rZ _ _ _ _ [some S, some (.int a), some (.tup (aQ r)), some (.int 2), b4, b5, b6, b7, b8]).bind _) = _
  rw [l3]; rfl
 show gP 1 8 (zk8 GM (zl2 GM tF) (jF (kB GM GC) k1) (oI k2) (rY (jF (kB GM GC) k1)) (rX k2)) _ = _
 exact jA rfl ((aF s1).trans ((aF s2).trans ((aF s3).trans (eH rfl))))
end
end My
namespace My
open PySem PySem.Spec PyProof.Rows L2 L3
variable {P : Program} {w : World} {K : tz0} {mg : tzA} {base : Heap} {U : tz9}
noncomputable abbrev uV : List D -> Option (List Int) := D.ints
theorem sR : ∀ ns : List Int, uV (ns.map .int) = some ns
 | [] => rfl
 | n :: ns => by show (D.ints (ns.map .int)).map (n :: ·) = _; rw [show D.ints (ns.map .int) = some ns from sR ns]; rfl
noncomputable def zu3 : tz6
 | [.con xs, .int k, .int s] => match uV xs with
  | some ns => if ns.length <= 63 /\ (0 <= k /\ k < 1000000) /\ (0 <= s /\ s < 1000000) then some (.int (sY ns k s)) else none
  | none => none
 | _ => none
theorem yg0 {ns : List Int} (h : ns.length <= 63) (k s : Int) (hk : 0 <= k) (hk1 : k < 1000) (hs : 0 <= s) (hs1 : s < 1000) : ∃ m, zu3 [.con (ns.map .int), .int k, .int s] = some (.int m) /\ 0 <= m := by
 refine ⟨sY ns k s, ?_, (zl5 ns k s).1⟩
 show (match uV (ns.map .int) with | some ns => if ns.length <= 63 /\ (0 <= k /\ k < 1000000) /\ (0 <= s /\ s < 1000000) then some (D.int (sY ns k s)) else none | none => none) = _
 rw [sR]
 exact if_pos ⟨h, ⟨hk, by omega⟩, hs, by omega⟩
theorem yw4 {k : Nat} {f : Addr} {fd : FuncData} {ps : List Str} (F : FnOk P w K mg base CX0 k f fd ps (zp1 K)) : FnOk P w K mg base CX0 k f fd ps (SpP 3 K U zu3) := by
 refine F.imp fun vs H Q E ⟨_, ds, fp, d, r, e, q⟩ => ?_
 unfold zu3 at e
 split at e
 ·rename_i xs k s
  split at e
  ·rename_i ns hns
   obtain ⟨hc, e⟩ := cN e
   cases e
   obtain ⟨v1, us, f, g, rfl, r1, r2, rfl⟩ := r.split
   obtain ⟨v2, us2, f2, g2, rfl, r3, r4, rfl⟩ := r2.split
   obtain ⟨v3, rfl, r5⟩ := r4.one_inv
   rw [r3.is_int, r5.is_int]
   obtain ⟨a, vs, rfl, hS, hs⟩ := r1.con_inv
   rw [zH hs hns] at hS
   exact ⟨a, ns, k, s, rfl, hS.l, hc.1, hc.2.1, hc.2.2, q _ H [] (SameK.refl H) (fun _ ha => absurd ha (by simp)) List.nodup_nil (.int _)⟩
  ·cases e
 ·cases e
noncomputable def ze5 (K : tz0) : Sp := fun vs H Q _ => ∃ (a : Addr) (ns : List Int), vs = [.ref a] /\ SqF K H a (ns.map V.int) /\ ns.length <= 63 /\ ∀ H', Q (.bl true) H'
theorem zc7 {H : Hp} : ∀ ns : List Int, Reps K U H (ns.map V.int) (ns.map .int) []
 | [] => .nil
 | n :: ns => .cons (f := []) (g := []) (.int n) (zc7 ns)
theorem yw5 {k : Nat} {f : Addr} {fd : FuncData} {ps : List Str} {g : tz6} (F : FnOk P w K mg base CX0 k f fd ps (SpP 1 K U g)) (h : ∀ ns : List Int, ns.length <= 63 -> g [.con (ns.map .int)] = some (.bl true)) : FnOk P w K mg base CX0 k f fd ps (ze5 K) :=
 F.imp fun vs H Q E ⟨a, ns, e, hS, hl, q⟩ => e ▸ ⟨rfl, [.con (ns.map .int)], [], .bl true, .cons (f := []) (g := []) (.con hS (zc7 ns)) .nil, h ns hl, fun v H' fv _ _ _ r => by cases r; exact q H'⟩
noncomputable def Cur : Nat -> (List Value -> Prop) -> Prop
 | 0, P => P []
 | n + 1, P => ∀ a, Cur n fun us => P (a :: us)
theorem dL {n : Nat} : ∀ {P : List Value -> Prop}, Cur n P -> ∀ us : List Value, us.length = n -> P us := by
 induction n with
 | zero => intro P h us hl; cases List.eq_nil_of_length_eq_zero hl; exact h
 | succ n ih =>
  intro P h us hl
  cases us with
  | nil => cases hl
  | cons a us => exact ih (h a) us (Nat.succ.inj hl)
theorem fX {h : Heap} (X : K.In h) (G : h.Ns mainGlobals mg) {x : Str} {st : Stmt} {f : Addr} {od an : Option Addr} {sl : Array (Option Value)} {oc kV dc pm cd ct : Value} {ps : List Str}
  (a : PySem.W.nsIn K mainGlobals x = some (some (.ref f))) (l : K.lookup f = some ⟨oc, od, .func (PySem.W.fnOf x x (cJ st) (bR st) (aM st) .none kV dc pm an cd ct), sl⟩) (c : PySem.W.codeIn K cd x = true) (k : PySem.W.keepIn K (.ref f) = true)
  (hb : ∀ (kV doc pm : Value) (an : Option Addr) (cdv ct : Value) (us : List Value), us.length = ps.length -> bindArgs (PySem.W.fnOf x x (cJ st) (bR st) (aM st) .none kV doc pm an cdv ct) ⟨us, []⟩ = pure (ps.zip us)) :
  Dn K mg x st ps f (PySem.W.fnOf x x (cJ st) (bR st) (aM st) .none kV dc pm an cd ct) :=
 ⟨hJ l c k, (hJ l c k).binds hb, PySem.W.mg_of X G a⟩
theorem yw6 {l : PySem.W.OpenLaw} {q : Program} {loose : List Str} {XP : (tzA) -> Heap -> Prop} {YP : World -> Heap -> Prop} {d : DefRec} {K : Params -> tz0} {lev : Nat} (hn : l.most = some 63) (hdf : d.params.defaults = []) (hr : Room lev callerA)
  (hY : ∀ (w : World) (h : Heap), YP w h -> (K w.params).In h)
  (F : ∀ (w : World) (mg : tzA) (fa : Addr) (h : Heap), (K w.params).In h -> h.Ns mainGlobals mg -> mg d.name = some (.ref fa) ->
   ∃ fd : FuncData, (∀ (s : Shared) (u : Value), BindsTo s fd ⟨[u], []⟩ [("_law_script", u)]) /\ ∀ base : Heap, (K w.params).In base -> base.Ns mainGlobals mg -> FnOk l.prog w (K w.params) mg base CX0 lev fa fd ["_law_script"] (ze5 (K w.params))) :
  PySem.W.WalkO q loose XP YP l.row.toRowW d [] (fun f vs => PySem.call f vs) :=
 L2.yj2 (n := 63) (k := lev) (x := "_law_script") (CX := fun _ => CX0) (sp := fun w => ze5 (K w.params)) hn (by decide) hdf hr hY F (fun _ H a ns hl hO hS => ⟨a, ns, rfl, by
  rcases hS with (h | h) | h
  ·rcases hO a with z | ⟨o, xs, z⟩ <;> rw [h] at z <;> cases z
  ·exact .inl h
  ·exact .inr h, hl, fun _ => rfl⟩) fun _ _ _ _ _ z => z
end My
namespace My
open PySem PySem.Spec PyProof.Rows L2 L3
variable {P : Program} {w : World} {K : tz0} {mg : tzA} {base : Heap} {U : tz9}
noncomputable def ze6 : tz6
 | [.con xs, .int k] => match uV xs with
  | some ns => some (.int (oQ ns k))
  | none => none
 | _ => none
theorem yb5 (ns : List Int) (k : Int) : ze6 [.con (ns.map .int), .int k] = some (.int (oQ ns k)) := by
 show (match uV (ns.map .int) with | some ns => some (D.int (oQ ns k)) | none => none) = _
 rw [sR]
theorem yu5 {k : Nat} {f : Addr} {fd : FuncData} {ps : List Str} (F : FnOk P w K mg base CX0 k f fd ps (zk6 K)) : FnOk P w K mg base CX0 k f fd ps (SpP 2 K U ze6) := by
 refine F.imp fun vs H Q E ⟨_, ds, fp, d, r, e, q⟩ => ?_
 unfold ze6 at e
 split at e
 ·rename_i xs k
  split at e
  ·rename_i ns hns
   cases e
   obtain ⟨v1, us, f, g, rfl, r1, r2, rfl⟩ := r.split
   obtain ⟨v3, rfl, r5⟩ := r2.one_inv
   rw [r5.is_int]
   obtain ⟨a, vs, rfl, hS, hs⟩ := r1.con_inv
   rw [zH hs hns] at hS
   exact ⟨a, ns, k, rfl, hS.l, q _ H [] (SameK.refl H) (fun _ ha => absurd ha (by simp)) List.nodup_nil (.int _)⟩
  ·cases e
 ·cases e
end My
namespace My
open PySem PySem.Spec PyProof.Rows L2 L3
theorem yr2 {l : PySem.W.OpenLaw} {w : World} {K : tz0} {h : Heap} {mg : tzA} {fa f0 f1 f2 f3 f4 f5 f6 f7 f8 f9 f10 f11 f12 f13 f14 f15 f16 f17 f18 f19 f20 f21 : Addr} (X : K.In h) (G : h.Ns mainGlobals mg) (hfa : mg "law" = some (.ref fa))
  {od0 an0 od1 an1 od2 an2 od3 an3 od4 an4 od5 an5 od6 an6 od7 an7 od8 an8 od9 an9 od10 an10 od11 an11 od12 an12 od13 an13 od14 an14 od15 an15 od16 an16 od17 an17 od18 an18 od19 an19 od20 an20 od21 an21 : Option Addr} {sl0 sl1 sl2 sl3 sl4 sl5 sl6 sl7 sl8 sl9 sl10 sl11 sl12 sl13 sl14 sl15 sl16 sl17 sl18 sl19 sl20 sl21 : Array (Option Value)} {oc0 kV0 dc0 pm0 cd0 ct0 oc1 kV1 dc1 pm1 cd1 ct1 oc2 kV2 dc2 pm2 cd2 ct2 oc3 kV3 dc3 pm3 cd3 ct3 oc4 kV4 dc4 pm4 cd4 ct4 oc5 kV5 dc5 pm5 cd5 ct5 oc6 kV6 dc6 pm6 cd6 ct6 oc7 kV7 dc7 pm7 cd7 ct7 oc8 kV8 dc8 pm8 cd8 ct8 oc9 kV9 dc9 pm9 cd9 ct9 oc10 kV10 dc10 pm10 cd10 ct10 oc11 kV11 dc11 pm11 cd11 ct11 oc12 kV12 dc12 pm12 cd12 ct12 oc13 kV13 dc13 pm13 cd13 ct13 oc14 kV14 dc14 pm14 cd14 ct14 oc15 kV15 dc15 pm15 cd15 ct15 oc16 kV16 dc16 pm16 cd16 ct16 oc17 kV17 dc17 pm17 cd17 ct17 oc18 kV18 dc18 pm18 cd18 ct18 oc19 kV19 dc19 pm19 cd19 ct19 oc20 kV20 dc20 pm20 cd20 ct20 oc21 kV21 dc21 pm21 cd21 ct21 : Value}
  (a0 : PySem.W.nsIn K mainGlobals "first_place" = some (some (.ref f0))) (l0 : K.lookup f0 = some ⟨oc0, od0, .func (PySem.W.fnOf "first_place" "first_place" (cJ eU) (bR eU) (aM eU) .none kV0 dc0 pm0 an0 cd0 ct0), sl0⟩) (c0 : PySem.W.codeIn K cd0 "first_place" = true) (k0 : PySem.W.keepIn K (.ref f0) = true)
  (a1 : PySem.W.nsIn K mainGlobals "holds_rows" = some (some (.ref f1))) (l1 : K.lookup f1 = some ⟨oc1, od1, .func (PySem.W.fnOf "holds_rows" "holds_rows" (cJ fE) (bR fE) (aM fE) .none kV1 dc1 pm1 an1 cd1 ct1), sl1⟩) (c1 : PySem.W.codeIn K cd1 "holds_rows" = true) (k1 : PySem.W.keepIn K (.ref f1) = true)
  (a2 : PySem.W.nsIn K mainGlobals "takes_choice" = some (some (.ref f2))) (l2 : K.lookup f2 = some ⟨oc2, od2, .func (PySem.W.fnOf "takes_choice" "takes_choice" (cJ eR) (bR eR) (aM eR) .none kV2 dc2 pm2 an2 cd2 ct2), sl2⟩) (c2 : PySem.W.codeIn K cd2 "takes_choice" = true) (k2 : PySem.W.keepIn K (.ref f2) = true)
  (a3 : PySem.W.nsIn K mainGlobals "ways" = some (some (.ref f3))) (l3 : K.lookup f3 = some ⟨oc3, od3, .func (PySem.W.fnOf "ways" "ways" (cJ jD) (bR jD) (aM jD) .none kV3 dc3 pm3 an3 cd3 ct3), sl3⟩) (c3 : PySem.W.codeIn K cd3 "ways" = true) (k3 : PySem.W.keepIn K (.ref f3) = true)
  (a4 : PySem.W.nsIn K mainGlobals "new_line" = some (some (.ref f4))) (l4 : K.lookup f4 = some ⟨oc4, od4, .func (PySem.W.fnOf "new_line" "new_line" (cJ hE) (bR hE) (aM hE) .none kV4 dc4 pm4 an4 cd4 ct4), sl4⟩) (c4 : PySem.W.codeIn K cd4 "new_line" = true) (k4 : PySem.W.keepIn K (.ref f4) = true)
  (a5 : PySem.W.nsIn K mainGlobals "writing" = some (some (.ref f5))) (l5 : K.lookup f5 = some ⟨oc5, od5, .func (PySem.W.fnOf "writing" "writing" (cJ gT) (bR gT) (aM gT) .none kV5 dc5 pm5 an5 cd5 ct5), sl5⟩) (c5 : PySem.W.codeIn K cd5 "writing" = true) (k5 : PySem.W.keepIn K (.ref f5) = true)
  (a6 : PySem.W.nsIn K mainGlobals "ends_line" = some (some (.ref f6))) (l6 : K.lookup f6 = some ⟨oc6, od6, .func (PySem.W.fnOf "ends_line" "ends_line" (cJ gK) (bR gK) (aM gK) .none kV6 dc6 pm6 an6 cd6 ct6), sl6⟩) (c6 : PySem.W.codeIn K cd6 "ends_line" = true) (k6 : PySem.W.keepIn K (.ref f6) = true)
  (a7 : PySem.W.nsIn K mainGlobals "column_behind" = some (some (.ref f7))) (l7 : K.lookup f7 = some ⟨oc7, od7, .func (PySem.W.fnOf "column_behind" "column_behind" (cJ eV) (bR eV) (aM eV) .none kV7 dc7 pm7 an7 cd7 ct7), sl7⟩) (c7 : PySem.W.codeIn K cd7 "column_behind" = true) (k7 : PySem.W.keepIn K (.ref f7) = true)
  (a8 : PySem.W.nsIn K mainGlobals "set_by" = some (some (.ref f8))) (l8 : K.lookup f8 = some ⟨oc8, od8, .func (PySem.W.fnOf "set_by" "set_by" (cJ gO) (bR gO) (aM gO) .none kV8 dc8 pm8 an8 cd8 ct8), sl8⟩) (c8 : PySem.W.codeIn K cd8 "set_by" = true) (k8 : PySem.W.keepIn K (.ref f8) = true)
  (a9 : PySem.W.nsIn K mainGlobals "_law_cell_at" = some (some (.ref f9))) (l9 : K.lookup f9 = some ⟨oc9, od9, .func (PySem.W.fnOf "_law_cell_at" "_law_cell_at" (cJ gS) (bR gS) (aM gS) .none kV9 dc9 pm9 an9 cd9 ct9), sl9⟩) (c9 : PySem.W.codeIn K cd9 "_law_cell_at" = true) (k9 : PySem.W.keepIn K (.ref f9) = true)
  (a10 : PySem.W.nsIn K mainGlobals "_law_mixed" = some (some (.ref f10))) (l10 : K.lookup f10 = some ⟨oc10, od10, .func (PySem.W.fnOf "_law_mixed" "_law_mixed" (cJ iB) (bR iB) (aM iB) .none kV10 dc10 pm10 an10 cd10 ct10), sl10⟩) (c10 : PySem.W.codeIn K cd10 "_law_mixed" = true) (k10 : PySem.W.keepIn K (.ref f10) = true)
  (a11 : PySem.W.nsIn K mainGlobals "_law_word" = some (some (.ref f11))) (l11 : K.lookup f11 = some ⟨oc11, od11, .func (PySem.W.fnOf "_law_word" "_law_word" (cJ kZ) (bR kZ) (aM kZ) .none kV11 dc11 pm11 an11 cd11 ct11), sl11⟩) (c11 : PySem.W.codeIn K cd11 "_law_word" = true) (k11 : PySem.W.keepIn K (.ref f11) = true)
  (a12 : PySem.W.nsIn K mainGlobals "_law_leaf" = some (some (.ref f12))) (l12 : K.lookup f12 = some ⟨oc12, od12, .func (PySem.W.fnOf "_law_leaf" "_law_leaf" (cJ lA) (bR lA) (aM lA) .none kV12 dc12 pm12 an12 cd12 ct12), sl12⟩) (c12 : PySem.W.codeIn K cd12 "_law_leaf" = true) (k12 : PySem.W.keepIn K (.ref f12) = true)
  (a13 : PySem.W.nsIn K mainGlobals "_law_shut" = some (some (.ref f13))) (l13 : K.lookup f13 = some ⟨oc13, od13, .func (PySem.W.fnOf "_law_shut" "_law_shut" (cJ lB) (bR lB) (aM lB) .none kV13 dc13 pm13 an13 cd13 ct13), sl13⟩) (c13 : PySem.W.codeIn K cd13 "_law_shut" = true) (k13 : PySem.W.keepIn K (.ref f13) = true)
  (a14 : PySem.W.nsIn K mainGlobals "_law_row" = some (some (.ref f14))) (l14 : K.lookup f14 = some ⟨oc14, od14, .func (PySem.W.fnOf "_law_row" "_law_row" (cJ mO) (bR mO) (aM mO) .none kV14 dc14 pm14 an14 cd14 ct14), sl14⟩) (c14 : PySem.W.codeIn K cd14 "_law_row" = true) (k14 : PySem.W.keepIn K (.ref f14) = true)
  (a15 : PySem.W.nsIn K mainGlobals "_law_next" = some (some (.ref f15))) (l15 : K.lookup f15 = some ⟨oc15, od15, .func (PySem.W.fnOf "_law_next" "_law_next" (cJ lC) (bR lC) (aM lC) .none kV15 dc15 pm15 an15 cd15 ct15), sl15⟩) (c15 : PySem.W.codeIn K cd15 "_law_next" = true) (k15 : PySem.W.keepIn K (.ref f15) = true)
  (a16 : PySem.W.nsIn K mainGlobals "_law_line" = some (some (.ref f16))) (l16 : K.lookup f16 = some ⟨oc16, od16, .func (PySem.W.fnOf "_law_line" "_law_line" (cJ lD) (bR lD) (aM lD) .none kV16 dc16 pm16 an16 cd16 ct16), sl16⟩) (c16 : PySem.W.codeIn K cd16 "_law_line" = true) (k16 : PySem.W.keepIn K (.ref f16) = true)
  (a17 : PySem.W.nsIn K mainGlobals "_law_column" = some (some (.ref f17))) (l17 : K.lookup f17 = some ⟨oc17, od17, .func (PySem.W.fnOf "_law_column" "_law_column" (cJ jH) (bR jH) (aM jH) .none kV17 dc17 pm17 an17 cd17 ct17), sl17⟩) (c17 : PySem.W.codeIn K cd17 "_law_column" = true) (k17 : PySem.W.keepIn K (.ref f17) = true)
  (a18 : PySem.W.nsIn K mainGlobals "_law_set" = some (some (.ref f18))) (l18 : K.lookup f18 = some ⟨oc18, od18, .func (PySem.W.fnOf "_law_set" "_law_set" (cJ lE) (bR lE) (aM lE) .none kV18 dc18 pm18 an18 cd18 ct18), sl18⟩) (c18 : PySem.W.codeIn K cd18 "_law_set" = true) (k18 : PySem.W.keepIn K (.ref f18) = true)
  (a19 : PySem.W.nsIn K mainGlobals "_law_drawn" = some (some (.ref f19))) (l19 : K.lookup f19 = some ⟨oc19, od19, .func (PySem.W.fnOf "_law_drawn" "_law_drawn" (cJ jZ) (bR jZ) (aM jZ) .none kV19 dc19 pm19 an19 cd19 ct19), sl19⟩) (c19 : PySem.W.codeIn K cd19 "_law_drawn" = true) (k19 : PySem.W.keepIn K (.ref f19) = true)
  (a20 : PySem.W.nsIn K mainGlobals "_law_refused" = some (some (.ref f20))) (l20 : K.lookup f20 = some ⟨oc20, od20, .func (PySem.W.fnOf "_law_refused" "_law_refused" (cJ iP) (bR iP) (aM iP) .none kV20 dc20 pm20 an20 cd20 ct20), sl20⟩) (c20 : PySem.W.codeIn K cd20 "_law_refused" = true) (k20 : PySem.W.keepIn K (.ref f20) = true)
  (a21 : PySem.W.nsIn K mainGlobals "law" = some (some (.ref f21))) (l21 : K.lookup f21 = some ⟨oc21, od21, .func (PySem.W.fnOf "law" "law" (cJ nK) (bR nK) (aM nK) .none kV21 dc21 pm21 an21 cd21 ct21), sl21⟩) (c21 : PySem.W.codeIn K cd21 "law" = true) (k21 : PySem.W.keepIn K (.ref f21) = true)
  (z0 : PySem.W.nsIn K mainGlobals "len" = some none)
  (z1 : PySem.W.nsIn K mainGlobals "max" = some none)
  (z2 : PySem.W.nsIn K mainGlobals "range" = some none)
  (z3 : PySem.W.nsIn K mainGlobals "tuple" = some none)
  (z4 : PySem.W.nsIn K mainGlobals "int" = some none)
  (z5 : PySem.W.nsIn K mainGlobals "isinstance" = some none)
  (z6 : PySem.W.nsIn K mainGlobals "str" = some none)
  {aHOLDERS : Addr} {odHOLDERS : Option Addr} {nHOLDERS : Nat} {slHOLDERS : Array (Option Value)} {uHOLDERS_0 uHOLDERS_1 uHOLDERS_2 : Tok}
  (g0 : PySem.W.nsIn K mainGlobals "HOLDERS" = some (some (.ref aHOLDERS)))
  (dtHOLDERS : K.lookup aHOLDERS = some ⟨.type "tuple", odHOLDERS, .seq #[.str "group" uHOLDERS_0, .str "hang" uHOLDERS_1, .str "either" uHOLDERS_2] nHOLDERS, slHOLDERS⟩)
  {C_Place : Addr} {f_Place_init : Addr} {od_Place_init an_Place_init : Option Addr} {sl_Place_init : Array (Option Value)} {oc_Place_init kV_Place_init dc_Place_init pm_Place_init cd_Place_init ct_Place_init : Value}
  (gC_Place : PySem.W.nsIn K mainGlobals "Place" = some (some (.ref C_Place)))
  (pg_Place : PySem.W.plainGet K C_Place Str.empty = true)
  (hd_Place : PySem.W.hasDictIn K C_Place = true)
  (po_Place : PySem.W.plainOver K C_Place = true)
  (sa_Place : PySem.W.findIn K (.ref C_Place) "__setattr__" = some (some (.builtin "object.__setattr__")))
  (mk_Place : PySem.W.makesIn K C_Place = true)
  (kc_Place : PySem.W.keepIn K (.ref C_Place) = true)
  (fi_Place_init : PySem.W.findIn K (.ref C_Place) "__init__" = some (some (.ref f_Place_init)))
  (is_Place_init : PySem.W.isFn K (.ref f_Place_init) = true)
  (lo_Place_init : K.lookup f_Place_init = some ⟨oc_Place_init, od_Place_init, .func (PySem.W.fnOf "__init__" "Place.__init__" (cJ fV) (bR fV) (aM fV) .none kV_Place_init dc_Place_init pm_Place_init an_Place_init cd_Place_init ct_Place_init), sl_Place_init⟩)
  (co_Place_init : PySem.W.codeIn K cd_Place_init "Place.__init__" = true)
  (ke_Place_init : PySem.W.keepIn K (.ref f_Place_init) = true)
  (nf_broken : PySem.W.findIn K (.ref C_Place) "broken" = some none)
  (nf_margin : PySem.W.findIn K (.ref C_Place) "margin" = some none)
  {C_Setter : Addr} {f_Setter_init f_Setter_choice_below f_Setter_set_plain f_Setter_set_holder f_Setter_set_row f_Setter_whole_text : Addr} {od_Setter_init an_Setter_init od_Setter_choice_below an_Setter_choice_below od_Setter_set_plain an_Setter_set_plain od_Setter_set_holder an_Setter_set_holder od_Setter_set_row an_Setter_set_row od_Setter_whole_text an_Setter_whole_text : Option Addr} {sl_Setter_init sl_Setter_choice_below sl_Setter_set_plain sl_Setter_set_holder sl_Setter_set_row sl_Setter_whole_text : Array (Option Value)} {oc_Setter_init kV_Setter_init dc_Setter_init pm_Setter_init cd_Setter_init ct_Setter_init oc_Setter_choice_below kV_Setter_choice_below dc_Setter_choice_below pm_Setter_choice_below cd_Setter_choice_below ct_Setter_choice_below oc_Setter_set_plain kV_Setter_set_plain dc_Setter_set_plain pm_Setter_set_plain cd_Setter_set_plain ct_Setter_set_plain oc_Setter_set_holder kV_Setter_set_holder dc_Setter_set_holder pm_Setter_set_holder cd_Setter_set_holder ct_Setter_set_holder oc_Setter_set_row kV_Setter_set_row dc_Setter_set_row pm_Setter_set_row cd_Setter_set_row ct_Setter_set_row oc_Setter_whole_text kV_Setter_whole_text dc_Setter_whole_text pm_Setter_whole_text cd_Setter_whole_text ct_Setter_whole_text : Value}
  (gC_Setter : PySem.W.nsIn K mainGlobals "Setter" = some (some (.ref C_Setter)))
  (pg_Setter : PySem.W.plainGet K C_Setter Str.empty = true)
  (hd_Setter : PySem.W.hasDictIn K C_Setter = true)
  (po_Setter : PySem.W.plainOver K C_Setter = true)
  (sa_Setter : PySem.W.findIn K (.ref C_Setter) "__setattr__" = some (some (.builtin "object.__setattr__")))
  (mk_Setter : PySem.W.makesIn K C_Setter = true)
  (kc_Setter : PySem.W.keepIn K (.ref C_Setter) = true)
  (fi_Setter_init : PySem.W.findIn K (.ref C_Setter) "__init__" = some (some (.ref f_Setter_init)))
  (is_Setter_init : PySem.W.isFn K (.ref f_Setter_init) = true)
  (lo_Setter_init : K.lookup f_Setter_init = some ⟨oc_Setter_init, od_Setter_init, .func (PySem.W.fnOf "__init__" "Setter.__init__" (cJ fP) (bR fP) (aM fP) .none kV_Setter_init dc_Setter_init pm_Setter_init an_Setter_init cd_Setter_init ct_Setter_init), sl_Setter_init⟩)
  (co_Setter_init : PySem.W.codeIn K cd_Setter_init "Setter.__init__" = true)
  (ke_Setter_init : PySem.W.keepIn K (.ref f_Setter_init) = true)
  (fi_Setter_choice_below : PySem.W.findIn K (.ref C_Setter) "choice_below" = some (some (.ref f_Setter_choice_below)))
  (is_Setter_choice_below : PySem.W.isFn K (.ref f_Setter_choice_below) = true)
  (lo_Setter_choice_below : K.lookup f_Setter_choice_below = some ⟨oc_Setter_choice_below, od_Setter_choice_below, .func (PySem.W.fnOf "choice_below" "Setter.choice_below" (cJ cY) (bR cY) (aM cY) .none kV_Setter_choice_below dc_Setter_choice_below pm_Setter_choice_below an_Setter_choice_below cd_Setter_choice_below ct_Setter_choice_below), sl_Setter_choice_below⟩)
  (co_Setter_choice_below : PySem.W.codeIn K cd_Setter_choice_below "Setter.choice_below" = true)
  (ke_Setter_choice_below : PySem.W.keepIn K (.ref f_Setter_choice_below) = true)
  (fi_Setter_set_plain : PySem.W.findIn K (.ref C_Setter) "set_plain" = some (some (.ref f_Setter_set_plain)))
  (is_Setter_set_plain : PySem.W.isFn K (.ref f_Setter_set_plain) = true)
  (lo_Setter_set_plain : K.lookup f_Setter_set_plain = some ⟨oc_Setter_set_plain, od_Setter_set_plain, .func (PySem.W.fnOf "set_plain" "Setter.set_plain" (cJ dQ) (bR dQ) (aM dQ) .none kV_Setter_set_plain dc_Setter_set_plain pm_Setter_set_plain an_Setter_set_plain cd_Setter_set_plain ct_Setter_set_plain), sl_Setter_set_plain⟩)
  (co_Setter_set_plain : PySem.W.codeIn K cd_Setter_set_plain "Setter.set_plain" = true)
  (ke_Setter_set_plain : PySem.W.keepIn K (.ref f_Setter_set_plain) = true)
  (fi_Setter_set_holder : PySem.W.findIn K (.ref C_Setter) "set_holder" = some (some (.ref f_Setter_set_holder)))
  (is_Setter_set_holder : PySem.W.isFn K (.ref f_Setter_set_holder) = true)
  (lo_Setter_set_holder : K.lookup f_Setter_set_holder = some ⟨oc_Setter_set_holder, od_Setter_set_holder, .func (PySem.W.fnOf "set_holder" "Setter.set_holder" (cJ dN) (bR dN) (aM dN) .none kV_Setter_set_holder dc_Setter_set_holder pm_Setter_set_holder an_Setter_set_holder cd_Setter_set_holder ct_Setter_set_holder), sl_Setter_set_holder⟩)
  (co_Setter_set_holder : PySem.W.codeIn K cd_Setter_set_holder "Setter.set_holder" = true)
  (ke_Setter_set_holder : PySem.W.keepIn K (.ref f_Setter_set_holder) = true)
  (fi_Setter_set_row : PySem.W.findIn K (.ref C_Setter) "set_row" = some (some (.ref f_Setter_set_row)))
  (is_Setter_set_row : PySem.W.isFn K (.ref f_Setter_set_row) = true)
  (lo_Setter_set_row : K.lookup f_Setter_set_row = some ⟨oc_Setter_set_row, od_Setter_set_row, .func (PySem.W.fnOf "set_row" "Setter.set_row" (cJ dJ) (bR dJ) (aM dJ) .none kV_Setter_set_row dc_Setter_set_row pm_Setter_set_row an_Setter_set_row cd_Setter_set_row ct_Setter_set_row), sl_Setter_set_row⟩)
  (co_Setter_set_row : PySem.W.codeIn K cd_Setter_set_row "Setter.set_row" = true)
  (ke_Setter_set_row : PySem.W.keepIn K (.ref f_Setter_set_row) = true)
  (fi_Setter_whole_text : PySem.W.findIn K (.ref C_Setter) "whole_text" = some (some (.ref f_Setter_whole_text)))
  (is_Setter_whole_text : PySem.W.isFn K (.ref f_Setter_whole_text) = true)
  (lo_Setter_whole_text : K.lookup f_Setter_whole_text = some ⟨oc_Setter_whole_text, od_Setter_whole_text, .func (PySem.W.fnOf "whole_text" "Setter.whole_text" (cJ dO) (bR dO) (aM dO) .none kV_Setter_whole_text dc_Setter_whole_text pm_Setter_whole_text an_Setter_whole_text cd_Setter_whole_text ct_Setter_whole_text), sl_Setter_whole_text⟩)
  (co_Setter_whole_text : PySem.W.codeIn K cd_Setter_whole_text "Setter.whole_text" = true)
  (ke_Setter_whole_text : PySem.W.keepIn K (.ref f_Setter_whole_text) = true)
  (nf_choices : PySem.W.findIn K (.ref C_Setter) "choices" = some none)
  (nf_used : PySem.W.findIn K (.ref C_Setter) "used" = some none)
  (nf_column : PySem.W.findIn K (.ref C_Setter) "column" = some none)
  (nf_parts : PySem.W.findIn K (.ref C_Setter) "parts" = some none)
  {C_NoChoice : Addr} (gE_NoChoice : PySem.W.nsIn K mainGlobals "NoChoice" = some (some (.ref C_NoChoice))) (xE_NoChoice : PySem.W.excIn K C_NoChoice [.type "ValueError", .type "Exception", .type "BaseException", .type "object"] "ValueError.__new__" = true)
  : ∃ fd : FuncData, (∀ (s : Shared) (v : Value), BindsTo s fd ⟨[v], []⟩ [("_law_script", v)]) /\ ∀ base : Heap, K.In base -> base.Ns mainGlobals mg -> FnOk l.prog w K mg base CX0 22 fa fd ["_law_script"] (ze5 K) := by
 have e := hfa.symm.trans (PySem.W.mg_of X G a21)
 cases e
 have D_p_first_place := fX (st := eU) (ps := []) X G a0 l0 c0 k0 fun _ _ _ _ _ _ us hl => match us, hl with | [], _ => rfl
 have D_p_holds_rows := fX (st := fE) (ps := ["piece"]) X G a1 l1 c1 k1 fun _ _ _ _ _ _ => dL (fun _ => rfl)
 have D_p_takes_choice := fX (st := eR) (ps := ["piece", "place"]) X G a2 l2 c2 k2 fun _ _ _ _ _ _ => dL (fun _ _ => rfl)
 have D_p_ways := fX (st := jD) (ps := ["piece", "place"]) X G a3 l3 c3 k3 fun _ _ _ _ _ _ => dL (fun _ _ => rfl)
 have D_p_new_line := fX (st := hE) (ps := ["blanks"]) X G a4 l4 c4 k4 fun _ _ _ _ _ _ => dL (fun _ => rfl)
 have D_p_writing := fX (st := gT) (ps := ["piece", "place", "column"]) X G a5 l5 c5 k5 fun _ _ _ _ _ _ => dL (fun _ _ _ => rfl)
 have D_p_ends_line := fX (st := gK) (ps := ["wrote"]) X G a6 l6 c6 k6 fun _ _ _ _ _ _ => dL (fun _ => rfl)
 have D_p_column_behind := fX (st := eV) (ps := ["column", "wrote"]) X G a7 l7 c7 k7 fun _ _ _ _ _ _ => dL (fun _ _ => rfl)
 have D_p_set_by := fX (st := gO) (ps := ["row", "choices"]) X G a8 l8 c8 k8 fun _ _ _ _ _ _ => dL (fun _ _ => rfl)
 have D_l_cell_at := fX (st := gS) (ps := ["_law_script", "_law_k"]) X G a9 l9 c9 k9 fun _ _ _ _ _ _ => dL (fun _ _ => rfl)
 have D_l_mixed := fX (st := iB) (ps := ["_law_script", "_law_k", "_law_salt"]) X G a10 l10 c10 k10 fun _ _ _ _ _ _ => dL (fun _ _ _ => rfl)
 have D_l_word := fX (st := kZ) (ps := ["_law_number"]) X G a11 l11 c11 k11 fun _ _ _ _ _ _ => dL (fun _ => rfl)
 have D_l_leaf := fX (st := lA) (ps := ["_law_number"]) X G a12 l12 c12 k12 fun _ _ _ _ _ _ => dL (fun _ => rfl)
 have D_l_shut := fX (st := lB) (ps := ["_law_frames"]) X G a13 l13 c13 k13 fun _ _ _ _ _ _ => dL (fun _ => rfl)
 have D_l_row := fX (st := mO) (ps := ["_law_script", "_law_at", "_law_many", "_law_nest"]) X G a14 l14 c14 k14 fun _ _ _ _ _ _ => dL (fun _ _ _ _ => rfl)
 have D_l_next := fX (st := lC) (ps := ["_law_script", "_law_state", "_law_salt", "_law_many"]) X G a15 l15 c15 k15 fun _ _ _ _ _ _ => dL (fun _ _ _ _ => rfl)
 have D_l_line := fX (st := lD) (ps := ["_law_state", "_law_blanks"]) X G a16 l16 c16 k16 fun _ _ _ _ _ _ => dL (fun _ _ => rfl)
 have D_l_column := fX (st := jH) (ps := ["_law_state"]) X G a17 l17 c17 k17 fun _ _ _ _ _ _ => dL (fun _ => rfl)
 have D_l_set := fX (st := lE) (ps := ["_law_script", "_law_row_here", "_law_flat", "_law_hang", "_law_state", "_law_salt"]) X G a18 l18 c18 k18 fun _ _ _ _ _ _ => dL (fun _ _ _ _ _ _ => rfl)
 have D_l_drawn := fX (st := jZ) (ps := ["_law_script", "_law_row_here", "_law_salt"]) X G a19 l19 c19 k19 fun _ _ _ _ _ _ => dL (fun _ _ _ => rfl)
 have D_l_refused := fX (st := iP) (ps := ["_law_row_here", "_law_choices"]) X G a20 l20 c20 k20 fun _ _ _ _ _ _ => dL (fun _ _ => rfl)
 have D_law := fX (st := nK) (ps := ["_law_script"]) X G a21 l21 c21 k21 fun _ _ _ _ _ _ => dL (fun _ => rfl)
 obtain ⟨U, hU⟩ : ∃ U, U = (kap [("Place", C_Place), ("Setter", C_Setter)]) := ⟨_, rfl⟩
 have eK_Place : U "Place" = C_Place := by rw [hU]; simp [kap, bF]
 have cl_Place : Cls K (U "Place") := by rw [eK_Place]; exact ⟨pg_Place, hd_Place, po_Place, sa_Place⟩
 have K_Place : Kn K mg U "Place" "Place.__init__" fV ["self", "broken", "margin"] f_Place_init _ := ⟨(hJ lo_Place_init co_Place_init ke_Place_init), ((hJ lo_Place_init co_Place_init ke_Place_init).binds fun _ _ _ _ _ _ => dL (fun _ _ _ => rfl)), (by rw [eK_Place]; exact ⟨mk_Place, fi_Place_init, is_Place_init, kc_Place⟩), (by rw [eK_Place]; exact PySem.W.mg_of X G gC_Place)⟩
 have na_broken : cH K (U "Place") "broken" := by rw [eK_Place]; exact nf_broken
 have na_margin : cH K (U "Place") "margin" := by rw [eK_Place]; exact nf_margin
 have eK_Setter : U "Setter" = C_Setter := by rw [hU]; simp [kap, bF]
 have cl_Setter : Cls K (U "Setter") := by rw [eK_Setter]; exact ⟨pg_Setter, hd_Setter, po_Setter, sa_Setter⟩
 have K_Setter : Kn K mg U "Setter" "Setter.__init__" fP ["self", "choices"] f_Setter_init _ := ⟨(hJ lo_Setter_init co_Setter_init ke_Setter_init), ((hJ lo_Setter_init co_Setter_init ke_Setter_init).binds fun _ _ _ _ _ _ => dL (fun _ _ => rfl)), (by rw [eK_Setter]; exact ⟨mk_Setter, fi_Setter_init, is_Setter_init, kc_Setter⟩), (by rw [eK_Setter]; exact PySem.W.mg_of X G gC_Setter)⟩
 have M_Setter_choice_below : Mn K U "Setter" "choice_below" "Setter.choice_below" cY ["self", "count"] f_Setter_choice_below _ := ⟨(hJ lo_Setter_choice_below co_Setter_choice_below ke_Setter_choice_below), ((hJ lo_Setter_choice_below co_Setter_choice_below ke_Setter_choice_below).binds fun _ _ _ _ _ _ => dL (fun _ _ => rfl)), cl_Setter, (by rw [eK_Setter]; exact ⟨fi_Setter_choice_below, is_Setter_choice_below, ke_Setter_choice_below⟩)⟩
 have M_Setter_set_plain : Mn K U "Setter" "set_plain" "Setter.set_plain" dQ ["self", "piece", "place"] f_Setter_set_plain _ := ⟨(hJ lo_Setter_set_plain co_Setter_set_plain ke_Setter_set_plain), ((hJ lo_Setter_set_plain co_Setter_set_plain ke_Setter_set_plain).binds fun _ _ _ _ _ _ => dL (fun _ _ _ => rfl)), cl_Setter, (by rw [eK_Setter]; exact ⟨fi_Setter_set_plain, is_Setter_set_plain, ke_Setter_set_plain⟩)⟩
 have M_Setter_set_holder : Mn K U "Setter" "set_holder" "Setter.set_holder" dN ["self", "piece", "place"] f_Setter_set_holder _ := ⟨(hJ lo_Setter_set_holder co_Setter_set_holder ke_Setter_set_holder), ((hJ lo_Setter_set_holder co_Setter_set_holder ke_Setter_set_holder).binds fun _ _ _ _ _ _ => dL (fun _ _ _ => rfl)), cl_Setter, (by rw [eK_Setter]; exact ⟨fi_Setter_set_holder, is_Setter_set_holder, ke_Setter_set_holder⟩)⟩
 have M_Setter_set_row : Mn K U "Setter" "set_row" "Setter.set_row" dJ ["self", "row", "place"] f_Setter_set_row _ := ⟨(hJ lo_Setter_set_row co_Setter_set_row ke_Setter_set_row), ((hJ lo_Setter_set_row co_Setter_set_row ke_Setter_set_row).binds fun _ _ _ _ _ _ => dL (fun _ _ _ => rfl)), cl_Setter, (by rw [eK_Setter]; exact ⟨fi_Setter_set_row, is_Setter_set_row, ke_Setter_set_row⟩)⟩
 have M_Setter_whole_text : Mn K U "Setter" "whole_text" "Setter.whole_text" dO ["self"] f_Setter_whole_text _ := ⟨(hJ lo_Setter_whole_text co_Setter_whole_text ke_Setter_whole_text), ((hJ lo_Setter_whole_text co_Setter_whole_text ke_Setter_whole_text).binds fun _ _ _ _ _ _ => dL (fun _ => rfl)), cl_Setter, (by rw [eK_Setter]; exact ⟨fi_Setter_whole_text, is_Setter_whole_text, ke_Setter_whole_text⟩)⟩
 have na_choices : cH K (U "Setter") "choices" := by rw [eK_Setter]; exact nf_choices
 have na_used : cH K (U "Setter") "used" := by rw [eK_Setter]; exact nf_used
 have na_column : cH K (U "Setter") "column" := by rw [eK_Setter]; exact nf_column
 have na_parts : cH K (U "Setter") "parts" := by rw [eK_Setter]; exact nf_parts
 have z_len := PySem.W.mg_none_of X G z0
 have z_max := PySem.W.mg_none_of X G z1
 have z_range := PySem.W.mg_none_of X G z2
 have z_tuple := PySem.W.mg_none_of X G z3
 have z_int := PySem.W.mg_none_of X G z4
 have z_isinstance := PySem.W.mg_none_of X G z5
 have z_str := PySem.W.mg_none_of X G z6
 have g_HOLDERS := PySem.W.mg_of X G g0
 have k_HOLDERS : ∀ H, Rep K U H (.ref aHOLDERS) (.tup [(.str "group"), (.str "hang"), (.str "either")]) [] := fun H => yd8 (ys := [("group", uHOLDERS_0), ("hang", uHOLDERS_1), ("either", uHOLDERS_2)]) dtHOLDERS (Nat.le_of_ble_eq_true rfl) H
 refine ⟨PySem.W.fnOf "law" "law" (cJ nK) (bR nK) (aM nK) .none kV21 dc21 pm21 an21 cd21 ct21, fun s v => .of_eq rfl, fun base KB _ => ?_⟩
 have O_NoChoice : OwnCls "NoChoice" C_NoChoice bmV "ValueError.__new__" mg base := ⟨PySem.W.mg_of X G gE_NoChoice, yk3 KB xE_NoChoice⟩
 have H1 := zh8 (P := l.prog) (w := w) (base := base) (n := 0) D_l_cell_at z_len
 have H2 := zs3 (n := 1) D_l_mixed D_l_cell_at H1 z_len z_max
 have G_l_mixed := yw4 (U := U) H2
 have G_l_cell_at := yu5 (U := U) H1
 have G_l_shut := zy5 (P := l.prog) (w := w) (base := base) (U := U) (n := 0) D_l_shut z_tuple z_len
 have G_l_word := zy3 (P := l.prog) (w := w) (base := base) (U := U) (n := 0) D_l_word z_range
 have G_l_leaf := zy4 (P := l.prog) (w := w) (base := base) (U := U) (n := 1) D_l_leaf D_l_word (G_l_word.mono (by decide))
 have G_l_row := ye2 (P := l.prog) (w := w) (base := base) (U := U) (n := 2) D_l_row D_l_mixed (G_l_mixed.mono (by decide)) D_l_shut (G_l_shut.mono (by decide)) D_l_leaf (G_l_leaf.mono (by decide)) z_range z_tuple z_len
 have G_l_line := zy8 (P := l.prog) (w := w) (base := base) (U := U) (n := 0) D_l_line
 have G_l_column := zl8 (P := l.prog) (w := w) (base := base) (U := U) (n := 0) D_l_column z_len
 have G_l_next := zy6 (P := l.prog) (w := w) (base := base) (U := U) (n := 2) D_l_next D_l_mixed (G_l_mixed.mono (by decide)) D_l_cell_at (G_l_cell_at.mono (by decide))
 have L_l_set : ∀ n, FnOk l.prog w K mg base CX0 (n + 3) _ _ ["_law_script", "_law_row_here", "_law_flat", "_law_hang", "_law_state", "_law_salt"] (SpE 6 K U (aZ [false, false, false, false, true, false]) (jF (kB zu3 ze6) n)) := fun n => by
  induction n with
  | zero => exact FnOk.noneE (ps := ["_law_script", "_law_row_here", "_law_flat", "_law_hang", "_law_state", "_law_salt"])
  | succ n ih => exact ye3 D_l_set D_l_line (G_l_line.mono (by omega)) D_l_column (G_l_column.mono (by omega)) D_l_next (G_l_next.mono (by omega)) ih z_len z_int
 have G_l_set := L_l_set 8
 have G_Setter_init := zW (P := l.prog) (w := w) (base := base) (U := U) (n := 0) K_Setter cl_Setter na_choices na_used na_column na_parts
 have G_p_holds_rows := xV (P := l.prog) (w := w) (base := base) (U := U) (n := 0) D_p_holds_rows g_HOLDERS k_HOLDERS
 have G_p_new_line := zd0 (P := l.prog) (w := w) (base := base) (U := U) (n := 0) D_p_new_line
 have G_p_writing := zh9 (P := l.prog) (w := w) (base := base) (U := U) (n := 1) D_p_writing D_p_new_line (G_p_new_line.mono (by decide)) cl_Place na_broken na_margin
 have G_p_ends_line := zU (P := l.prog) (w := w) (base := base) (U := U) (n := 0) D_p_ends_line
 have G_p_column_behind := uH (P := l.prog) (w := w) (base := base) (U := U) (n := 1) D_p_column_behind D_p_ends_line (G_p_ends_line.mono (by decide)) z_len
 have G_Setter_set_plain := tJ (P := l.prog) (w := w) (base := base) (U := U) (n := 2) M_Setter_set_plain D_p_writing (G_p_writing.mono (by decide)) D_p_column_behind (G_p_column_behind.mono (by decide)) cl_Setter na_column na_parts
 have G_Place_init := zd2 (P := l.prog) (w := w) (base := base) (U := U) (n := 0) K_Place cl_Place na_broken na_margin
 have G_p_ways := zy2 (P := l.prog) (w := w) (base := base) (U := U) (n := 1) D_p_ways K_Place (G_Place_init.mono (by decide)) cl_Place na_broken na_margin
 have G_p_takes_choice := vZ (P := l.prog) (w := w) (base := base) (U := U) (n := 0) D_p_takes_choice cl_Place na_broken
 have G_Setter_choice_below := qZ (P := l.prog) (w := w) (base := base) (U := U) (n := 0) M_Setter_choice_below cl_Setter na_used na_choices z_len
 have L_Setter_set_row : ∀ n, FnOk l.prog w K mg base CX0 (2 * n + 3) _ _ ["self", "row", "place"] (SpE 3 K U (aZ [true, false, false]) (kO n)) := fun n => by
  induction n with
  | zero => exact FnOk.noneE (ps := ["self", "row", "place"])
  | succ n ih => exact wA (n := 2 * n + 4) M_Setter_set_row D_p_holds_rows (G_p_holds_rows.mono (by omega)) M_Setter_set_holder (nB (n := 2 * n + 3) M_Setter_set_holder D_p_ways (G_p_ways.mono (by omega)) D_p_takes_choice (G_p_takes_choice.mono (by omega)) M_Setter_choice_below (G_Setter_choice_below.mono (by omega)) M_Setter_set_row ih z_len) M_Setter_set_plain (G_Setter_set_plain.mono (by omega))
 have G_Setter_set_row := L_Setter_set_row 8
 have G_p_first_place := wS (P := l.prog) (w := w) (base := base) (U := U) (n := 1) D_p_first_place K_Place (G_Place_init.mono (by decide))
 have GX_Setter_set_plain := sK (P := l.prog) (w := w) (base := base) (U := U) (n := 2) M_Setter_set_plain D_p_writing (G_p_writing.mono (by decide)) O_NoChoice cl_Setter na_column na_parts
 have GX_Setter_choice_below := qF (P := l.prog) (w := w) (base := base) (U := U) (n := 0) M_Setter_choice_below O_NoChoice cl_Setter na_used na_choices z_len
 have LX_Setter_set_row : ∀ n, FnOk l.prog w K mg base (CXn l.prog w base C_NoChoice) (2 * n + 3) _ _ ["self", "row", "place"] (lV 3 K U (aZ [true, false, false]) C_NoChoice (yZ n)) := fun n => by
  induction n with
  | zero => exact FnOk.noneXE (ps := ["self", "row", "place"])
  | succ n ih => exact uI (n := 2 * n + 4) M_Setter_set_row D_p_holds_rows (G_p_holds_rows.mono (by omega)) M_Setter_set_holder (nB (n := 2 * n + 3) M_Setter_set_holder D_p_ways (G_p_ways.mono (by omega)) D_p_takes_choice (G_p_takes_choice.mono (by omega)) M_Setter_choice_below (G_Setter_choice_below.mono (by omega)) M_Setter_set_row ((L_Setter_set_row n).mono (by omega)) z_len) (rP (n := 2 * n + 3) M_Setter_set_holder D_p_ways (G_p_ways.mono (by omega)) D_p_takes_choice (G_p_takes_choice.mono (by omega)) M_Setter_choice_below (G_Setter_choice_below.mono (by omega)) (GX_Setter_choice_below.mono (by omega)) M_Setter_set_row ih O_NoChoice z_len) M_Setter_set_plain (G_Setter_set_plain.mono (by omega)) (GX_Setter_set_plain.mono (by omega)) O_NoChoice
 have GX_Setter_set_row := LX_Setter_set_row 8
 have GX_Setter_whole_text := rQ (P := l.prog) (w := w) (base := base) (U := U) (n := 0) M_Setter_whole_text O_NoChoice cl_Setter na_used na_parts na_choices z_len
 have GX_p_set_by := zi0 (P := l.prog) (w := w) (base := base) (U := U) (n := 18) D_p_set_by K_Setter (G_Setter_init.mono (by decide)) M_Setter_set_row (G_Setter_set_row.mono (by decide)) (GX_Setter_set_row.mono (by decide)) D_p_first_place (G_p_first_place.mono (by decide)) M_Setter_whole_text (GX_Setter_whole_text.mono (by decide)) O_NoChoice
 have G_l_refused := zi2 (P := l.prog) (w := w) (base := base) (U := U) (n := 20) D_l_refused D_p_set_by (GX_p_set_by.mono (by decide)) O_NoChoice
 have G_l_drawn := zs4 (P := l.prog) (w := w) (base := base) (U := U) (n := 11) D_l_drawn D_l_set (G_l_set.mono (by decide)) z_tuple
 have G_Setter_whole_text := sL (P := l.prog) (w := w) (base := base) (U := U) (n := 0) M_Setter_whole_text cl_Setter na_used na_parts na_choices z_len
 have G_p_set_by := zl6 (P := l.prog) (w := w) (base := base) (U := U) (n := 18) D_p_set_by K_Setter (G_Setter_init.mono (by decide)) M_Setter_set_row (G_Setter_set_row.mono (by decide)) D_p_first_place (G_p_first_place.mono (by decide)) M_Setter_whole_text (G_Setter_whole_text.mono (by decide))
 have G_law := yq1 (P := l.prog) (w := w) (base := base) (U := U) (n := 21) D_law D_l_mixed (G_l_mixed.mono (by decide)) D_l_row (G_l_row.mono (by decide)) D_l_set (G_l_set.mono (by decide)) D_l_refused (G_l_refused.mono (by decide)) D_l_drawn (G_l_drawn.mono (by decide)) D_p_set_by (G_p_set_by.mono (by decide)) z_range z_tuple z_isinstance z_str
 exact yw5 G_law fun ns hl => zt7 (by decide) (by decide) (kU ns) (fun j s h0 h1 h2 h3 => yg0 hl j s h0 h1 h2 h3) (fun j _ _ => ⟨_, yb5 ns j⟩)
end My
open PySem PySem.W PyProof.Rows
set_option maxRecDepth 100000 in
set_option maxHeartbeats 0 in
theorem PySem.Challenge.cw_linepress_k11_set_by_choices_holds : PySem.Challenge.rw_linepress_k11_set_by_choices.Holds := by
 w_on; o_law; k_head; (case hw => w_witness2)
 k_fill
 refine My.yw6 (lev := 22) (l := PySem.Challenge.rw_linepress_k11_set_by_choices) rfl rfl ⟨rfl, by decide, by decide⟩ (fun w h Y => PySem.W.kIn_of Y) ?F
 case F =>
  intro w mg fa h KX G hmg
  refine' My.yr2 KX G hmg ?my_a0 ?my_l0 ?my_c0 ?my_k0 ?my_a1 ?my_l1 ?my_c1 ?my_k1 ?my_a2 ?my_l2 ?my_c2 ?my_k2 ?my_a3 ?my_l3 ?my_c3 ?my_k3 ?my_a4 ?my_l4 ?my_c4 ?my_k4 ?my_a5 ?my_l5 ?my_c5 ?my_k5 ?my_a6 ?my_l6 ?my_c6 ?my_k6 ?my_a7 ?my_l7 ?my_c7 ?my_k7 ?my_a8 ?my_l8 ?my_c8 ?my_k8 ?my_a9 ?my_l9 ?my_c9 ?my_k9 ?my_a10 ?my_l10 ?my_c10 ?my_k10 ?my_a11 ?my_l11 ?my_c11 ?my_k11 ?my_a12 ?my_l12 ?my_c12 ?my_k12 ?my_a13 ?my_l13 ?my_c13 ?my_k13 ?my_a14 ?my_l14 ?my_c14 ?my_k14 ?my_a15 ?my_l15 ?my_c15 ?my_k15 ?my_a16 ?my_l16 ?my_c16 ?my_k16 ?my_a17 ?my_l17 ?my_c17 ?my_k17 ?my_a18 ?my_l18 ?my_c18 ?my_k18 ?my_a19 ?my_l19 ?my_c19 ?my_k19 ?my_a20 ?my_l20 ?my_c20 ?my_k20 ?my_a21 ?my_l21 ?my_c21 ?my_k21 ?my_z0 ?my_z1 ?my_z2 ?my_z3 ?my_z4 ?my_z5 ?my_z6 ?my_g0 ?my_dtHOLDERS ?my_gC_Place ?my_pg_Place ?my_hd_Place ?my_po_Place ?my_sa_Place ?my_mk_Place ?my_kc_Place ?my_fi_Place_init ?my_is_Place_init ?my_lo_Place_init ?my_co_Place_init ?my_ke_Place_init ?my_nf_broken ?my_nf_margin ?my_gC_Setter ?my_pg_Setter ?my_hd_Setter ?my_po_Setter ?my_sa_Setter ?my_mk_Setter ?my_kc_Setter ?my_fi_Setter_init ?my_is_Setter_init ?my_lo_Setter_init ?my_co_Setter_init ?my_ke_Setter_init ?my_fi_Setter_choice_below ?my_is_Setter_choice_below ?my_lo_Setter_choice_below ?my_co_Setter_choice_below ?my_ke_Setter_choice_below ?my_fi_Setter_set_plain ?my_is_Setter_set_plain ?my_lo_Setter_set_plain ?my_co_Setter_set_plain ?my_ke_Setter_set_plain ?my_fi_Setter_set_holder ?my_is_Setter_set_holder ?my_lo_Setter_set_holder ?my_co_Setter_set_holder ?my_ke_Setter_set_holder ?my_fi_Setter_set_row ?my_is_Setter_set_row ?my_lo_Setter_set_row ?my_co_Setter_set_row ?my_ke_Setter_set_row ?my_fi_Setter_whole_text ?my_is_Setter_whole_text ?my_lo_Setter_whole_text ?my_co_Setter_whole_text ?my_ke_Setter_whole_text ?my_nf_choices ?my_nf_used ?my_nf_column ?my_nf_parts ?my_gE_NoChoice ?my_xE_NoChoice
  (case my_a0 => k_is)
  (case my_l0 => k_is)
  (case my_c0 => k_is)
  (case my_k0 => k_is)
  (case my_a1 => k_is)
  (case my_l1 => k_is)
  (case my_c1 => k_is)
  (case my_k1 => k_is)
  (case my_a2 => k_is)
  (case my_l2 => k_is)
  (case my_c2 => k_is)
  (case my_k2 => k_is)
  (case my_a3 => k_is)
  (case my_l3 => k_is)
  (case my_c3 => k_is)
  (case my_k3 => k_is)
  (case my_a4 => k_is)
  (case my_l4 => k_is)
  (case my_c4 => k_is)
  (case my_k4 => k_is)
  (case my_a5 => k_is)
  (case my_l5 => k_is)
  (case my_c5 => k_is)
  (case my_k5 => k_is)
  (case my_a6 => k_is)
  (case my_l6 => k_is)
  (case my_c6 => k_is)
  (case my_k6 => k_is)
  (case my_a7 => k_is)
  (case my_l7 => k_is)
  (case my_c7 => k_is)
  (case my_k7 => k_is)
  (case my_a8 => k_is)
  (case my_l8 => k_is)
  (case my_c8 => k_is)
  (case my_k8 => k_is)
  (case my_a9 => k_is)
  (case my_l9 => k_is)
  (case my_c9 => k_is)
  (case my_k9 => k_is)
  (case my_a10 => k_is)
  (case my_l10 => k_is)
  (case my_c10 => k_is)
  (case my_k10 => k_is)
  (case my_a11 => k_is)
  (case my_l11 => k_is)
  (case my_c11 => k_is)
  (case my_k11 => k_is)
  (case my_a12 => k_is)
  (case my_l12 => k_is)
  (case my_c12 => k_is)
  (case my_k12 => k_is)
  (case my_a13 => k_is)
  (case my_l13 => k_is)
  (case my_c13 => k_is)
  (case my_k13 => k_is)
  (case my_a14 => k_is)
  (case my_l14 => k_is)
  (case my_c14 => k_is)
  (case my_k14 => k_is)
  (case my_a15 => k_is)
  (case my_l15 => k_is)
  (case my_c15 => k_is)
  (case my_k15 => k_is)
  (case my_a16 => k_is)
  (case my_l16 => k_is)
  (case my_c16 => k_is)
  (case my_k16 => k_is)
  (case my_a17 => k_is)
  (case my_l17 => k_is)
  (case my_c17 => k_is)
  (case my_k17 => k_is)
  (case my_a18 => k_is)
  (case my_l18 => k_is)
  (case my_c18 => k_is)
  (case my_k18 => k_is)
  (case my_a19 => k_is)
  (case my_l19 => k_is)
  (case my_c19 => k_is)
  (case my_k19 => k_is)
  (case my_a20 => k_is)
  (case my_l20 => k_is)
  (case my_c20 => k_is)
  (case my_k20 => k_is)
  (case my_a21 => k_is)
  (case my_l21 => k_is)
  (case my_c21 => k_is)
  (case my_k21 => k_is)
  (case my_z0 => k_is)
  (case my_z1 => k_is)
  (case my_z2 => k_is)
  (case my_z3 => k_is)
  (case my_z4 => k_is)
  (case my_z5 => k_is)
  (case my_z6 => k_is)
  (case my_g0 => k_is)
  (case my_dtHOLDERS => k_is)
  (case my_gC_Place => k_is)
  (case my_pg_Place => k_is)
  (case my_hd_Place => k_is)
  (case my_po_Place => k_is)
  (case my_sa_Place => k_is)
  (case my_mk_Place => k_is)
  (case my_kc_Place => k_is)
  (case my_fi_Place_init => k_is)
  (case my_is_Place_init => k_is)
  (case my_lo_Place_init => k_is)
  (case my_co_Place_init => k_is)
  (case my_ke_Place_init => k_is)
  (case my_nf_broken => k_is)
  (case my_nf_margin => k_is)
  (case my_gC_Setter => k_is)
  (case my_pg_Setter => k_is)
  (case my_hd_Setter => k_is)
  (case my_po_Setter => k_is)
  (case my_sa_Setter => k_is)
  (case my_mk_Setter => k_is)
  (case my_kc_Setter => k_is)
  (case my_fi_Setter_init => k_is)
  (case my_is_Setter_init => k_is)
  (case my_lo_Setter_init => k_is)
  (case my_co_Setter_init => k_is)
  (case my_ke_Setter_init => k_is)
  (case my_fi_Setter_choice_below => k_is)
  (case my_is_Setter_choice_below => k_is)
  (case my_lo_Setter_choice_below => k_is)
  (case my_co_Setter_choice_below => k_is)
  (case my_ke_Setter_choice_below => k_is)
  (case my_fi_Setter_set_plain => k_is)
  (case my_is_Setter_set_plain => k_is)
  (case my_lo_Setter_set_plain => k_is)
  (case my_co_Setter_set_plain => k_is)
  (case my_ke_Setter_set_plain => k_is)
  (case my_fi_Setter_set_holder => k_is)
  (case my_is_Setter_set_holder => k_is)
  (case my_lo_Setter_set_holder => k_is)
  (case my_co_Setter_set_holder => k_is)
  (case my_ke_Setter_set_holder => k_is)
  (case my_fi_Setter_set_row => k_is)
  (case my_is_Setter_set_row => k_is)
  (case my_lo_Setter_set_row => k_is)
  (case my_co_Setter_set_row => k_is)
  (case my_ke_Setter_set_row => k_is)
  (case my_fi_Setter_whole_text => k_is)
  (case my_is_Setter_whole_text => k_is)
  (case my_lo_Setter_whole_text => k_is)
  (case my_co_Setter_whole_text => k_is)
  (case my_ke_Setter_whole_text => k_is)
  (case my_nf_choices => k_is)
  (case my_nf_used => k_is)
  (case my_nf_column => k_is)
  (case my_nf_parts => k_is)
  (case my_gE_NoChoice => k_is)
  (case my_xE_NoChoice => k_exc)
#print axioms PySem.Challenge.cw_linepress_k11_set_by_choices_holds

