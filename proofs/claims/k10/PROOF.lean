import PyProof.Rows.All
import Wide.All
import OpenK.AllK
import Wide.FinOn
import Lean
import PyProof.EqAt
import PyProof.EqKinds
import PyProof.TupleCall
import PySem.Challenge.RW_linepress_k10_hangs_and_ends
set_option Elab.async false
set_option bootstrap.genMatcherCode false
set_option linter.all false
set_option maxRecDepth 100000
set_option maxHeartbeats 1000000
namespace L2
open PySem PySem.Spec PyProof.Rows
noncomputable abbrev Key := Sum Int Str
noncomputable def xy8 : Key -> Value -> Bool
  | .inl k, v => Value.isInt k v
  | .inr x, v => Value.isStrOf x v
noncomputable def wm6 (w : World) : Key -> Int
  | .inl k => hashInt k
  | .inr x => hashStr w x
theorem zl1 : ∀ {k : Key} {v : Value}, xy8 k v = true -> (∃ i t, k = Sum.inl i /\ v = Value.int i t) \/ (∃ x t, k = Sum.inr x /\ v = Value.str x t)
  | .inl i, v, h => by
    obtain ⟨t, e⟩ := Value.isInt_shape (k := i) (v := v) h
    exact .inl ⟨i, t, rfl, e⟩
  | .inr x, v, h => by
    obtain ⟨t, e⟩ := Value.isStrOf_shape (x := x) (v := v) h
    exact .inr ⟨x, t, rfl, e⟩
theorem wd9 (a b : Int) : decide ((Sum.inl a : Key) = Sum.inl b) = (a == b) := by
  by_cases e : a = b
  . subst e; simp
  . have h : ¬ (Sum.inl a : Key) = Sum.inl b := fun q => e (Sum.inl.inj q)
    rw [decide_eq_false h]
    exact (beq_eq_false_iff_ne.mpr e).symm
theorem we0 (a b : Str) : decide ((Sum.inr a : Key) = Sum.inr b) = decide (a = b) := by
  by_cases e : a = b
  . subst e; simp
  . have h : ¬ (Sum.inr a : Key) = Sum.inr b := fun q => e (Sum.inr.inj q)
    rw [decide_eq_false h, decide_eq_false e]
theorem we1 (a : Int) (b : Str) : decide ((Sum.inl a : Key) = Sum.inr b) = false := decide_eq_false (fun q => nomatch q)
theorem we2 (a : Str) (b : Int) : decide ((Sum.inr a : Key) = Sum.inl b) = false := decide_eq_false (fun q => nomatch q)
noncomputable def yx5 (prog : Program) (w : World) : PySem.KeyKind prog w Key where
  is := xy8
  hash := wm6 w
  inj := fun v a b ha hb => by
    rcases zl1 ha with ⟨i, t, rfl, rfl⟩ | ⟨x, t, rfl, rfl⟩
    . rcases zl1 hb with ⟨j, u, rfl, e⟩ | ⟨y, u, rfl, e⟩
      . injection e with e1 _; rw [e1]
      . exact nomatch e
    . rcases zl1 hb with ⟨j, u, rfl, e⟩ | ⟨y, u, rfl, e⟩
      . exact nomatch e
      . injection e with e1 _; rw [e1]
  byValue := fun k v h => by
    rcases zl1 h with ⟨i, t, rfl, rfl⟩ | ⟨x, t, rfl, rfl⟩ <;> rfl
  pyHash := fun hv h => by
    rcases zl1 hv with ⟨i, t, rfl, rfl⟩ | ⟨x, t, rfl, rfl⟩
    . exact wpAny_pyHash_int h
    . exact wpAny_pyHash_str h
  eqBool := fun hu hv h => by
    rcases zl1 hu with ⟨i, t, rfl, rfl⟩ | ⟨x, t, rfl, rfl⟩
    . rcases zl1 hv with ⟨j, u, rfl, rfl⟩ | ⟨y, u, rfl, rfl⟩
      . rw [wd9] at h; exact wpAny_eqBool_int h
      . rw [we1] at h; exact SeqAt.EqAt.int_str i t y u _ _ _ _ h
    . rcases zl1 hv with ⟨j, u, rfl, rfl⟩ | ⟨y, u, rfl, rfl⟩
      . rw [we2] at h; exact SeqAt.EqAt.str_int x t j u _ _ _ _ h
      . rw [we0] at h; exact wpAny_eqBool_str h
  «strs» := fun k x t v h => by
    rcases zl1 h with ⟨i, u, rfl, e⟩ | ⟨y, u, rfl, e⟩
    . exact nomatch e
    . injection e with e1 _
      subst e1
      cases v <;> rfl
end L2
namespace L2
open PySem PySem.Spec PyProof.Rows
inductive V where
  | non | bl (b : Bool) | int (i : Int) | str (x : Str) | byt (b : Array UInt8) | flt (b : UInt64) | ref (a : Addr) | ty (n : String)
  deriving DecidableEq
noncomputable def ze0 : V -> Value -> Prop
  | .non, u => u = Value.none
  | .bl b, u => u = Value.bool b
  | .int i, u => ∃ t, u = Value.int i t
  | .str x, u => ∃ t, u = Value.str x t
  | .byt b, u => ∃ t, u = Value.bytes b t
  | .flt b, u => ∃ t, u = Value.float b t
  | .ref a, u => u = Value.ref a
  | .ty n, u => u = Value.type n
noncomputable abbrev zc3 : List V -> List Value -> Prop := Paired ze0
theorem zc3.length {xs : List V} {us : List Value} (r : zc3 xs us) : xs.length = us.length := Paired.length r
theorem zc3.get : ∀ {xs : List V} {us : List Value} {i : Nat} {x : V}, zc3 xs us -> xs[i]? = some x -> ∃ u, us[i]? = some u /\ ze0 x u
  | _, _, _, _, .nil, e => by simp at e
  | _, _, 0, _, .cons r _, e => by simp at e; subst e; exact ⟨_, rfl, r⟩
  | _, _, i + 1, x, .cons _ t, e => by
    obtain ⟨u, h1, h2⟩ := zc3.get (i := i) (x := x) t (by simpa using e)
    exact ⟨u, by simpa using h1, h2⟩
theorem zc3.set {x : V} {u : Value} (r : ze0 x u) : ∀ {xs : List V} {us : List Value} (i : Nat), zc3 xs us -> zc3 (xs.set i x) (us.set i u)
  | _, _, _, .nil => .nil
  | _, _, 0, .cons _ t => .cons r t
  | _, _, i + 1, .cons q t => .cons q (zc3.set r i t)
theorem zc3.append : ∀ {xs ys : List V} {us ws : List Value}, zc3 xs us -> zc3 ys ws -> zc3 (xs ++ ys) (us ++ ws)
  | _, _, _, _, .nil, s => s
  | _, _, _, _, .cons r t, s => .cons r (zc3.append t s)
theorem zc3.take : ∀ {xs : List V} {us : List Value} (n : Nat), zc3 xs us -> zc3 (xs.take n) (us.take n)
  | _, _, 0, _ => .nil
  | _, _, _ + 1, .nil => .nil
  | _, _, n + 1, .cons r t => .cons r (zc3.take n t)
theorem zc3.drop : ∀ {xs : List V} {us : List Value} (n : Nat), zc3 xs us -> zc3 (xs.drop n) (us.drop n)
  | _, _, 0, r => r
  | _, _, _ + 1, .nil => .nil
  | _, _, n + 1, .cons _ t => zc3.drop n t
theorem zc3.none_of : ∀ {xs : List V} {us : List Value} {i : Nat}, zc3 xs us -> xs[i]? = none -> us[i]? = none := fun {xs us i} r e => by
  have h1 := r.length
  have h2 : xs.length <= i := List.getElem?_eq_none_iff.mp e
  exact List.getElem?_eq_none_iff.mpr (by omega)
noncomputable def zq9 : Option V -> Option Value -> Prop
  | some v, some u => ze0 v u
  | none, none => True
  | _, _ => False
noncomputable def KV {κ : Type} : List (κ × V) -> List (κ × Value) -> Prop := Paired fun (p : κ × V) (q : κ × Value) => p.1 = q.1 /\ ze0 p.2 q.2
noncomputable def kV : Key -> V
  | .inl i => .int i
  | .inr x => .str x
inductive HO where
  | lst (xs : List V)
  | tup (xs : List V)
  | dK (kvs : List (Key × V)) | dT (kvs : List (List Key × V))
  | set (S : Int -> Bool) (n : Nat)
  | ins (C dx : Addr) (fs : List (Str × V))
  | own (x : Addr)
  | xd (fs : List (Str × V))
  | met (f x : Addr)
  | rng (lo hi : Int)
  | frz (o : Obj) (u : HO)
  | tbl (ps : Array Value)
  | ext (φ : Heap -> Prop)
noncomputable abbrev Hp := Addr -> Option HO
noncomputable def upd (H : Hp) (a : Addr) (o : HO) : Hp := fun b => if b = a then some o else H b
theorem zf3 {H : Hp} {a : Addr} {o : HO} : upd H a o a = some o := by unfold upd; rw [if_pos rfl]
theorem zc6 {H : Hp} {a b : Addr} {o : HO} (h : b ≠ a) : upd H a o b = H b := by unfold upd; rw [if_neg h]
theorem zs7 {H : Hp} {a b : Addr} {o : HO} (h : H a = some o) (h' : H b = none) : a ≠ b := by
  intro e; subst e; rw [h] at h'; cases h'
section
variable (P : Program) (w : World)
noncomputable def zi8 (H : Hp) (h : Heap) (a : Addr) : HO -> Prop
  | .lst xs => xs.length <= sizeLine /\ ∃ (its : List Value) (n : Nat), zc3 xs its /\ h.get? a = some { cls := .type "list", data := .seq its.toArray n }
  | .tup xs => xs.length <= sizeLine /\ ∃ its : List Value, zc3 xs its /\ IsTup h a its.toArray
  | .dK kvs => kvs.length <= sizeLine /\ (a == sysModules) = false /\ ∃ vs, KV kvs vs /\ h.DictOf (yx5 P w) a vs
  | .dT kvs => kvs.length <= sizeLine /\ (a == sysModules) = false /\ ∃ xs : List (List Key × Addr × Value),
      Paired (fun (p : List Key × V) (q : List Key × Addr × Value) => p.1 = q.1 /\ H q.2.1 = some (.tup (p.1.map kV)) /\ ze0 p.2 q.2.2) kvs xs /\
      ∃ o es ep, h.get? a = some o /\ o.ExactDict /\ o.data = .dict es ep /\ es.toList = xs.map (entryOfKey (tupleKind (yx5 P w))) /\ (xs.map (·.1)).Nodup
  | .set S n => h.SetOf (intKind P w) a S n
  | .ins C dx fs => H dx = some (.own a) /\ fs.length <= 1000 /\ dx ≠ a /\ h.get? a = some (PySem.W.instObj C dx) /\
      ∃ mA, h.Ns1 dx mA /\ (∀ f, zq9 (fs.lookup f) (mA f)) /\ PySem.Within mA (fs.map (·.1))
  | .own _ => ∃ o, h.get? a = some o
  | .xd fs => ∃ mA, h.Ns1 a mA /\ ∀ f, zq9 (fs.lookup f) (mA f)
  | .rng lo hi => ∃ t u v, h.get? a = some { cls := .type "range", data := .fields #[.int lo t, .int hi u, .int 1 v] }
  | .frz o u => h.get? a = some o /\ zi8 H h a u
  | .tbl ps => h.get? a = some { cls := .none, data := .fields ps }
  | .met f x => h.get? a = some (PySem.W.methodObj (.ref f) (.ref x))
  | .ext φ => φ h /\ (∃ o, h.get? a = some o) /\ ∀ h1 h2 : Heap, φ h1 -> (∀ o, h1.get? a = some o -> h2.get? a = some o) -> φ h2
noncomputable def HOk (H : Hp) (h : Heap) : Prop := ∀ a o, H a = some o -> zi8 P w H h a o
end
section
variable {P : Program} {w : World} {H H' : Hp} {h h' : Heap} {a : Addr} {o : HO}
theorem zi8.lt (x : zi8 P w H h a o) : a < h.objs.size := by
  cases o with
  | lst xs => obtain ⟨_, _, _, _, e⟩ := x; exact Heap.lt_size e
  | tup xs => obtain ⟨_, _, _, p⟩ := x; exact p.lt
  | dK kvs => obtain ⟨_, _, _, _, o, _, _, e, _⟩ := x; exact Heap.lt_size e
  | dT kvs => obtain ⟨_, _, _, _, o, _, _, e, _⟩ := x; exact Heap.lt_size e
  | set S n => obtain ⟨o, _, _, _, e, _⟩ := x; exact Heap.lt_size e
  | ins C dx fs => obtain ⟨_, _, _, e, _⟩ := x; exact Heap.lt_size e
  | own y => obtain ⟨_, e⟩ := x; exact Heap.lt_size e
  | xd fs => obtain ⟨_, ⟨_, _, _, e, _⟩, _⟩ := x; exact Heap.lt_size e
  | rng lo hi => obtain ⟨_, _, _, e⟩ := x; exact Heap.lt_size e
  | frz ob u => obtain ⟨e, _⟩ := x; exact Heap.lt_size e
  | tbl ps => exact Heap.lt_size (show h.get? a = some _ from x)
  | met f y => exact Heap.lt_size (show h.get? a = some _ from x)
  | ext φ => obtain ⟨_, ⟨_, e⟩, _⟩ := x; exact Heap.lt_size e
theorem Paired.mapP {α β : Type} {F G : α -> β -> Prop} : ∀ {l₁ : List α} {l₂ : List β}, Paired F l₁ l₂ -> (∀ a b, F a b -> G a b) -> Paired G l₁ l₂
  | _, _, .nil, _ => .nil
  | _, _, .cons r t, f => .cons (f _ _ r) (Paired.mapP t f)
theorem zi8.stay (x : zi8 P w H h a o) (k : ∀ b u, (b = a \/ H b = some (.own a)) -> h.get? b = some u -> h'.get? b = some u)
    (ho : ∀ b, H b = some (.own a) -> H' b = some (.own a)) (ht : ∀ b xs, H b = some (.tup xs) -> H' b = some (.tup xs)) : zi8 P w H' h' a o := by
  induction o with
  | lst xs => obtain ⟨z, its, n, r, e⟩ := x; exact ⟨z, its, n, r, k _ _ (.inl rfl) e⟩
  | tup xs => obtain ⟨z, its, r, ob, e, c⟩ := x; exact ⟨z, its, r, ob, k _ _ (.inl rfl) e, c⟩
  | dK kvs => obtain ⟨z, y, vs, r, ob, es, ep, e, c⟩ := x; exact ⟨z, y, vs, r, ob, es, ep, k _ _ (.inl rfl) e, c⟩
  | dT kvs =>
    obtain ⟨z, y, xs, r, ob, es, ep, e, c⟩ := x
    exact ⟨z, y, xs, Paired.mapP r fun p q z => ⟨z.1, ht _ _ z.2.1, z.2.2⟩, ob, es, ep, k _ _ (.inl rfl) e, c⟩
  | set S n => obtain ⟨ob, es, ep, t, e, c⟩ := x; exact ⟨ob, es, ep, t, k _ _ (.inl rfl) e, c⟩
  | ins C dx fs =>
    obtain ⟨d, z, ne, e, mA, ⟨od, es, ep, e2, c⟩, r⟩ := x
    exact ⟨ho _ d, z, ne, k _ _ (.inl rfl) e, mA, ⟨od, es, ep, k _ _ (.inr d) e2, c⟩, r⟩
  | own y => obtain ⟨ob, e⟩ := x; exact ⟨ob, k _ _ (.inl rfl) e⟩
  | xd fs => obtain ⟨mA, ⟨od, es, ep, e, c⟩, r⟩ := x; exact ⟨mA, ⟨od, es, ep, k _ _ (.inl rfl) e, c⟩, r⟩
  | rng lo hi => obtain ⟨t, u, v, e⟩ := x; exact ⟨t, u, v, k _ _ (.inl rfl) e⟩
  | frz ob u ih => obtain ⟨e, q⟩ := x; exact ⟨k _ _ (.inl rfl) e, ih q⟩
  | tbl ps =>
    have e : h.get? a = some { cls := .none, data := .fields ps } := x
    show h'.get? a = some { cls := .none, data := .fields ps }
    exact k a _ (.inl rfl) e
  | met f y =>
    have e : h.get? a = some (PySem.W.methodObj (.ref f) (.ref y)) := x
    show h'.get? a = some (PySem.W.methodObj (.ref f) (.ref y))
    exact k a _ (.inl rfl) e
  | ext φ => obtain ⟨p, ⟨o, e⟩, st⟩ := x; exact ⟨st _ _ p fun o q => k _ _ (.inl rfl) q, ⟨o, k _ _ (.inl rfl) e⟩, st⟩
theorem HOk.lt (x : HOk P w H h) (e : H a = some o) : a < h.objs.size := (x a o e).lt
theorem HOk.fresh (x : HOk P w H h) (e : h.objs.size <= a) : H a = none := by
  cases q : H a with
  | none => rfl
  | some u => exact absurd (Nat.lt_of_lt_of_le (x.lt q) e) (Nat.lt_irrefl _)
theorem HOk.kept (x : HOk P w H h) (k : ∀ b u, h.get? b = some u -> h'.get? b = some u) : HOk P w H h' := fun a o e =>
  (x a o e).stay (fun b u _ q => k b u q) (fun _ q => q) fun _ _ q => q
theorem HOk.laid (x : HOk P w H h) (k : ∀ b u, h.get? b = some u -> h'.get? b = some u) (hp : h.objs.size <= a) (new : zi8 P w (upd H a o) h' a o) : HOk P w (upd H a o) h' := fun b u e => by
  have hn := x.fresh hp
  by_cases hb : b = a
  . subst hb; rw [zf3] at e; cases e; exact new
  . rw [zc6 hb] at e
    exact (x b u e).stay (fun c v _ q => k c v q) (fun c q => by rw [zc6 (zs7 q hn)]; exact q) fun c xs q => by rw [zc6 (zs7 q hn)]; exact q
end
noncomputable def Rd (H : Hp) (a : Addr) (u : HO) : Prop := H a = some u \/ ∃ o, H a = some (.frz o u)
theorem Rd.of {H : Hp} {a : Addr} {u : HO} (h : H a = some u) : Rd H a u := .inl h
theorem Rd.ok {P : Program} {w : World} {H : Hp} {h : Heap} {a : Addr} {u : HO} (r : Rd H a u) (x : HOk P w H h) : zi8 P w H h a u := by
  rcases r with r | ⟨o, r⟩
  . exact x a u r
  . obtain ⟨_, q⟩ := x a _ r
    exact q
noncomputable def Mut : Option HO -> Prop
  | some (.lst _) => True
  | some (.dK _) => True
  | some (.dT _) => True
  | some (.set _ _) => True
  | some (.ins _ _ _) => True
  | some (.ext _) => True
  | _ => False
section
variable {P : Program} {w : World} {H : Hp} {h h' : Heap} {x e : Addr} {o' : HO}
theorem HOk.write (ok : HOk P w H h) (mu : Mut (H x)) (he : e = x \/ H e = some (.own x)) (k : ∀ b u, b ≠ e -> h.get? b = some u -> h'.get? b = some u) (heo : ∃ u, h'.get? e = some u)
    (new : zi8 P w (upd H x o') h' x o') : HOk P w (upd H x o') h' := fun b u q => by
  have nown : ∀ c y, H c = some (.own y) -> c ≠ x := fun c y r z => by subst z; rw [r] at mu; exact mu
  have ntup : ∀ c xs, H c = some (.tup xs) -> c ≠ x := fun c xs r z => by subst z; rw [r] at mu; exact mu
  by_cases hb : b = x
  . subst hb; rw [zf3] at q; cases q; exact new
  . rw [zc6 hb] at q
    by_cases hbe : b = e
    . have q' : H b = some (.own x) := by
        rcases he with z | z
        . exact absurd (hbe.trans z) hb
        . rw [hbe]; exact z
      rw [q] at q'; cases q'
      obtain ⟨v, hv⟩ := heo
      exact ⟨v, by rw [hbe]; exact hv⟩
    . refine (ok b u q).stay (fun c v hc r => k c v ?_ r) (fun c r => by rw [zc6 (nown c b r)]; exact r) fun c xs r => by rw [zc6 (ntup c xs r)]; exact r
      rcases hc with rfl | hc
      . exact hbe
      . rintro rfl
        rcases he with z | z
        . exact nown c b hc z
        . rw [hc] at z; cases z; exact hb rfl
end
structure Un (fs ex : List Addr) (H H' : Hp) (h h' : Heap) : Prop where
  keep : ∀ b o, h.get? b = some o -> H b = none -> b ∉ fs -> b ∉ ex -> h'.get? b = some o
  slot : ∀ b o, h.get? b = some o -> H b = none -> b ∈ fs -> b ∉ ex -> ∃ sl, h'.get? b = some { o with slots := sl }
  free : ∀ b o, h.get? b = some o -> H b = none -> b ∉ ex -> H' b = none
  there : ∀ b o, h.get? b = some o -> b ∉ ex -> ∃ o', h'.get? b = some o'
  tups : ∀ b xs, H b = some (.tup xs) -> H' b = some (.tup xs)
  frzs : ∀ b o u, H b = some (.frz o u) -> H' b = some (.frz o u)
  tbls : ∀ b ps, H b = some (.tbl ps) -> ∃ more, H' b = some (.tbl (ps ++ more))
section
variable {fs fs' ex ex' : List Addr} {H H1 H2 : Hp} {h h1 h2 h' : Heap} {a x e : Addr} {o : HO}
theorem Un.any (u : Un fs ex H H1 h h1) {b : Addr} {ob : Obj} (q : h.get? b = some ob) (n : H b = none) (hx : b ∉ ex) : ∃ sl, h1.get? b = some { ob with slots := sl } := by
  by_cases hb : b ∈ fs
  . exact u.slot b ob q n hb hx
  . exact ⟨ob.slots, u.keep b ob q n hb hx⟩
theorem Un.trans (a : Un fs ex H H1 h h1) (b : Un fs ex H1 H2 h1 h2) : Un fs ex H H2 h h2 where
  keep := fun c ob q n hc hx => b.keep c ob (a.keep c ob q n hc hx) (a.free c ob q n hx) hc hx
  slot := fun c ob q n hc hx => by
    obtain ⟨sl, e1⟩ := a.slot c ob q n hc hx
    obtain ⟨sl', e2⟩ := b.slot c _ e1 (a.free c ob q n hx) hc hx
    exact ⟨sl', e2⟩
  free := fun c ob q n hx => by
    obtain ⟨o', e1⟩ := a.there c ob q hx
    exact b.free c o' e1 (a.free c ob q n hx) hx
  there := fun c ob q hx => by
    obtain ⟨o', e1⟩ := a.there c ob q hx
    exact b.there c o' e1 hx
  tups := fun c xs q => b.tups c xs (a.tups c xs q)
  frzs := fun c ob xs q => b.frzs c ob xs (a.frzs c ob xs q)
  tbls := fun c ps q => by
    obtain ⟨m1, e1⟩ := a.tbls c ps q
    obtain ⟨m2, e2⟩ := b.tbls c _ e1
    exact ⟨m1 ++ m2, by rw [e2, Array.append_assoc]⟩
theorem Un.kept (k : ∀ b u, h.get? b = some u -> h'.get? b = some u) : Un fs ex H H h h' :=
  ⟨fun b ob q _ _ _ => k b ob q, fun b ob q _ _ _ => ⟨ob.slots, k b ob q⟩, fun _ _ _ n _ => n, fun b ob q _ => ⟨ob, k b ob q⟩, fun _ _ q => q, fun _ _ _ q => q, fun _ ps q => ⟨#[], by rw [q]; simp⟩⟩
theorem Un.refl : Un fs ex H H h h := Un.kept fun _ _ q => q
theorem Un.laid (k : ∀ b u, h.get? b = some u -> h'.get? b = some u) (hp : h.objs.size <= a) (hn : H a = none) : Un fs ex H (upd H a o) h h' where
  keep := fun b u q _ _ _ => k b u q
  slot := fun b u q _ _ _ => ⟨u.slots, k b u q⟩
  free := fun b u q n _ => by rw [zc6 (Nat.ne_of_lt (Nat.lt_of_lt_of_le (Heap.lt_size q) hp))]; exact n
  there := fun b u q _ => ⟨u, k b u q⟩
  tups := fun b xs q => by rw [zc6 (zs7 q hn)]; exact q
  frzs := fun b u xs q => by rw [zc6 (zs7 q hn)]; exact q
  tbls := fun b ps q => ⟨#[], by rw [zc6 (zs7 q hn), q]; simp⟩
theorem Un.write (mu : Mut (H x)) (he : e = x \/ H e = some (.own x)) (k : ∀ b u, b ≠ e -> h.get? b = some u -> h'.get? b = some u) (heo : ∃ u, h'.get? e = some u) : Un fs ex H (upd H x o) h h' := by
  have hx : ∀ b, H b = none -> b ≠ x := fun b n z => by subst z; rw [n] at mu; exact mu
  have hb : ∀ b, H b = none -> b ≠ e := fun b n z => by
    subst z
    rcases he with r | r
    . exact hx b n r
    . rw [n] at r; cases r
  have hm : ∀ b u, H b = some u -> ¬ Mut (some u) -> b ≠ x := fun b u q nm z => by subst z; rw [q] at mu; exact nm mu
  refine ⟨fun b u q n _ _ => k b u (hb b n) q, fun b u q n _ _ => ⟨u.slots, k b u (hb b n) q⟩, fun b u q n _ => by rw [zc6 (hx b n)]; exact n, fun b u q _ => ?_,
    fun b xs q => by rw [zc6 (hm b _ q fun z => z)]; exact q, fun b u xs q => by rw [zc6 (hm b _ q fun z => z)]; exact q, fun b ps q => ⟨#[], by rw [zc6 (hm b _ q fun z => z), q]; simp⟩⟩
  by_cases hbe : b = e
  . subst hbe; exact heo
  . exact ⟨u, k b u hbe q⟩
theorem Un.mono (u : Un fs ex H H1 h h1) (hs : ∀ b ∈ fs, b ∈ fs') (hx : ∀ b ∈ ex, b ∈ ex') : Un fs' ex' H H1 h h1 :=
  ⟨fun b ob q n hb he => u.keep b ob q n (fun z => hb (hs b z)) fun z => he (hx b z), fun _ _ q n _ he => u.any q n fun z => he (hx _ z), fun b ob q n he => u.free b ob q n fun z => he (hx b z), fun b ob q he => u.there b ob q fun z => he (hx b z), u.tups, u.frzs, u.tbls⟩
end
noncomputable def trk (h : Heap) (H : Hp) : List Addr := (List.range h.objs.size).filter fun a => (H a).isSome
noncomputable def yh1 (h : Heap) (H : Hp) : Heap := PySem.W.hideAll h (trk h H)
theorem xo1 (h : Heap) (H : Hp) : (yh1 h H).objs.size = h.objs.size := PySem.W.hideAll_size _ _
theorem xt2 {h : Heap} {H : Hp} {b : Addr} {o : Obj} (e : h.get? b = some o) (n : H b = none) : (yh1 h H).get? b = some o :=
  PySem.W.hideAll_get _ e fun hm => by
    have q : (H b).isSome = true := (List.mem_filter.mp hm).2
    rw [n] at q; simp at q
theorem xz6 {h : Heap} {H : Hp} {b : Addr} {o : Obj} (e : (yh1 h H).get? b = some o) : h.get? b = some o /\ H b = none := by
  have e' : h.get? b = some o := PySem.W.of_hideAll (trk h H) e
  refine ⟨e', ?_⟩
  cases q : H b with
  | none => rfl
  | some x =>
    have hm : b ∈ trk h H := List.mem_filter.mpr ⟨List.mem_range.mpr (Heap.lt_size e'), by simp [q]⟩
    have z : (yh1 h H).get? b = none := PySem.W.hideAll_none (trk h H) hm
    rw [z] at e; cases e
noncomputable def wd6 (g h : Heap) (L : Addr) : List (Addr × Obj) := (List.range h.objs.size).filterMap fun a => if a = L \/ (g.get? a).isSome = true then none else (h.get? a).map fun o => (a, o)
noncomputable def zb9 (g h : Heap) (L d : Addr) : List (Addr × Obj) := (wd6 g h L).filter fun p => decide (p.1 ≠ d)
end L2
namespace L2
open PySem PySem.Spec PyProof.Rows
structure Mod (K : PySem.W.Frag) (mg : Str -> Option Value) (base : Heap) : Prop where
  kin : K.In base
  glob : base.Ns mainGlobals mg
  blt : ∃ mb, base.Ns builtinsNs mb /\ ∀ x : Str, x ≠ "__name__" -> mb x = bootBuiltins x
  nolimit : base.NoLimit
structure Cx where
  prog : Program
  w : World
  K : PySem.W.Frag
  mg : Str -> Option Value
  base : Heap
  A : Around
  N : List Str
  s₀ : Shared
  H₀ : Hp
  env : Env
  outer : List Env
  stack : List Env
  ex : List Addr
  fn : Str -> Bool
  calm : Bool
  pn : List (Addr × Obj)
  xe : Value -> Shared -> Prop
noncomputable def frs (l : List Env) : List Addr := l.filterMap (·.frame)
noncomputable abbrev Cx.fs (X : Cx) : List Addr := frs X.outer
noncomputable def Vis (sc : Scope) (x : Str) : Prop := sc.names.lookup x = some .local \/ sc.names.lookup x = some .cell \/ sc.names.lookup x = some .free
noncomputable def Loc (sc : Scope) (x : Str) : Prop := sc.names.lookup x = some .local \/ sc.names.lookup x = some .cell
noncomputable def wm7 (env : Env) (h : Heap) (m : Str -> Option Value) (x : Str) (u : Value) : Prop :=
  (env.kindOf x = some .local /\ m x = some u) \/ ((env.kindOf x = some .cell \/ env.kindOf x = some .free) /\ ∃ c, env.cells.lookup x = some c /\ h.IsCell c (some u))
structure Cx.Ok (X : Cx) : Prop where
  mod : Mod X.K X.mg X.base
  kind : X.env.scope.kind = .function
  glob : X.env.globals = mainGlobals
  blt : X.env.builtins = builtinsNs
  above : X.s₀.heap.objs.size <= X.env.locals
  inj : ∀ x y c, X.env.cells.lookup x = some c -> X.env.cells.lookup y = some c -> x = y
  has : ∀ x, (X.env.kindOf x = some .cell \/ X.env.kindOf x = some .free) -> ∃ c, X.env.cells.lookup x = some c
  cab : ∀ x c, X.fn x = true -> X.env.cells.lookup x = some c -> X.s₀.heap.objs.size <= c
  hd : X.calm = true -> X.A.handled = none
  frames : X.A.frames = some X.stack
  stk : X.stack = X.outer \/ (X.stack = X.env :: X.outer /\ X.env.frame = some X.env.locals)
  exf : ∀ b ∈ X.ex, b ≠ X.env.locals /\ ∀ x c, X.env.cells.lookup x = some c -> c ≠ b
  bs : ∀ b o, X.base.get? b = some o -> X.s₀.heap.get? b = some o /\ X.H₀ b = none
  bsz : X.base.objs.size <= X.s₀.heap.objs.size
  noex : ∀ b o, X.base.get? b = some o -> b ∉ X.ex
  exfs : ∀ b ∈ X.ex, b ∉ X.fs
  funs : X.s₀.heap.FunFrames X.base X.outer
  frf : ∀ b ∈ X.fs, X.H₀ b = none
structure Inv (X : Cx) (pins : List (Addr × Obj)) (σ : List (Option V)) (H : Hp) (s : Shared) : Prop where
  ok : X.Ok
  os : s.os = X.s₀.os
  bare : AllBare s.gens
  base : Un X.fs X.ex X.H₀ H X.s₀.heap s.heap
  loc : ∃ m, s.heap.Ns X.env.locals m /\ ∀ (i : Nat) (x : Str) (v : V), X.N[i]? = some x -> σ[i]? = some (some v) -> Vis X.env.scope x -> ∃ u, ze0 v u /\ wm7 X.env s.heap m x u
  cell : ∀ x c, X.env.cells.lookup x = some c -> ∃ v, s.heap.IsCell c v
  free : H X.env.locals = none
  freeC : ∀ x c, X.env.cells.lookup x = some c -> H c = none
  pin : ∀ p ∈ X.pn ++ pins, s.heap.get? p.1 = some p.2 /\ H p.1 = none /\ p.1 ≠ X.env.locals /\ p.1 ∉ X.fs /\ ∀ v, p.2.data ≠ .cell v
  hok : HOk X.prog X.w H s.heap
  len : σ.length = X.N.length
section
variable {X : Cx} {pins : List (Addr × Obj)} {σ : List (Option V)} {H H' : Hp} {s : Shared} {h' : Heap}
theorem Cx.Ok.nofr (ok : X.Ok) {b : Addr} {o : Obj} (e : X.base.get? b = some o) : b ∉ X.fs := fun hb => by
  have := (ok.funs.mem hb).1
  rw [e] at this; cases this
theorem Inv.bs (I : Inv X pins σ H s) : ∀ b o, X.base.get? b = some o -> s.heap.get? b = some o /\ H b = none := fun b o e =>
  ⟨I.base.keep b o (I.ok.bs b o e).1 (I.ok.bs b o e).2 (I.ok.nofr e) (I.ok.noex b o e), I.base.free b o (I.ok.bs b o e).1 (I.ok.bs b o e).2 (I.ok.noex b o e)⟩
theorem Inv.bk (I : Inv X pins σ H s) : ∀ b o, X.base.get? b = some o -> s.heap.get? b = some o := fun b o e => (I.bs b o e).1
theorem Inv.mod (I : Inv X pins σ H s) : Mod X.K X.mg X.base := I.ok.mod
theorem Inv.kIn (I : Inv X pins σ H s) : X.K.In s.heap := I.ok.mod.kin.keeps I.bk
theorem Inv.nolimit (I : Inv X pins σ H s) : s.heap.NoLimit := I.ok.mod.nolimit.keeps I.bk
theorem Inv.fr (I : Inv X pins σ H s) : ∃ m, Fr X.base X.env.locals s.heap m :=
  let ⟨m, hn, _⟩ := I.loc
  ⟨m, hn, I.bk, Nat.le_trans I.ok.bsz I.ok.above⟩
theorem Inv.lt (I : Inv X pins σ H s) : X.env.locals < s.heap.objs.size := let ⟨_, hn, _⟩ := I.loc; hn.lt
theorem Inv.sz (I : Inv X pins σ H s) : X.s₀.heap.objs.size <= s.heap.objs.size := Nat.le_trans I.ok.above (Nat.le_of_lt I.lt)
theorem Inv.nofs (I : Inv X pins σ H s) {a : Addr} (h : s.heap.objs.size <= a) : a ∉ X.fs := fun hb => by
  obtain ⟨_, o, ho, _⟩ := I.ok.funs.mem hb
  exact absurd (Nat.lt_of_lt_of_le (Heap.lt_size ho) (Nat.le_trans I.sz h)) (Nat.lt_irrefl _)
theorem Inv.cne (I : Inv X pins σ H s) : ∀ x c, X.env.cells.lookup x = some c -> c ≠ X.env.locals := fun x c e z => by
  obtain ⟨v, o, ho, hd⟩ := I.cell x c e
  obtain ⟨m, ⟨o', es, ep, ho', hd', _⟩, _⟩ := I.loc
  rw [z, ho'] at ho; cases ho; rw [hd'] at hd; cases hd
theorem Inv.funs (I : Inv X pins σ H s) : s.heap.FunFrames X.base X.outer := by
  have all : ∀ (l : List Env), (∀ b ∈ frs l, b ∈ X.fs) -> X.s₀.heap.FunFrames X.base l -> s.heap.FunFrames X.base l := by
    intro l
    induction l with
    | nil => intro _ _; trivial
    | cons env r ih =>
      intro hs hl
      obtain ⟨hk, ⟨L, o, hf, hn, ho, hd⟩, hr⟩ := hl
      have hL : L ∈ X.fs := hs L (by unfold frs; rw [List.filterMap_cons, hf]; exact List.mem_cons_self)
      obtain ⟨sl, e⟩ := I.base.slot L o ho (I.ok.frf L hL) hL fun z => I.ok.exfs L z hL
      exact ⟨hk, ⟨L, _, hf, hn, e, hd⟩, ih (fun b hb => hs b (by unfold frs; rw [List.filterMap_cons, hf]; exact List.mem_cons_of_mem _ hb)) hr⟩
  exact all X.outer (fun _ hb => hb) I.ok.funs
theorem Inv.stack (I : Inv X pins σ H s) : s.heap.FunFrames X.base X.stack := by
  rcases I.ok.stk with e | ⟨e, hf⟩
  . rw [e]; exact I.funs
  . rw [e]
    obtain ⟨m, hn, _⟩ := I.loc
    refine .cons (by rw [I.ok.kind]; decide) hf hn ?_ I.funs
    exact Heap.get?_none_of_le (Nat.le_trans I.ok.bsz I.ok.above)
theorem Inv.stkSub (I : Inv X pins σ H s) : ∀ b ∈ frs X.stack, b ∈ X.env.locals :: X.fs := fun b hb => by
  rcases I.ok.stk with e | ⟨e, hf⟩
  . rw [e] at hb; exact List.mem_cons_of_mem _ hb
  . rw [e] at hb
    unfold frs at hb
    rw [List.filterMap_cons, hf] at hb
    exact hb
theorem Inv.stkFree (I : Inv X pins σ H s) : ∀ b ∈ frs X.stack, H b = none := fun b hb => by
  rcases List.mem_cons.mp (I.stkSub b hb) with e | hb
  . rw [e]; exact I.free
  . obtain ⟨_, o, ho, _⟩ := I.ok.funs.mem hb
    exact I.base.free b o ho (I.ok.frf b hb) fun z => I.ok.exfs b z hb
theorem Inv.step {g' : Array GenState} {t' : Nat} {d' : Drawn} {ch : List Addr} (I : Inv X pins σ H s)
    (hch : ∀ b ∈ ch, (b ∈ X.ex \/ X.s₀.heap.objs.size <= b) /\ b ≠ X.env.locals /\ (∀ x c, X.env.cells.lookup x = some c -> c ≠ b) /\ ∀ p ∈ X.pn ++ pins, p.1 ≠ b)
    (keep : ∀ b o, b ≠ X.env.locals -> b ∉ X.fs -> b ∉ ch -> s.heap.get? b = some o -> H b = none -> h'.get? b = some o)
    (slot : ∀ b o, b ≠ X.env.locals -> b ∈ X.fs -> b ∉ ch -> s.heap.get? b = some o -> H b = none -> ∃ sl, h'.get? b = some { o with slots := sl }) (free : ∀ b o, b ∉ ch -> s.heap.get? b = some o -> H b = none -> H' b = none)
    (there : ∀ b o, b ∉ ch -> s.heap.get? b = some o -> ∃ o', h'.get? b = some o')
    (tups : ∀ b xs, H b = some (.tup xs) -> H' b = some (.tup xs)) (frzs : ∀ b o u, H b = some (.frz o u) -> H' b = some (.frz o u)) (tbls : ∀ b ps, H b = some (.tbl ps) -> ∃ more, H' b = some (.tbl (ps ++ more)))
    (ns : ∀ m, s.heap.Ns X.env.locals m -> h'.Ns X.env.locals m) (hok : HOk X.prog X.w H' h') (hg : AllBare g') :
    Inv X pins σ H' { s with heap := h', gens := g', drawn := d', toks := t' } := by
  have neL : ∀ b o, X.s₀.heap.get? b = some o -> b ≠ X.env.locals := fun b o e => Nat.ne_of_lt (Nat.lt_of_lt_of_le (Heap.lt_size e) I.ok.above)
  have neC : ∀ b o, X.s₀.heap.get? b = some o -> b ∉ X.ex -> b ∉ ch := fun b o e hx hb => by
    rcases (hch b hb).1 with z | z
    . exact hx z
    . exact absurd (Nat.lt_of_lt_of_le (Heap.lt_size e) z) (Nat.lt_irrefl _)
  have cellK : ∀ x c, X.env.cells.lookup x = some c -> ∀ v, s.heap.IsCell c v -> h'.IsCell c v := fun x c e v ⟨o, ho, hd⟩ => by
    have nch : c ∉ ch := fun z => (hch c z).2.2.1 x c e rfl
    by_cases hc : c ∈ X.fs
    . obtain ⟨sl, q⟩ := slot c o (I.cne x c e) hc nch ho (I.freeC x c e)
      exact ⟨_, q, hd⟩
    . exact ⟨o, keep c o (I.cne x c e) hc nch ho (I.freeC x c e), hd⟩
  refine ⟨I.ok, I.os, hg, ⟨fun b o e n hb hx => ?_, fun b o e n hb hx => ?_, fun b o e n hx => ?_, fun b o e hx => ?_, fun b xs e => tups b xs (I.base.tups b xs e), fun b o xs e => frzs b o xs (I.base.frzs b o xs e), fun b ps e => ?_⟩, ?_, fun x c e => ?_, ?_, fun x c e => ?_, fun p hp => ?_, hok, I.len⟩
  . exact keep b o (neL b o e) hb (neC b o e hx) (I.base.keep b o e n hb hx) (I.base.free b o e n hx)
  . obtain ⟨sl, e1⟩ := I.base.slot b o e n hb hx
    obtain ⟨sl', e2⟩ := slot b _ (neL b o e) hb (neC b o e hx) e1 (I.base.free b o e n hx)
    exact ⟨sl', e2⟩
  . obtain ⟨o', e1⟩ := I.base.there b o e hx
    exact free b o' (neC b o e hx) e1 (I.base.free b o e n hx)
  . obtain ⟨o', e1⟩ := I.base.there b o e hx
    exact there b o' (neC b o e hx) e1
  . obtain ⟨m1, e1⟩ := I.base.tbls b ps e
    obtain ⟨m2, e2⟩ := tbls b _ e1
    exact ⟨m1 ++ m2, by rw [e2, Array.append_assoc]⟩
  . obtain ⟨m, hn, hl⟩ := I.loc
    refine ⟨m, ns m hn, fun i x v e1 e2 e3 => ?_⟩
    obtain ⟨u, r, l⟩ := hl i x v e1 e2 e3
    refine ⟨u, r, ?_⟩
    rcases l with l | ⟨k, c, e, z⟩
    . exact .inl l
    . exact .inr ⟨k, c, e, cellK x c e _ z⟩
  . obtain ⟨v, z⟩ := I.cell x c e
    exact ⟨v, cellK x c e v z⟩
  . obtain ⟨m, ⟨o, _, _, ho, _⟩, _⟩ := I.loc
    exact free _ o (fun z => (hch _ z).2.1 rfl) ho I.free
  . obtain ⟨v, o, ho, hd⟩ := I.cell x c e
    exact free c o (fun z => (hch c z).2.2.1 x c e rfl) ho (I.freeC x c e)
  . obtain ⟨e, n, ne, nf, d⟩ := I.pin p hp
    have nch : p.1 ∉ ch := fun z => (hch p.1 z).2.2.2 p hp rfl
    exact ⟨keep p.1 p.2 ne nf nch e n, free p.1 p.2 nch e n, ne, nf, d⟩
theorem Inv.un {t' : Nat} (I : Inv X pins σ H s) (u : Un X.fs [] H H' s.heap h') (hok : HOk X.prog X.w H' h') : Inv X pins σ H' { s with heap := h', toks := t' } := by
  obtain ⟨m, ⟨o, es, ep, ho, r⟩, _⟩ := id I.loc
  obtain ⟨sl, hL⟩ := u.any ho I.free (by simp)
  exact I.step (g' := s.gens) (d' := s.drawn) (ch := []) (fun _ z => nomatch z) (fun b o _ hb _ e n => u.keep b o e n hb (by simp)) (fun b o _ hb _ e n => u.slot b o e n hb (by simp)) (fun b o _ e n => u.free b o e n (by simp)) (fun b o _ e => u.there b o e (by simp)) u.tups u.frzs u.tbls (fun m' hm => by
    obtain ⟨o', es', ep', ho', r'⟩ := hm
    rw [ho] at ho'; cases ho'
    exact ⟨_, es', ep', hL, r'⟩) hok I.bare
theorem Inv.call {g' : Array GenState} {t' : Nat} {d' : Drawn} {ch : List Addr} (I : Inv X pins σ H s) (u : Un (frs X.stack) ch H H' s.heap h') (hok : HOk X.prog X.w H' h') (hg : AllBare g')
    (hch : ∀ b ∈ ch, (b ∈ X.ex \/ X.s₀.heap.objs.size <= b) /\ b ≠ X.env.locals /\ (∀ x c, X.env.cells.lookup x = some c -> c ≠ b) /\ ∀ p ∈ X.pn ++ pins, p.1 ≠ b) :
    Inv X pins σ H' { s with heap := h', gens := g', drawn := d', toks := t' } := by
  obtain ⟨m, ⟨o, es, ep, ho, r⟩, _⟩ := id I.loc
  obtain ⟨sl, hL⟩ := u.any ho I.free fun z => (hch _ z).2.1 rfl
  exact I.step (ch := ch) hch (fun b o hL hb hc e n => u.keep b o e n (fun z => (List.mem_cons.mp (I.stkSub b z)).elim hL hb) hc) (fun b o _ _ hc e n => u.any e n hc) (fun b o hc e n => u.free b o e n hc) (fun b o hc e => u.there b o e hc) u.tups u.frzs u.tbls (fun m' hm => by
    obtain ⟨o', es', ep', ho', r'⟩ := hm
    rw [ho] at ho'; cases ho'
    exact ⟨_, es', ep', hL, r'⟩) hok hg
theorem Inv.turned {t' : Nat} {it : Addr} (I : Inv X pins σ H s) (k : ∀ b o, b ≠ it -> s.heap.get? b = some o -> h'.get? b = some o) (hn : H it = none) (hL : it ≠ X.env.locals)
    (h1 : it ∈ X.ex \/ X.s₀.heap.objs.size <= it) (h2 : ∀ x c, X.env.cells.lookup x = some c -> c ≠ it) (h3 : ∀ p ∈ X.pn ++ pins, p.1 ≠ it) : Inv X pins σ H { s with heap := h', toks := t' } := by
  have nit : ∀ b u, H b = some u -> b ≠ it := fun b u e z => by rw [z, hn] at e; cases e
  refine I.step (g' := s.gens) (d' := s.drawn) (ch := [it]) (fun b hb => ?_) (fun b o _ _ hc e _ => k b o (fun z => hc (by simp [z])) e) (fun b o _ _ hc e _ => ⟨o.slots, k b o (fun z => hc (by simp [z])) e⟩) (fun _ _ _ _ n => n)
    (fun b o hc e => ⟨o, k b o (fun z => hc (by simp [z])) e⟩) (fun _ _ e => e) (fun _ _ _ e => e) (fun b ps e => ⟨#[], by rw [e]; simp⟩) (fun m hm => ?_) (fun b u e => ?_) I.bare
  . have e : b = it := by simpa using hb
    subst e
    exact ⟨h1, hL, h2, h3⟩
  . obtain ⟨o, es, ep, ho, r⟩ := hm
    exact ⟨o, es, ep, k _ o (Ne.symm hL) ho, r⟩
  . refine (I.hok b u e).stay (fun c v hc q => k c v ?_ q) (fun _ q => q) fun _ _ q => q
    rcases hc with z | z
    . rw [z]; exact nit b u e
    . exact nit c _ z
theorem Inv.tok (I : Inv X pins σ H s) (t : Nat) : Inv X pins σ H { s with toks := t } := I.un (h' := s.heap) (t' := t) Un.refl I.hok
theorem Inv.kept {t' : Nat} (I : Inv X pins σ H s) (k : ∀ b u, s.heap.get? b = some u -> h'.get? b = some u) : Inv X pins σ H { s with heap := h', toks := t' } := I.un (Un.kept k) (I.hok.kept k)
theorem Inv.laid {a : Addr} {o : HO} {t' : Nat} (I : Inv X pins σ H s) (k : ∀ b u, s.heap.get? b = some u -> h'.get? b = some u) (hp : s.heap.objs.size <= a) (new : zi8 X.prog X.w (upd H a o) h' a o) :
    Inv X pins σ (upd H a o) { s with heap := h', toks := t' } := I.un (Un.laid k hp (I.hok.fresh hp)) (I.hok.laid k hp new)
theorem Inv.write {x e : Addr} {o : HO} {t' : Nat} (I : Inv X pins σ H s) (mu : Mut (H x)) (he : e = x \/ H e = some (.own x)) (k : ∀ b u, b ≠ e -> s.heap.get? b = some u -> h'.get? b = some u) (heo : ∃ u, h'.get? e = some u)
    (new : zi8 X.prog X.w (upd H x o) h' x o) : Inv X pins σ (upd H x o) { s with heap := h', toks := t' } := I.un (Un.write mu he k heo) (I.hok.write mu he k heo new)
theorem Inv.pins_of {pins' : List (Addr × Obj)} (I : Inv X pins σ H s) (h : ∀ p ∈ pins', s.heap.get? p.1 = some p.2 /\ H p.1 = none /\ p.1 ≠ X.env.locals /\ p.1 ∉ X.fs /\ ∀ v, p.2.data ≠ .cell v) : Inv X pins' σ H s :=
  ⟨I.ok, I.os, I.bare, I.base, I.loc, I.cell, I.free, I.freeC, fun p hp => (List.mem_append.mp hp).elim (fun z => I.pin p (List.mem_append_left _ z)) (h p), I.hok, I.len⟩
theorem xb2 {N : List Str} (hN : N.Nodup) {i j : Nat} {x : Str} (a : N[i]? = some x) (b : N[j]? = some x) : i = j := by
  obtain ⟨h1, e1⟩ := List.getElem?_eq_some_iff.mp a
  obtain ⟨h2, e2⟩ := List.getElem?_eq_some_iff.mp b
  exact (List.getElem_inj hN).mp (e1.trans e2.symm)
theorem xo2 {M : Model} {A : Around} {E : Value -> Shared -> Prop} {i : Nat} {x : Str} {v : V} {u : Value} {Q : Unit -> Shared -> Prop} (I : Inv X pins σ H s) (hN : X.N.Nodup) (hi : X.N[i]? = some x) (hx : Loc X.env.scope x) (r : ze0 v u)
    (h : ∀ s', Inv X pins (σ.set i (some v)) H s' -> (∃ a, Heap.SameBut a s.heap s'.heap /\ (a = X.env.locals \/ X.env.cells.lookup x = some a)) -> Q () s') (hf : X.fn x = true \/ X.env.scope.names.lookup x = some .local := by first | exact .inl rfl | exact .inr rfl | assumption) : wpAny M A (storeName X.env x u) Q E s := by
  obtain ⟨m, hn, hl⟩ := id I.loc
  have hcls : (X.env.scope.kind == .class || (X.env.scope.kind == .module && X.env.locals != X.env.globals)) = false := by rw [I.ok.kind]; rfl
  have hiσ : i < σ.length := by rw [I.len]; exact (List.getElem?_eq_some_iff.mp hi).1
  have cne := I.cne
  have tracked : ∀ {a : Addr} {h' : Heap}, (∃ o, s.heap.get? a = some o /\ H a = none) -> Heap.SameBut a s.heap h' -> HOk X.prog X.w H h' := fun {a h'} ha hs b ob e => by
    obtain ⟨_, _, hfree⟩ := ha
    refine (I.hok b ob e).stay (fun c w' hc q => (hs.2 c ?_).trans q) (fun _ q => q) fun _ _ q => q
    rintro rfl
    rcases hc with rfl | hc
    . rw [hfree] at e; cases e
    . rw [hfree] at hc; cases hc
  rcases hx with hk | hk
  . refine wpAny_storeName_local hk hn (fun h' hn' hs => ?_) hcls
    obtain ⟨oL, _, _, hoL, _⟩ := id hn
    refine h _ ⟨I.ok, I.os, I.bare, ⟨fun b o e n hb hx => ?_, fun b o e n hb hx => ?_, I.base.free, fun b o e hx => ?_, I.base.tups, I.base.frzs, I.base.tbls⟩, ⟨_, hn', fun j y v' e1 e2 e3 => ?_⟩, fun y c e => ?_, I.free, I.freeC, fun p hp => ?_, tracked ⟨oL, hoL, I.free⟩ hs, by simpa using I.len⟩ ⟨_, hs, .inl rfl⟩
    . exact (hs.2 b (Nat.ne_of_lt (Nat.lt_of_lt_of_le (Heap.lt_size e) I.ok.above))).trans (I.base.keep b o e n hb hx)
    . obtain ⟨sl, e1⟩ := I.base.slot b o e n hb hx
      exact ⟨sl, (hs.2 b (Nat.ne_of_lt (Nat.lt_of_lt_of_le (Heap.lt_size e) I.ok.above))).trans e1⟩
    . obtain ⟨o', e1⟩ := I.base.there b o e hx
      exact ⟨o', (hs.2 b (Nat.ne_of_lt (Nat.lt_of_lt_of_le (Heap.lt_size e) I.ok.above))).trans e1⟩
    . by_cases hj : j = i
      . subst hj
        rw [hi] at e1; cases e1
        rw [List.getElem?_set_self hiσ] at e2
        cases e2
        exact ⟨u, r, .inl ⟨hk, by simp⟩⟩
      . rw [List.getElem?_set_ne (Ne.symm hj)] at e2
        obtain ⟨u', r', q⟩ := hl j y v' e1 e2 e3
        refine ⟨u', r', ?_⟩
        rcases q with ⟨k, e⟩ | ⟨k, c, e, z⟩
        . refine .inl ⟨k, ?_⟩
          have : y ≠ x := fun e => hj (xb2 hN e1 (e ▸ hi))
          simp [this, e]
        . exact .inr ⟨k, c, e, z.sameBut hs (cne y c e)⟩
    . obtain ⟨w', z⟩ := I.cell y c e
      exact ⟨w', z.sameBut hs (cne y c e)⟩
    . obtain ⟨e, n, ne, nf, d⟩ := I.pin p hp
      exact ⟨(hs.2 p.1 ne).trans e, n, ne, nf, d⟩
  . have hfn : X.fn x = true := by
      rcases hf with z | z
      . exact z
      . rw [z] at hk; cases hk
    obtain ⟨c, hc⟩ := I.ok.has x (.inl hk)
    obtain ⟨w', z⟩ := I.cell x c hc
    refine wpAny_storeName_cell I.ok.kind hk hc z (fun h' hc' hs => ?_)
    obtain ⟨oc, hoc, hocd⟩ := id z
    refine h { s with heap := h' } ⟨I.ok, I.os, I.bare, ⟨fun b o e n hb hx => ?_, fun b o e n hb hx => ?_, I.base.free, fun b o e hx => ?_, I.base.tups, I.base.frzs, I.base.tbls⟩, ⟨m, hn.sameBut hs (Ne.symm (cne x c hc)), fun j y v' e1 e2 e3 => ?_⟩, fun y c' e => ?_, I.free, I.freeC, fun p hp => ?_, tracked ⟨oc, hoc, I.freeC x c hc⟩ hs, by simpa using I.len⟩ ⟨c, hs, .inr hc⟩
    . exact (hs.2 b (Nat.ne_of_lt (Nat.lt_of_lt_of_le (Heap.lt_size e) (I.ok.cab x c hfn hc)))).trans (I.base.keep b o e n hb hx)
    . obtain ⟨sl, e1⟩ := I.base.slot b o e n hb hx
      exact ⟨sl, (hs.2 b (Nat.ne_of_lt (Nat.lt_of_lt_of_le (Heap.lt_size e) (I.ok.cab x c hfn hc)))).trans e1⟩
    . obtain ⟨o', e1⟩ := I.base.there b o e hx
      exact ⟨o', (hs.2 b (Nat.ne_of_lt (Nat.lt_of_lt_of_le (Heap.lt_size e) (I.ok.cab x c hfn hc)))).trans e1⟩
    . by_cases hj : j = i
      . subst hj
        rw [hi] at e1; cases e1
        rw [List.getElem?_set_self hiσ] at e2
        cases e2
        exact ⟨u, r, .inr ⟨.inl hk, c, hc, hc'⟩⟩
      . rw [List.getElem?_set_ne (Ne.symm hj)] at e2
        obtain ⟨u', r', q⟩ := hl j y v' e1 e2 e3
        refine ⟨u', r', ?_⟩
        rcases q with q | ⟨k, c', e, z'⟩
        . exact .inl q
        . refine .inr ⟨k, c', e, z'.sameBut hs ?_⟩
          rintro rfl
          exact hj (xb2 hN e1 (I.ok.inj _ _ _ e hc ▸ hi))
    . by_cases hcc : c' = c
      . subst hcc; exact ⟨_, hc'⟩
      . obtain ⟨w2, z2⟩ := I.cell y c' e
        exact ⟨w2, z2.sameBut hs hcc⟩
    . obtain ⟨e, n, ne, nf, d⟩ := I.pin p hp
      refine ⟨(hs.2 p.1 ?_).trans e, n, ne, nf, d⟩
      intro q
      rw [q, hoc] at e
      have q' : oc = p.2 := Option.some.inj e
      exact d w' (by rw [<- q']; exact hocd)
theorem xb3 {M : Model} {A : Around} {E : Value -> Shared -> Prop} {i : Nat} {x : Str} {v : V} {u : Value} {Q : Unit -> Shared -> Prop} (I : Inv X pins σ H s) (hN : X.N.Nodup) (hi : X.N[i]? = some x) (hx : Loc X.env.scope x) (r : ze0 v u)
    (h : ∀ s', Inv X pins (σ.set i (some v)) H s' -> Q () s') (hf : X.fn x = true \/ X.env.scope.names.lookup x = some .local := by first | exact .inl rfl | exact .inr rfl | assumption) : wpAny M A (storeName X.env x u) Q E s :=
  xo2 I hN hi hx r (fun s' I' _ => h s' I') hf
theorem Inv.call' {s' : Shared} {ch : List Addr} (I : Inv X pins σ H s) (ho : s'.os = s.os) (u : Un (frs X.stack) ch H H' s.heap s'.heap) (hok : HOk X.prog X.w H' s'.heap) (hg : AllBare s'.gens)
    (hch : ∀ b ∈ ch, (b ∈ X.ex \/ X.s₀.heap.objs.size <= b) /\ b ≠ X.env.locals /\ (∀ x c, X.env.cells.lookup x = some c -> c ≠ b) /\ ∀ p ∈ X.pn ++ pins, p.1 ≠ b) : Inv X pins σ H' s' := by
  obtain ⟨h', g', d', t', o'⟩ := s'
  have e : o' = s.os := ho
  subst e
  exact I.call (g' := g') (t' := t') (d' := d') u hok hg hch
end
noncomputable abbrev XK := Value -> Option Addr -> Hp -> Prop
noncomputable abbrev St := List (Option V)
noncomputable abbrev VK := V -> Hp -> Prop
noncomputable abbrev TE := St -> Hp -> VK -> Prop
noncomputable abbrev TT := St -> Hp -> (Bool -> Hp -> Prop) -> Prop
noncomputable abbrev TA := St -> Hp -> (List V -> Hp -> Prop) -> Prop
structure Ends where
  nx : St -> Hp -> Prop
  rt : VK
  bk : St -> Hp -> Prop := fun _ _ => False
  ct : St -> Hp -> Prop := fun _ _ => False
noncomputable abbrev TS := Ends -> St -> Hp -> Prop
noncomputable def EP (X : Cx) (pins : List (Addr × Obj)) (σ : St) (Q : VK) (u : Value) (s' : Shared) : Prop := ∃ v H', Inv X pins σ H' s' /\ ze0 v u /\ Q v H'
noncomputable def TP (X : Cx) (pins : List (Addr × Obj)) (σ : St) (Q : Bool -> Hp -> Prop) (b : Bool) (s' : Shared) : Prop := ∃ H', Inv X pins σ H' s' /\ Q b H'
noncomputable def AP (X : Cx) (pins : List (Addr × Obj)) (σ : St) (Q : List V -> Hp -> Prop) (us : List Value) (s' : Shared) : Prop := ∃ vs H', Inv X pins σ H' s' /\ zc3 vs us /\ Q vs H'
noncomputable def SP (X : Cx) (pins : List (Addr × Obj)) (D : Ends) (f : Flow) (s' : Shared) : Prop :=
  match f with
  | .next => ∃ σ' H', Inv X pins σ' H' s' /\ D.nx σ' H'
  | .brk => ∃ σ' H', Inv X pins σ' H' s' /\ D.bk σ' H'
  | .cont => ∃ σ' H', Inv X pins σ' H' s' /\ D.ct σ' H'
  | .ret u => ∃ v σ' H', Inv X pins σ' H' s' /\ ze0 v u /\ D.rt v H'
noncomputable def PE (X : Cx) (e : Expr) (t : TE) : Prop :=
  ∀ (pins : List (Addr × Obj)) (s : Shared) (σ : St) (H : Hp) (Q : VK), Inv X pins σ H s -> t σ H Q -> wpAny (model X.prog X.w) X.A (eval e X.env) (EP X pins σ Q) X.xe s
noncomputable def PT (X : Cx) (e : Expr) (t : TT) : Prop :=
  ∀ (pins : List (Addr × Obj)) (s : Shared) (σ : St) (H : Hp) (Q : Bool -> Hp -> Prop), Inv X pins σ H s -> t σ H Q -> wpAny (model X.prog X.w) X.A (isTrue e X.env (eval e X.env)) (TP X pins σ Q) X.xe s
noncomputable def PW (X : Cx) (e : Expr) (t : TT) : Prop :=
  ∀ (whole : Sem Value) (pins : List (Addr × Obj)) (s : Shared) (σ : St) (H : Hp) (Q : Bool -> Hp -> Prop), Inv X pins σ H s -> t σ H Q -> wpAny (model X.prog X.w) X.A (isTrue e X.env whole) (TP X pins σ Q) X.xe s
theorem PW.pt {X : Cx} {e : Expr} {t : TT} (h : PW X e t) : PT X e t := h _
noncomputable def PA (X : Cx) (es : List Expr) (t : TA) : Prop :=
  ∀ (pos : Pos) (pins : List (Addr × Obj)) (s : Shared) (σ : St) (H : Hp) (Q : List V -> Hp -> Prop), Inv X pins σ H s -> t σ H Q -> wpAny (model X.prog X.w) X.A (spliced (backTo pos (starEach es X.env))) (AP X pins σ Q) X.xe s
noncomputable def PS (X : Cx) (st : Stmt) (t : TS) : Prop :=
  ∀ (pins : List (Addr × Obj)) (s : Shared) (σ : St) (H : Hp) (D : Ends), Inv X pins σ H s -> t D σ H -> wpAny (model X.prog X.w) X.A (exec st X.env) (SP X pins D) X.xe s
noncomputable def PSs (X : Cx) (st : List Stmt) (t : TS) : Prop :=
  ∀ (pins : List (Addr × Obj)) (s : Shared) (σ : St) (H : Hp) (D : Ends), Inv X pins σ H s -> t D σ H -> wpAny (model X.prog X.w) X.A (execs st X.env) (SP X pins D) X.xe s
theorem thn {α : Type} {t : Sem α} {Q Q' : α -> Shared -> Prop} {M : Model} {A : Around} {E : Value -> Shared -> Prop} {s : Shared} (h : wpAny M A t Q E s) (hQ : ∀ a s, Q a s -> Q' a s) : wpAny M A t Q' E s := wpAny_mono h hQ fun _ _ x => x
end L2
namespace L2
open PySem PySem.Spec PyProof.Rows
section
variable {X : Cx}
noncomputable def wi3 (i : Nat) : TE := fun σ H Q => ∃ v, σ[i]? = some (some v) /\ Q v H
noncomputable def tC (v : V) : TE := fun _ H Q => Q v H
theorem zx6 {i : Nat} {x : Str} {pos : Pos} (hN : X.N[i]? = some x) (hv : Vis X.env.scope x) (hd : (x == ("__debug__" : Str)) = false := by decide) (hcd : (x == ("__classdict__" : Str)) = false := by decide) : PE X (.Name x pos) (wi3 i) := by
  intro pins s σ H Q I h
  obtain ⟨v, e, h⟩ := h
  obtain ⟨m, hn, hl⟩ := I.loc
  obtain ⟨u, r, l⟩ := hl i x v hN e hv
  have fin : EP X pins σ Q u s := ⟨v, H, I, r, h⟩
  rcases l with ⟨hk, hm⟩ | ⟨hk, c, hc, hcell⟩
  . exact wpAny_Name (wpAny_loadName_local I.ok.kind hk hn hm fin) hd
  . rcases hk with hk | hk
    . exact wpAny_Name (wpAny_loadName_cell I.ok.kind hk hc hcell fin) hd
    . exact wpAny_Name (wpAny_loadName_free I.ok.kind hk hc hcell fin hcd) hd
theorem zo4 {i j pos} : PE X (.Constant (.int i) j pos) (tC (.int i)) := fun _ _ _ H _ I h => wpAny_Constant_int ⟨.int i, H, I.tok _, ⟨_, rfl⟩, h⟩
theorem wj6 {b j pos} : PE X (.Constant (.bool b) j pos) (tC (.bl b)) := fun _ _ _ H _ I h => Constant_bool ⟨.bl b, H, I, rfl, h⟩
theorem we3 {j pos} : PE X (.Constant .none j pos) (tC .non) := fun _ _ _ H _ I h => Constant_none ⟨.non, H, I, rfl, h⟩
theorem we4 {x j pos} : PE X (.Constant (.str x) j pos) (tC (.str x)) := fun _ _ _ H _ I h => Calls.Constant_str ⟨.str x, H, I.tok _, ⟨_, rfl⟩, h⟩
noncomputable def Gl (X : Cx) (x : Str) : Prop := X.env.kindOf x = some .globalImplicit
theorem yk5 {E : Value -> Shared -> Prop} {pins : List (Addr × Obj)} {s : Shared} {σ : St} {H : Hp} {x : Str} {u : Value} {pos : Pos} {Q : Value -> Shared -> Prop} (I : Inv X pins σ H s) (hg : Gl X x) (hm : X.mg x = some u) (h : Q u s)
    (hd : (x == ("__debug__" : Str)) = false := by decide) : wpAny (model X.prog X.w) X.A (eval (.Name x pos) X.env) Q E s :=
  Calls.Name_function_global I.ok.kind hg (Calls.loadGlobal_global (by rw [I.ok.glob]; exact I.mod.glob.keeps I.bk) hm h) hd
theorem yp4 {E : Value -> Shared -> Prop} {pins : List (Addr × Obj)} {s : Shared} {σ : St} {H : Hp} {x : Str} {u : Value} {pos : Pos} {Q : Value -> Shared -> Prop} (I : Inv X pins σ H s) (hg : Gl X x) (hm : X.mg x = none) (hv : bootBuiltins x = some u) (h : Q u s)
    (hn : x ≠ "__name__" := by decide) (hd : (x == ("__debug__" : Str)) = false := by decide) : wpAny (model X.prog X.w) X.A (eval (.Name x pos) X.env) Q E s := by
  obtain ⟨mb, h1, h2⟩ := I.mod.blt
  exact Calls.Name_function_global I.ok.kind hg (Calls.loadGlobal_builtin (by rw [I.ok.glob]; exact I.mod.glob.keeps I.bk) hm (by rw [I.ok.blt]; exact h1.keeps I.bk) ((h2 x hn).trans hv) h) hd
theorem xz7 {x : Str} {v : V} {u : Value} {pos : Pos} (hg : Gl X x) (hm : X.mg x = some u) (r : ze0 v u) (hd : (x == ("__debug__" : Str)) = false := by decide) : PE X (.Name x pos) (tC v) :=
  fun _ _ _ H _ I h => yk5 I hg hm ⟨v, H, I, r, h⟩ hd
theorem xz8 {x : Str} {v : V} {u : Value} {pos : Pos} (hg : Gl X x) (hm : X.mg x = none) (hv : bootBuiltins x = some u) (r : ze0 v u) (hn : x ≠ "__name__" := by decide) (hd : (x == ("__debug__" : Str)) = false := by decide) : PE X (.Name x pos) (tC v) :=
  fun _ _ _ H _ I h => yp4 I hg hm hv ⟨v, H, I, r, h⟩ hn hd
variable {a b : Expr} {ta tb : TE} {pos : Pos}
variable {tA tB' : TT} {zb9 : List Expr}
noncomputable def wm8 (t u : TT) : TT := fun σ H Q => t σ H fun c H1 => if c = true then u σ H1 Q else Q false H1
noncomputable def tOr (t u : TT) : TT := fun σ H Q => t σ H fun c H1 => if c = true then Q true H1 else u σ H1 Q
noncomputable def wm9 (t : TT) : TT := fun σ H Q => t σ H fun c H1 => Q (!c) H1
theorem xz9 (ha : PT X a tA) : PW X (.BoolOp .And [a] pos) tA := by
  intro wh pins s σ H Q I h
  refine isTrue_and (thn (ha pins s σ H Q I h) fun c s1 e => ?_)
  cases c with
  | true => exact isTrue_and_nil e
  | false => exact e
theorem we5 (ha : PT X a tA) : PW X (.BoolOp .Or [a] pos) tA := by
  intro wh pins s σ H Q I h
  refine isTrue_or (thn (ha pins s σ H Q I h) fun c s1 e => ?_)
  cases c with
  | false => exact isTrue_or_nil e
  | true => exact e
theorem we6 (ha : PT X a tA) (hb : PW X (.BoolOp .And (b :: zb9) pos) tB') : PW X (.BoolOp .And (a :: b :: zb9) pos) (wm8 tA tB') := by
  intro wh pins s σ H Q I h
  refine isTrue_and (thn (ha pins s σ H _ I h) fun c s1 ⟨H1, I1, q1⟩ => ?_)
  cases c with
  | true => exact hb wh pins s1 σ H1 Q I1 q1
  | false => exact ⟨H1, I1, q1⟩
theorem wj7 (ha : PT X a tA) (hb : PW X (.BoolOp .Or (b :: zb9) pos) tB') : PW X (.BoolOp .Or (a :: b :: zb9) pos) (tOr tA tB') := by
  intro wh pins s σ H Q I h
  refine isTrue_or (thn (ha pins s σ H _ I h) fun c s1 ⟨H1, I1, q1⟩ => ?_)
  cases c with
  | true => exact ⟨H1, I1, q1⟩
  | false => exact hb wh pins s1 σ H1 Q I1 q1
theorem we7 (ha : PT X a tA) : PT X (.UnaryOp .Not a pos) (wm9 tA) := by
  intro pins s σ H Q I h
  exact isTrue_not (ha pins s σ H (fun c H1 => Q (!c) H1) I h)
noncomputable def wk8 (ta tb : TE) : TE := fun σ H Q => ta σ H fun x H1 => ∃ c, x = .bl c /\ if c = true then tb σ H1 Q else Q (.bl false) H1
noncomputable def wn0 (ta tb : TE) : TE := fun σ H Q => ta σ H fun x H1 => ∃ c, x = .bl c /\ if c = true then Q (.bl true) H1 else tb σ H1 Q
theorem we8 {op} {t : TE} (h : PE X a t) : PE X (.BoolOp op [a] pos) t := fun pins s σ H Q I hw => BoolOp_one (h pins s σ H Q I hw)
theorem we9 (ha : PE X a ta) (hb : PE X (.BoolOp .And (b :: zb9) pos) tb) : PE X (.BoolOp .And (a :: b :: zb9) pos) (wk8 ta tb) := by
  intro pins s σ H Q I h
  refine BoolOp_and (thn (ha pins s σ H _ I h) fun v s1 ⟨x, H1, I1, r1, q1⟩ => ?_)
  obtain ⟨c, rfl, q1⟩ := q1
  cases r1
  refine wpAny_truthy_bool ?_
  cases c with
  | true => exact hb pins s1 σ H1 Q I1 q1
  | false => exact ⟨.bl false, H1, I1, rfl, q1⟩
theorem wj8 (ha : PE X a ta) (hb : PE X (.BoolOp .Or (b :: zb9) pos) tb) : PE X (.BoolOp .Or (a :: b :: zb9) pos) (wn0 ta tb) := by
  intro pins s σ H Q I h
  refine BoolOp_or (thn (ha pins s σ H _ I h) fun v s1 ⟨x, H1, I1, r1, q1⟩ => ?_)
  obtain ⟨c, rfl, q1⟩ := q1
  cases r1
  refine wpAny_truthy_bool ?_
  cases c with
  | false => exact hb pins s1 σ H1 Q I1 q1
  | true => exact ⟨.bl true, H1, I1, rfl, q1⟩
end
end L2
namespace L2
open PySem PySem.Spec PyProof.Rows
noncomputable def SqL (K : PySem.W.Frag) (H : Hp) (a : Addr) (xs : List V) : Prop :=
  Rd H a (.lst xs) \/
    ∃ (o : Obj) (its : Array Value) (n : Nat), K.lookup a = some o /\ o.cls = .type "list" /\ o.dict = none /\ o.data = .seq its n /\ its.size <= sizeLine /\ zc3 xs its.toList
noncomputable def SqT (K : PySem.W.Frag) (H : Hp) (a : Addr) (xs : List V) : Prop :=
  Rd H a (.tup xs) \/
    ∃ (o : Obj) (its : Array Value) (n : Nat), K.lookup a = some o /\ o.cls = .type "tuple" /\ o.data = .seq its n /\ its.size <= sizeLine /\ zc3 xs its.toList
noncomputable def wn1 : Value -> Option V
  | .none => some .non
  | .bool b => some (.bl b)
  | .int i _ => some (.int i)
  | .str x _ => some (.str x)
  | .bytes b _ => some (.byt b)
  | .float b _ => some (.flt b)
  | .ref a => some (.ref a)
  | .type n => some (.ty n)
  | _ => none
theorem ze0.abs {x : V} {u : Value} (r : ze0 x u) : wn1 u = some x := by
  cases x with
  | non => cases r; rfl
  | bl _ => cases r; rfl
  | int _ => obtain ⟨t, rfl⟩ := r; rfl
  | str _ => obtain ⟨t, rfl⟩ := r; rfl
  | byt _ => obtain ⟨t, rfl⟩ := r; rfl
  | flt _ => obtain ⟨t, rfl⟩ := r; rfl
  | ref _ => cases r; rfl
  | ty _ => cases r; rfl
theorem ze0.inj {x y : V} {u : Value} (r : ze0 x u) (q : ze0 y u) : x = y := Option.some.inj (r.abs.symm.trans q.abs)
theorem zc3.inj : ∀ {xs ys : List V} {us : List Value}, zc3 xs us -> zc3 ys us -> xs = ys
  | _, _, _, .nil, .nil => rfl
  | _, _, _, .cons r t, .cons r' t' => by rw [r.inj r', zc3.inj t t']
section
variable {X : Cx} {pins : List (Addr × Obj)} {σ : St} {H : Hp} {s : Shared} {a : Addr} {xs ys : List V}
theorem SqL.of {K : PySem.W.Frag} (h : H a = some (.lst xs)) : SqL K H a xs := .inl (.inl h)
theorem SqT.of {K : PySem.W.Frag} (h : H a = some (.tup xs)) : SqT K H a xs := .inl (.inl h)
theorem Inv.list (I : Inv X pins σ H s) (h : SqL X.K H a xs) : ∃ its : List Value, zc3 xs its /\ PlainL s.heap a its.toArray /\ xs.length <= sizeLine := by
  rcases h with h | ⟨o, its, n, hk, hc, hd, hs, hz, r⟩
  . obtain ⟨z, its, n, r, e⟩ := h.ok I.hok
    exact ⟨its, r, ⟨_, n, e, rfl, rfl, rfl⟩, z⟩
  . refine ⟨its.toList, r, ⟨o, n, I.kIn a o hk, hc, hd, by simpa using hs⟩, ?_⟩
    have e := r.length
    simp only [Array.length_toList] at e
    omega
theorem Inv.tuple (I : Inv X pins σ H s) (h : SqT X.K H a xs) : ∃ its : List Value, zc3 xs its /\ IsTup s.heap a its.toArray /\ xs.length <= sizeLine := by
  rcases h with h | ⟨o, its, n, hk, hc, hs, hz, r⟩
  . obtain ⟨z, its, r, p⟩ := h.ok I.hok
    exact ⟨its, r, p, z⟩
  . refine ⟨its.toList, r, ⟨o, I.kIn a o hk, hc, n, by simpa using hs⟩, ?_⟩
    have e := r.length
    simp only [Array.length_toList] at e
    omega
theorem Inv.list_inj (I : Inv X pins σ H s) (h : SqL X.K H a xs) (h' : SqL X.K H a ys) : xs = ys := by
  obtain ⟨its, r, ⟨o, n, e, _, _, d⟩, _⟩ := I.list h
  obtain ⟨its', r', ⟨o', n', e', _, _, d'⟩, _⟩ := I.list h'
  rw [e] at e'; cases e'
  rw [d] at d'
  injection d' with d1 _
  have : its = its' := by simpa using congrArg Array.toList d1
  subst this
  exact r.inj r'
theorem Inv.tuple_inj (I : Inv X pins σ H s) (h : SqT X.K H a xs) (h' : SqT X.K H a ys) : xs = ys := by
  obtain ⟨its, r, ⟨o, e, _, n, d⟩, _⟩ := I.tuple h
  obtain ⟨its', r', ⟨o', e', _, n', d'⟩, _⟩ := I.tuple h'
  rw [e] at e'; cases e'
  rw [d] at d'
  injection d' with d1 _
  have : its = its' := by simpa using congrArg Array.toList d1
  subst this
  exact r.inj r'
end
noncomputable abbrev Cx.wish (X : Cx) (E : Value -> Shared -> Prop) : Cx := { X with xe := E }
noncomputable abbrev Cx.nox (X : Cx) : Cx := X.wish fun _ _ => False
theorem Cx.Ok.wish {X : Cx} (ok : X.Ok) (E : Value -> Shared -> Prop) : (X.wish E).Ok :=
  ⟨ok.mod, ok.kind, ok.glob, ok.blt, ok.above, ok.inj, ok.has, ok.cab, ok.hd, ok.frames, ok.stk, ok.exf, ok.bs, ok.bsz, ok.noex, ok.exfs, ok.funs, ok.frf⟩
theorem Cx.Ok.unwish {X : Cx} {E : Value -> Shared -> Prop} (ok : (X.wish E).Ok) : X.Ok :=
  ⟨ok.mod, ok.kind, ok.glob, ok.blt, ok.above, ok.inj, ok.has, ok.cab, ok.hd, ok.frames, ok.stk, ok.exf, ok.bs, ok.bsz, ok.noex, ok.exfs, ok.funs, ok.frf⟩
section
variable {X : Cx} {pins : List (Addr × Obj)} {σ : St} {H : Hp} {s : Shared} {E : Value -> Shared -> Prop}
theorem Inv.wish (I : Inv X pins σ H s) (E : Value -> Shared -> Prop) : Inv (X.wish E) pins σ H s := ⟨I.ok.wish E, I.os, I.bare, I.base, I.loc, I.cell, I.free, I.freeC, I.pin, I.hok, I.len⟩
theorem Inv.unwish (I : Inv (X.wish E) pins σ H s) : Inv X pins σ H s := ⟨I.ok.unwish, I.os, I.bare, I.base, I.loc, I.cell, I.free, I.freeC, I.pin, I.hok, I.len⟩
theorem SP.unwish {D : Ends} {f : Flow} {s' : Shared} (h : SP (X.wish E) pins D f s') : SP X pins D f s' := by
  cases f with
  | next => obtain ⟨σ', H', I, q⟩ := h; exact ⟨σ', H', I.unwish, q⟩
  | brk => obtain ⟨σ', H', I, q⟩ := h; exact ⟨σ', H', I.unwish, q⟩
  | cont => obtain ⟨σ', H', I, q⟩ := h; exact ⟨σ', H', I.unwish, q⟩
  | ret u => obtain ⟨v, σ', H', I, r, q⟩ := h; exact ⟨v, σ', H', I.unwish, r, q⟩
theorem PE.nox {e : Expr} {t : TE} (h : PE X.nox e t) : PE X e t := fun pins s σ H Q I hw =>
  wpAny_mono (h pins s σ H Q (I.wish _) hw) (fun _ _ ⟨v, H', I', r, q⟩ => ⟨v, H', I'.unwish, r, q⟩) fun _ _ z => False.elim z
theorem PT.nox {e : Expr} {t : TT} (h : PT X.nox e t) : PT X e t := fun pins s σ H Q I hw =>
  wpAny_mono (h pins s σ H Q (I.wish _) hw) (fun _ _ ⟨H', I', q⟩ => ⟨H', I'.unwish, q⟩) fun _ _ z => False.elim z
theorem PSs.nox {st : List Stmt} {t : TS} (h : PSs X.nox st t) : PSs X st t := fun pins s σ H D I hw =>
  wpAny_mono (h pins s σ H D (I.wish _) hw) (fun _ _ q => q.unwish) fun _ _ z => False.elim z
end
section
variable {X : Cx} {st : Stmt} {zb9 : List Stmt} {t u : TS} {e : Expr} {te : TE} {pos : Pos}
noncomputable def wk9 : TS := fun D σ H => D.nx σ H
noncomputable def wn2 (t u : TS) : TS := fun D σ H => t { D with nx := u D } σ H
theorem xg9 : PSs X [] wk9 := fun _ _ σ H _ I h => wpAny_execs_nil ⟨σ, H, I, h⟩
theorem zu1 (h1 : PS X st t) (h2 : PSs X zb9 u) : PSs X (st :: zb9) (wn2 t u) := by
  intro pins s σ H D I h
  refine wpAny_execs_cons (thn (h1 pins s σ H { D with nx := u D } I h) fun f s1 q => ?_)
  cases f with
  | next =>
    obtain ⟨σ', H', I', q⟩ := q
    exact h2 pins s1 σ' H' D I' q
  | ret v => exact q
  | brk => exact q
  | cont => exact q
theorem yk6 (h1 : PS X st t) : PSs X [st] t := by
  intro pins s σ H D I h
  refine wpAny_execs_cons (thn (h1 pins s σ H D I h) fun f s1 q => ?_)
  cases f with
  | next => exact wpAny_execs_nil q
  | ret v => exact q
  | brk => exact q
  | cont => exact q
theorem Inv.quiet {pins : List (Addr × Obj)} {σ : St} {H : Hp} {s : Shared} (I : Inv X pins σ H s) : interactive X.env = false := by simp [interactive, I.ok.kind]
noncomputable def wl0 (te : TE) : TS := fun D σ H => te σ H fun _ H1 => D.nx σ H1
theorem wa0 (he : PE X e te) (hs : swapsWith e none pos.line X.env = pure false := by rfl) : PS X (.Expr e pos) (wl0 te) := by
  intro pins s σ H D I h
  exact wpAny_Expr_any (thn (he pins s σ H _ I h) fun v s1 ⟨x, H1, I1, r1, q1⟩ => ⟨σ, H1, I1, q1⟩) I.quiet hs
noncomputable def wn3 (te : TE) : TS := fun D σ H => te σ H D.rt
theorem yi0 (he : PE X e te) : PS X (.Return (some e) pos) (wn3 te) := by
  intro pins s σ H D I h
  exact wpAny_Return_some (thn (he pins s σ H _ I h) fun v s1 ⟨x, H1, I1, r1, q1⟩ => ⟨x, σ, H1, I1, r1, q1⟩)
noncomputable def wn4 (c : TT) (t u : TS) : TS := fun D σ H => c σ H fun b H1 => if b = true then t D σ H1 else u D σ H1
theorem xy2 {c : Expr} {a b : List Stmt} {tc : TT} (hc : PT X c tc) (ha : PSs X a t) (hb : PSs X b u) : PS X (.If c a b pos) (wn4 tc t u) := by
  intro pins s σ H D I h
  refine wpAny_If (thn (hc pins s σ H _ I h) fun d s1 ⟨H1, I1, q1⟩ => ?_)
  cases d with
  | true => exact ha pins s1 σ H1 D I1 q1
  | false => exact hb pins s1 σ H1 D I1 q1
noncomputable def wi4 : TS := fun _ _ _ => False
theorem xt3 : PS X st wi4 := fun _ _ _ _ _ _ h => h.elim
end
noncomputable abbrev TG := V -> St -> Hp -> (St -> Hp -> Prop) -> Prop
noncomputable abbrev TGs := List V -> St -> Hp -> (St -> Hp -> Prop) -> Prop
noncomputable def PG (X : Cx) (target : Expr) (t : TG) : Prop :=
  ∀ (pins : List (Addr × Obj)) (s : Shared) (σ : St) (H : Hp) (v : V) (u : Value) (Q : St -> Hp -> Prop), Inv X pins σ H s -> ze0 v u -> t v σ H Q ->
    wpAny (model X.prog X.w) X.A (assign target X.env u) (fun _ s' => ∃ σ' H', Inv X pins σ' H' s' /\ Q σ' H') X.xe s
noncomputable def PGs (X : Cx) (ts : List Expr) (t : TGs) : Prop :=
  ∀ (pins : List (Addr × Obj)) (s : Shared) (σ : St) (H : Hp) (vs : List V) (us : List Value) (Q : St -> Hp -> Prop), Inv X pins σ H s -> zc3 vs us -> t vs σ H Q ->
    wpAny (model X.prog X.w) X.A (assignInOrder ((assignEach ts X.env).map (·.2)) us) (fun _ s' => ∃ σ' H', Inv X pins σ' H' s' /\ Q σ' H') X.xe s
noncomputable abbrev xx4 := V -> V -> V -> Hp -> (Hp -> Prop) -> Prop
noncomputable def wi5 (X : Cx) (t : xx4) : Prop :=
  ∀ (pins : List (Addr × Obj)) (s : Shared) (σ : St) (H : Hp) (o i v : V) (ov iv u : Value) (Q : Hp -> Prop), Inv X pins σ H s -> ze0 o ov -> ze0 i iv -> ze0 v u -> t o i v H Q ->
    wpAny (model X.prog X.w) X.A (setItem ov iv u) (fun _ s' => ∃ H', Inv X pins σ H' s' /\ Q H') X.xe s
section
variable {X : Cx} {pos : Pos}
noncomputable def zz4 (i : Nat) : TG := fun v σ H Q => Q (σ.set i (some v)) H
theorem zw2 {i : Nat} {x : Str} (hN : X.N.Nodup) (hi : X.N[i]? = some x) (hx : Loc X.env.scope x) (hf : X.fn x = true \/ X.env.scope.names.lookup x = some .local := by first | exact .inl rfl | exact .inr rfl | assumption) : PG X (.Name x pos) (zz4 i) := by
  intro pins s σ H v u Q I r h
  exact wpAny_assign_Name (xb3 I hN hi hx r (fun s' I' => ⟨_, H, I', h⟩) hf)
noncomputable def xx5 : TGs := fun vs σ H Q => vs = [] /\ Q σ H
noncomputable def xn1 (t : TG) (u : TGs) : TGs := fun vs σ H Q => ∃ v r, vs = v :: r /\ t v σ H fun σ' H' => u r σ' H' Q
theorem yu2 : PGs X [] xx5 := by
  intro pins s σ H vs us Q I r h
  obtain ⟨e, h⟩ := h
  subst e
  cases r
  exact assignInOrder_nil ⟨σ, H, I, h⟩
theorem yf2 {e : Expr} {es : List Expr} {t : TG} {u : TGs} (h1 : PG X e t) (h2 : PGs X es u)
    (hs : (assignEach (e :: es) X.env).map (·.2) = assign e X.env :: (assignEach es X.env).map (·.2) := by rfl) : PGs X (e :: es) (xn1 t u) := by
  intro pins s σ H vs us Q I r h
  obtain ⟨v, vr, e1, h⟩ := h
  subst e1
  cases r with
  | cons r rr =>
    rw [hs]
    refine assignInOrder_cons (thn (h1 pins s σ H _ _ _ I r h) fun _ s1 ⟨σ1, H1, I1, q1⟩ => ?_)
    exact h2 pins s1 σ1 H1 _ _ Q I1 rr q1
noncomputable def xn2 (K : PySem.W.Frag) (n : Nat) (t : TGs) : TG := fun v σ H Q => ∃ a xs, v = .ref a /\ SqT K H a xs /\ xs.length = n /\ t xs σ H Q
theorem wf0 {es : List Expr} {k : Nat} {t : TGs} {n : Nat} (hc : X.calm = true) (h : PGs X es t)
    (hn : (assignEach es X.env).length = n := by rfl) (hst : (assignEach es X.env).findIdx? (·.1) = none := by rfl) : PG X (.Tuple es k pos) (xn2 X.K n t) := by
  intro pins s σ H v u Q I r hw
  obtain ⟨a, xs, e1, hq, hl, hw⟩ := hw
  subst e1
  cases r
  obtain ⟨its, rv, ht, hz⟩ := I.tuple hq
  refine assign_Tuple_tuple (I.ok.hd hc) ht (by simp [hn, <- hl, rv.length]) hst fun h' hx => ?_
  have I1 : Inv X pins σ H { s with heap := h' } := I.kept (t' := s.toks) fun b o e => hx b o (Nat.ne_of_lt (Heap.lt_size e)) e
  exact h pins _ σ H xs _ Q I1 (by simpa using rv) hw
noncomputable def wn5 (to ti : TE) (t : xx4) : TG := fun v σ H Q => to σ H fun o H1 => ti σ H1 fun i H2 => t o i v H2 fun H3 => Q σ H3
theorem wf1 {o i : Expr} {to ti : TE} {t : xx4} (ho : PE X o to) (hi : PE X i ti) (hs : wi5 X t)
    (ha : ∀ v, assign (.Subscript o i pos) X.env v = (do
      let ov <- holding [v] (eval o X.env)
      let iv <- holding [v, ov] (eval i X.env)
      standAt pos
      holding [v, ov, iv] (setItem ov iv v)
      release [v, ov, iv] []) := by intro _; rfl) : PG X (.Subscript o i pos) (wn5 to ti t) := by
  intro pins s σ H v u Q I r h
  rw [ha]
  refine wpAny_bind (wpAny_holding (thn (ho pins s σ H _ I h) fun ov s1 ⟨x, H1, I1, r1, q1⟩ => ?_))
  refine wpAny_bind (wpAny_holding (thn (hi pins s1 σ H1 _ I1 q1) fun iv s2 ⟨y, H2, I2, r2, q2⟩ => ?_))
  refine wpAny_bind (wpAny_standAt (wpAny_bind (wpAny_holding (thn (hs pins s2 σ H2 x y v ov iv u _ I2 r1 r2 r q2) fun _ s3 ⟨H3, I3, q3⟩ => ?_))))
  exact wpAny_release ⟨σ, H3, I3, q3⟩
noncomputable def wi6 (te : TE) (g : TG) : TS := fun D σ H => te σ H fun x H1 => g x σ H1 D.nx
theorem wf2 {tg e : Expr} {te : TE} {g : TG} (he : PE X e te) (hg : PG X tg g) (hs : swapsWithSole [tg] e pos.line X.env = pure false := by rfl) (hw : swappedStores [tg] e X.env = pure none := by rfl)
    (h1 : (assignEach [tg] X.env).map (·.2) = [assign tg X.env] := by rfl) : PS X (.Assign [tg] e pos) (wi6 te g) := by
  intro pins s σ H D I h
  refine wpAny_Assign_stores (thn (he pins s σ H _ I h) fun v s1 ⟨x, H1, I1, r1, q1⟩ => ?_) hs hw
  rw [h1]
  exact thn (hg pins s1 σ H1 x v _ I1 r1 q1) fun _ s2 q => q
theorem yd8 {i : Nat} {x : Str} {e : Expr} {te : TE} {pos' : Pos} (hN : X.N.Nodup) (hi : X.N[i]? = some x) (hx : Loc X.env.scope x) (he : PE X e te) (hs : swapsWith e (some (.Name x pos')) pos.line X.env = pure false := by rfl) (hf : X.fn x = true \/ X.env.scope.names.lookup x = some .local := by first | exact .inl rfl | exact .inr rfl | assumption) :
    PS X (.Assign [.Name x pos'] e pos) (wi6 te (zz4 i)) := by
  intro pins s σ H D I h
  refine wpAny_Assign_Name (thn (he pins s σ H _ I h) fun v s1 ⟨y, H1, I1, r1, q1⟩ => ?_) hs
  exact xb3 I1 hN hi hx r1 (fun s2 I2 => ⟨_, H1, I2, q1⟩) hf
end
section
variable {X : Cx} {pos : Pos}
noncomputable def wi7 (c : TT) (tb : TS) : TS := fun D σ H => ∃ W : Nat -> St -> Hp -> Prop, (∃ m, W m σ H) /\ ∀ m σ H, W m σ H ->
  c σ H fun b H1 => if b = true then ∃ N : St -> Hp -> Prop, (∀ σ' H', N σ' H' -> ∃ m', m' < m /\ W m' σ' H') /\ tb { D with nx := N, ct := N, bk := D.nx } σ H1 else D.nx σ H1
theorem xt4 {c : Expr} {body : List Stmt} {tc : TT} {tb : TS} (hp : PassesOwn (model X.prog X.w) X.A X.env X.xe) (hc : PT X c tc) (hb : PSs X body tb) : PS X (.While c body [] pos) (wi7 tc tb) := by
  intro pins s σ H D I h
  obtain ⟨W, ⟨m0, w0⟩, turn⟩ := h
  refine wpAny_While (codeAny_whileLoop (fun n s' => ∃ σ' H', Inv X pins σ' H' s' /\ W n σ' H') ?_ m0 ⟨σ, H, I, w0⟩)
  rintro n s1 ⟨σ1, H1, I1, w1⟩
  refine wpAny_passesOwn hp (thn (hc pins s1 σ1 H1 _ I1 (turn n σ1 H1 w1)) fun b s2 ⟨H2, I2, q2⟩ => ?_)
  cases b with
  | true =>
    obtain ⟨N, hN, q2⟩ := q2
    rw [if_pos rfl]
    refine wpAny_passesOwn hp (thn (hb pins s2 σ1 H2 _ I2 q2) fun f s3 q3 => ?_)
    cases f with
    | next =>
      obtain ⟨σ3, H3, I3, n3⟩ := q3
      obtain ⟨m', hm, w3⟩ := hN σ3 H3 n3
      exact ⟨m', hm, σ3, H3, I3, w3⟩
    | cont =>
      obtain ⟨σ3, H3, I3, n3⟩ := q3
      obtain ⟨m', hm, w3⟩ := hN σ3 H3 n3
      exact ⟨m', hm, σ3, H3, I3, w3⟩
    | brk => exact q3
    | ret v => exact q3
  | false =>
    rw [if_neg Bool.false_ne_true]
    exact wpAny_execs_nil ⟨σ1, H2, I2, q2⟩
end
structure It where
  go : Nat -> Hp -> Prop
  yld : Nat -> Hp -> V -> Hp -> Prop
  stop : Nat -> Hp -> Prop
noncomputable def yb3 (X : Cx) (pins : List (Addr × Obj)) (H : Hp) (b : Addr) : Prop :=
  H b = none /\ b ≠ X.env.locals /\ b ∉ X.fs /\ (b ∈ X.ex \/ X.s₀.heap.objs.size <= b) /\ (∀ x c, X.env.cells.lookup x = some c -> c ≠ b) /\ ∀ p ∈ X.pn ++ pins, p.1 ≠ b
theorem Inv.fpOk {X : Cx} {pins : List (Addr × Obj)} {σ : St} {H H' : Hp} {s : Shared} {b : Addr} (I : Inv X pins σ H s) (hb : s.heap.objs.size <= b) (hn : H' b = none) : yb3 X pins H' b := by
  refine ⟨hn, Nat.ne_of_gt (Nat.lt_of_lt_of_le I.lt hb), I.nofs hb, .inr (Nat.le_trans I.sz hb), fun x c e z => ?_, fun p hp z => ?_⟩
  . obtain ⟨v, q⟩ := I.cell x c e
    exact absurd (Nat.lt_of_lt_of_le q.lt (by rw [z]; exact hb)) (Nat.lt_irrefl _)
  . exact absurd (Nat.lt_of_lt_of_le (Heap.lt_size (I.pin p hp).1) (by rw [z]; exact hb)) (Nat.lt_irrefl _)
structure Turn (P : Program) (w : World) (K : PySem.W.Frag) (tg : Expr) (J : It) (fp : List Addr) (it : Addr) (tn : Nat -> Heap -> Prop) : Prop where
  mem : it ∈ fp
  obj : ∀ i h, tn i h -> ∀ b ∈ fp, ∃ o, h.get? b = some o /\ ∀ v, o.data ≠ .cell v
  keep : ∀ i h h', tn i h -> (∀ b ∈ fp, ∀ o, h.get? b = some o -> h'.get? b = some o) -> tn i h'
  item : ∀ (X : Cx), X.prog = P -> X.w = w -> X.K = K -> X.calm = true -> ∀ (i : Nat) (pins : List (Addr × Obj)) (s : Shared) (σ : St) (H : Hp) (E : Value -> Shared -> Prop), Inv X pins σ H s -> (∀ b ∈ fp, yb3 X pins H b) -> tn i s.heap -> J.go i H ->
    wpAny (model P w) X.A (pyNext (.ref it)) (fun r s1 => ∃ u, r = some u /\
      wpAny (model P w) X.A (letOwnedTupleGo tg (.ref it) u) (fun _ s2 => ∃ x H', Inv X pins σ H' s2 /\ ze0 x u /\ J.yld i H x H' /\ tn (i + 1) s2.heap /\ ∀ b ∈ fp, H' b = none) E s1) E s
  done : ∀ (X : Cx), X.prog = P -> X.w = w -> X.K = K -> X.calm = true -> ∀ (i : Nat) (pins : List (Addr × Obj)) (s : Shared) (σ : St) (H : Hp) (E : Value -> Shared -> Prop), Inv X pins σ H s -> (∀ b ∈ fp, yb3 X pins H b) -> tn i s.heap -> J.stop i H ->
    wpAny (model P w) X.A (pyNext (.ref it)) (fun r s1 => r = none /\ Inv X pins σ H s1) E s
  self : ∀ (A : Around) (i : Nat) (s : Shared) (Q : Value -> Shared -> Prop) (E : Value -> Shared -> Prop), tn i s.heap -> Q (.ref it) s -> wpAny (model P w) A (pyIter (.ref it)) Q E s
noncomputable abbrev TI := St -> Hp -> (It -> Hp -> Prop) -> Prop
noncomputable def PIE (X : Cx) (pins : List (Addr × Obj)) (σ : St) (tg : Expr) (R : It -> Hp -> Prop) (itv : Value) (s2 : Shared) : Prop :=
  ∃ (it : Addr) (fp : List Addr) (tn : Nat -> Heap -> Prop) (J : It) (H' : Hp), itv = .ref it /\ Inv X pins σ H' s2 /\ Turn X.prog X.w X.K tg J fp it tn /\ tn 0 s2.heap /\ (∀ b ∈ fp, yb3 X pins H' b) /\ R J H'
noncomputable def PI (X : Cx) (tg iter : Expr) (wi : TI) : Prop :=
  ∀ (pins : List (Addr × Obj)) (s : Shared) (σ : St) (H : Hp) (R : It -> Hp -> Prop), Inv X pins σ H s -> wi σ H R ->
    wpAny (model X.prog X.w) X.A (eval iter X.env) (fun v s1 => wpAny (model X.prog X.w) X.A (pyIter v) (PIE X pins σ tg R) X.xe s1) X.xe s
theorem xi8 {M : Model} {A : Around} {E : Value -> Shared -> Prop} {s : Shared} {tg : Expr} {it : Addr} {u : Value} {o : Obj} {n : String} {vs : Array Value} {Q : Unit -> Shared -> Prop} (ho : s.heap.get? it = some o) (hc : o.cls = .type n) (hd : o.data = .fields vs)
    (hn : ["enumerate", "zip", "dict_itemiterator", "dict_reverseitemiterator", "odict_iterator", "itertools.zip_longest", "itertools.pairwise"].contains n = false) (hQ : Q () s) : wpAny M A (letOwnedTupleGo tg (.ref it) u) Q E s := by
  unfold letOwnedTupleGo
  cases tg <;> first
    | exact wpAny_pure hQ
    | (cases u <;> first
        | exact wpAny_pure hQ
        | (refine wpAny_bind (wpAny_load ho ?_)
           rw [hc, hd]
           show wpAny M A (if (["enumerate", "zip", "dict_itemiterator", "dict_reverseitemiterator", "odict_iterator", "itertools.zip_longest", "itertools.pairwise"].contains n && vs[0]? == some (rawInt _)) = true then _ else _) Q E s
           rw [if_neg (by intro h; rw [hn, Bool.false_and] at h; cases h)]
           exact wpAny_pure hQ))
noncomputable def Itl (K : PySem.W.Frag) (a : Addr) : It :=
  ⟨fun i H => ∃ xs x, SqL K H a xs /\ xs[i]? = some x, fun i H x H' => H' = H /\ ∀ xs, SqL K H a xs -> xs[i]? = some x, fun i H => ∃ xs, SqL K H a xs /\ xs.length <= i⟩
noncomputable def Itt (K : PySem.W.Frag) (a : Addr) : It :=
  ⟨fun i H => ∃ xs x, SqT K H a xs /\ xs[i]? = some x, fun i H x H' => H' = H /\ ∀ xs, SqT K H a xs -> xs[i]? = some x, fun i H => ∃ xs, SqT K H a xs /\ xs.length <= i⟩
noncomputable def Itr (lo : Int) (n : Nat) : It := ⟨fun i _ => i < n, fun i H x H' => H' = H /\ x = .int (lo + i), fun i _ => n <= i⟩
theorem xo3 {P : Program} {w : World} {K : PySem.W.Frag} {tg : Expr} (a it : Addr) : Turn P w K tg (Itl K a) [it] it (fun i h => h.IsListIter it a i) where
  mem := by simp
  obj := fun i h st b hb => by
    have e : b = it := by simpa using hb
    subst e
    obtain ⟨o, e, c, d⟩ := st
    exact ⟨o, e, fun v z => by rw [d] at z; cases z⟩
  keep := fun i h h' st k => st.at fun o e => k it (by simp) o e
  item := by
    intro X hP hw hK hc i pins s σ H E I hf st hg
    subst hP hw hK
    obtain ⟨xs, x, hq, hx⟩ := hg
    obtain ⟨its, rv, p, hz⟩ := I.list hq
    obtain ⟨u, hu, ru⟩ := rv.get hx
    obtain ⟨f0, f1, f2, f3, f4, f5⟩ := hf it (by simp)
    refine wpAny_pyNext_list_item st p.isList (x := u) (by simpa using hu) fun h' st' sb => ?_
    have I1 : Inv X pins σ H { s with heap := h' } := I.turned (t' := s.toks) (fun b o hb e => (sb.2 b hb).trans e) f0 f1 f3 f4 f5
    obtain ⟨o, e, c, d⟩ := id st'
    exact ⟨u, rfl, xi8 (s := { s with heap := h' }) e c d (by decide) ⟨x, H, I1, ru, ⟨rfl, fun ys hy => by rw [I.list_inj hy hq]; exact hx⟩, st', fun b hb => (hf b hb).1⟩⟩
  done := by
    intro X hP hw hK hc i pins s σ H E I hf st hg
    subst hP hw hK
    obtain ⟨xs, hq, hx⟩ := hg
    obtain ⟨its, rv, p, hz⟩ := I.list hq
    obtain ⟨f0, f1, f2, f3, f4, f5⟩ := hf it (by simp)
    have hl := rv.length
    exact wpAny_pyNext_list_end (I.ok.hd hc) st p.isList (by simp; omega) fun h' eb => ⟨rfl, I.turned (t' := s.toks) (fun b o hb e => eb b o hb e) f0 f1 f3 f4 f5⟩
  self := fun _ _ _ _ _ st h => wpAny_pyIter_listiter st h
theorem xi9 {P : Program} {w : World} {K : PySem.W.Frag} {tg : Expr} (a it : Addr) : Turn P w K tg (Itt K a) [it] it (fun i h => h.IsTupleIter it a i) where
  mem := by simp
  obj := fun i h st b hb => by
    have e : b = it := by simpa using hb
    subst e
    obtain ⟨o, e, c, d⟩ := st
    exact ⟨o, e, fun v z => by rw [d] at z; cases z⟩
  keep := fun i h h' st k => st.at fun o e => k it (by simp) o e
  item := by
    intro X hP hw hK hc i pins s σ H E I hf st hg
    subst hP hw hK
    obtain ⟨xs, x, hq, hx⟩ := hg
    obtain ⟨its, rv, p, hz⟩ := I.tuple hq
    obtain ⟨u, hu, ru⟩ := rv.get hx
    obtain ⟨f0, f1, f2, f3, f4, f5⟩ := hf it (by simp)
    refine wpAny_pyNext_tuple_item st (show s.heap.IsTuple a its.toArray from p) (x := u) (by simpa using hu) fun h' st' sb => ?_
    have I1 : Inv X pins σ H { s with heap := h' } := I.turned (t' := s.toks) (fun b o hb e => (sb.2 b hb).trans e) f0 f1 f3 f4 f5
    obtain ⟨o, e, c, d⟩ := id st'
    exact ⟨u, rfl, xi8 (s := { s with heap := h' }) e c d (by decide) ⟨x, H, I1, ru, ⟨rfl, fun ys hy => by rw [I.tuple_inj hy hq]; exact hx⟩, st', fun b hb => (hf b hb).1⟩⟩
  done := by
    intro X hP hw hK hc i pins s σ H E I hf st hg
    subst hP hw hK
    obtain ⟨xs, hq, hx⟩ := hg
    obtain ⟨its, rv, p, hz⟩ := I.tuple hq
    obtain ⟨f0, f1, f2, f3, f4, f5⟩ := hf it (by simp)
    have hl := rv.length
    exact wpAny_pyNext_tuple_end (I.ok.hd hc) st (show s.heap.IsTuple a its.toArray from p) (by simp; omega) fun h' eb => ⟨rfl, I.turned (t' := s.toks) (fun b o hb e => eb b o hb e) f0 f1 f3 f4 f5⟩
  self := fun _ _ _ _ _ st h => wpAny_pyIter_tupleiter st h
theorem xj0 {P : Program} {w : World} {K : PySem.W.Frag} {tg : Expr} (it : Addr) (lo : Int) (n : Nat) : Turn P w K tg (Itr lo n) [it] it (fun i h => IsRangeIter h it (lo + (i : Nat) * 1) ((n : Int) - (i : Nat)) 1) where
  mem := by simp
  obj := fun i h st b hb => by
    have e : b = it := by simpa using hb
    subst e
    exact ⟨_, st, fun v z => by
      have z' : Data.fields _ = Data.cell v := z
      cases z'⟩
  keep := fun i h h' st k => k it (by simp) _ st
  item := by
    intro X hP hw hK hc i pins s σ H E I hf st hg
    subst hP hw hK
    obtain ⟨f0, f1, f2, f3, f4, f5⟩ := hf it (by simp)
    have W := Walks.range (prog := X.prog) (w := X.w) (I.ok.hd hc) it lo 1 n
    refine W.item i s _ _ hg st fun v h' tk hv st' kk => ?_
    obtain ⟨t, rfl⟩ := hv
    have I1 : Inv X pins σ H { s with heap := h', toks := tk } := I.turned (fun b o hb e => kk b o (by simpa using hb) e) f0 f1 f3 f4 f5
    refine ⟨_, rfl, xi8 (s := { s with heap := h', toks := tk }) (n := "range_iterator") st' rfl rfl (by decide) ⟨.int (lo + i), H, I1, ⟨t, ?_⟩, ⟨rfl, rfl⟩, st', fun b hb => (hf b hb).1⟩⟩
    rw [Int.mul_one]
  done := by
    intro X hP hw hK hc i pins s σ H E I hf st hg
    subst hP hw hK
    obtain ⟨f0, f1, f2, f3, f4, f5⟩ := hf it (by simp)
    exact wpAny_pyNext_range_end (I.ok.hd hc) st (by have : n <= i := hg; omega) fun h' eb => ⟨rfl, I.turned (t' := s.toks) (fun b o hb e => eb b o hb e) f0 f1 f3 f4 f5⟩
  self := fun _ _ _ _ _ st h => wpAny_pyIter_rangeiter st h
end L2
namespace L2
open PySem PySem.Spec PyProof.Rows
section
variable {X : Cx} {tg : Expr}
theorem xt5 {pins : List (Addr × Obj)} {σ : St} {H : Hp} {s : Shared} {R : It -> Hp -> Prop} {E : Value -> Shared -> Prop} {lo hi : Int} {t u v : Tok} {tk : Nat} (I : Inv X pins σ H s) (h1 : -(2 ^ 62) <= lo) (h2 : lo < 2 ^ 62) (h3 : -(2 ^ 62) <= hi) (h4 : hi < 2 ^ 62)
    (q : R (Itr lo (hi - lo).toNat) H) : wpAny (model X.prog X.w) X.A (pyIter (.ref s.heap.objs.size)) (PIE X pins σ tg R) E { s with heap := s.heap.push { cls := .type "range", data := .fields #[.int lo t, .int hi u, .int 1 v] }, toks := tk } := by
  refine wpAny_pyIter_range (IsRange.new ..) (small_one h1 h2 h3 h4) ?_
  have I1 : Inv X pins σ H { s with heap := s.heap.push { cls := .type "range", data := .fields #[.int lo t, .int hi u, .int 1 v] }, toks := tk } := I.kept fun b o e => Heap.get?_push_of_some _ e
  refine ⟨(s.heap.push { cls := .type "range", data := .fields #[.int lo t, .int hi u, .int 1 v] }).objs.size, [(s.heap.push { cls := .type "range", data := .fields #[.int lo t, .int hi u, .int 1 v] }).objs.size], _, _, H, rfl,
    I1.kept (t' := tk) fun b o e => Heap.get?_push_of_some _ e, xj0 _ lo (hi - lo).toNat, ?_, fun b hb => ?_, q⟩
  . have e1 : lo + ((0 : Nat) : Int) * 1 = lo := by simp
    have e2 : (((hi - lo).toNat : Nat) : Int) - ((0 : Nat) : Int) = Builtin.Range.rangeSize lo hi 1 := by rw [rangeSize_one]; split <;> omega
    show IsRangeIter _ _ (lo + ((0 : Nat) : Int) * 1) ((((hi - lo).toNat : Nat) : Int) - ((0 : Nat) : Int)) 1
    rw [e1, e2]
    exact Heap.get?_push_size _ rfl
  . have e : b = (s.heap.push { cls := .type "range", data := .fields #[.int lo t, .int hi u, .int 1 v] }).objs.size := by simpa using hb
    subst e
    exact I1.fpOk (Nat.le_refl _) (I1.hok.fresh (Nat.le_refl _))
noncomputable def wl1 (ta : TA) : TI := fun σ H R => ta σ H fun vs H1 => ∃ j : Int, vs = [.int j] /\ -(2 ^ 62) <= j /\ j < 2 ^ 62 /\ R (Itr 0 j.toNat) H1
theorem xo4 {a : Expr} {ta : TA} {p pos : Pos} (hg : Gl X "range") (hm : X.mg "range" = none) (ha : PA X [a] ta) (hs : starEach [a] X.env = [(false, eval a X.env)] := by rfl) : PI X tg (.Call (.Name "range" p) [a] [] pos) (wl1 ta) := by
  intro pins s σ H R I h
  refine Call_ (yp4 I hg hm boot_range (PyProof.Rows.callWith_type1 (thn (ha pos pins s σ H _ I h) fun us s1 ⟨vs, H1, I1, r1, q1⟩ => ?_) hs rfl))
  obtain ⟨j, e, q1, q2, q⟩ := q1
  subst e
  cases r1 with
  | cons r rr =>
    cases rr
    obtain ⟨t, rfl⟩ := r
    exact call_range_1 (xt5 I1 (by omega) (by omega) q1 q2 (by simpa using q))
noncomputable def wn6 (wi : TI) (g : TG) (tb : TS) : TS := fun D σ H => wi σ H fun J H1 => ∃ W : Nat -> Nat -> St -> Hp -> Prop, (∃ m, W 0 m σ H1) /\ ∀ i m σ H, W i m σ H ->
  (J.stop i H /\ D.nx σ H) \/ (J.go i H /\ ∃ N : St -> Hp -> Prop, (∀ σ' H', N σ' H' -> ∃ m', m' < m /\ W (i + 1) m' σ' H') /\ ∀ x H', J.yld i H x H' -> g x σ H' fun σ2 H2 => tb { D with nx := N, ct := N, bk := D.nx } σ2 H2)
noncomputable def ye7 (fp : List Addr) (h : Heap) : List (Addr × Obj) := fp.filterMap fun b => (h.get? b).map fun o => (b, o)
theorem zz0 {fp : List Addr} {h : Heap} {b : Addr} {o : Obj} (hb : b ∈ fp) (e : h.get? b = some o) : (b, o) ∈ ye7 fp h := List.mem_filterMap.mpr ⟨b, hb, by rw [e]; rfl⟩
theorem xo5 {fp : List Addr} {h : Heap} {p : Addr × Obj} (hp : p ∈ ye7 fp h) : p.1 ∈ fp /\ h.get? p.1 = some p.2 := by
  obtain ⟨b, hb, e⟩ := List.mem_filterMap.mp hp
  cases q : h.get? b with
  | none => rw [q] at e; cases e
  | some o =>
    rw [q] at e
    have e' : (b, o) = p := Option.some.inj e
    subst e'
    exact ⟨hb, q⟩
theorem Inv.pinned {pins : List (Addr × Obj)} {σ : St} {H : Hp} {s : Shared} {fp : List Addr} (I : Inv X pins σ H s) (hf : ∀ b ∈ fp, yb3 X pins H b) (ho : ∀ b ∈ fp, ∃ o, s.heap.get? b = some o /\ ∀ v, o.data ≠ .cell v) : Inv X (pins ++ ye7 fp s.heap) σ H s :=
  I.pins_of fun p hp => (List.mem_append.mp hp).elim (fun z => I.pin p (List.mem_append_right _ z)) fun z => by
    obtain ⟨hb, e⟩ := xo5 z
    obtain ⟨f0, f1, f2, _⟩ := hf p.1 hb
    obtain ⟨o, e', d⟩ := ho p.1 hb
    rw [e] at e'; cases e'
    exact ⟨e, f0, f1, f2, d⟩
theorem Inv.unpinned {pins pl : List (Addr × Obj)} {σ : St} {H : Hp} {s : Shared} (I : Inv X (pins ++ pl) σ H s) : Inv X pins σ H s := I.pins_of fun p hp => I.pin p (List.mem_append_right _ (List.mem_append_left _ hp))
theorem xb4 {iter : Expr} {body : List Stmt} {wi : TI} {g : TG} {tb : TS} {pos : Pos} (hp : PassesOwn (model X.prog X.w) X.A X.env X.xe) (hc : X.calm = true) (hi : PI X tg iter wi) (hg : PG X tg g) (hb : PSs X body tb)
    (hs : ∀ x, foldedSetIterable iter X.env x = pure x := by intro _; rfl) : PS X (.For tg iter body [] pos) (wn6 wi g tb) := by
  intro pins s σ H D I h
  refine wpAny_For (thn (hi pins s σ H _ I h) fun v s1 h1 => thn h1 fun itv s2 h2 => ?_) hs
  obtain ⟨it, fp, tn, J, H2, e, I2, T, st2, f2, W, ⟨m0, w0⟩, turn⟩ := h2
  subst e
  have stat : ∀ {H' : Hp}, (∀ b ∈ fp, H' b = none) -> ∀ b ∈ fp, yb3 X pins H' b := fun hn b hb => ⟨hn b hb, (f2 b hb).2⟩
  refine codeAny_forLoop_any (fun n s' => ∃ i σ' H', Inv X pins σ' H' s' /\ tn i s'.heap /\ (∀ b ∈ fp, H' b = none) /\ W i n σ' H') ?_ m0 ⟨0, σ, H2, I2, st2, fun b hb => (f2 b hb).1, w0⟩
  rintro n s3 ⟨i, σ3, H3, I3, st3, fr3, w3⟩
  rcases turn i n σ3 H3 w3 with ⟨stop, qn⟩ | ⟨go, N, hN, step⟩
  . refine wpAny_passesOwn hp (thn (T.done X rfl rfl rfl hc i pins s3 σ3 H3 X.xe I3 (stat fr3) st3 stop) fun r s4 ⟨hr, I4⟩ => ?_)
    subst hr
    exact wpAny_execs_nil ⟨σ3, H3, I4, qn⟩
  . refine wpAny_passesOwn hp (thn (T.item X rfl rfl rfl hc i pins s3 σ3 H3 X.xe I3 (stat fr3) st3 go) fun r s4 ⟨u, hr, h4⟩ => ?_)
    subst hr
    refine wpAny_passesOwn hp (thn h4 fun _ s5 ⟨x, H5, I5, r5, y5, st5, fr5⟩ => ?_)
    have I5' := I5.pinned (stat fr5) (T.obj _ _ st5)
    refine wpAny_passesOwn hp (thn (hg _ s5 σ3 H5 x u _ I5' r5 (step x H5 y5)) fun _ s6 ⟨σ6, H6, I6, q6⟩ => ?_)
    refine wpAny_passesOwn hp (thn (hb _ s6 σ6 H6 _ I6 q6) fun f s7 q7 => ?_)
    have again : ∀ {σ7 : St} {H7 : Hp}, Inv X (pins ++ ye7 fp s5.heap) σ7 H7 s7 -> N σ7 H7 -> ∃ m, m < n /\ ∃ i σ' H', Inv X pins σ' H' s7 /\ tn i s7.heap /\ (∀ b ∈ fp, H' b = none) /\ W i m σ' H' := fun {σ7 H7} I7 n7 => by
      obtain ⟨m', hm, w7⟩ := hN σ7 H7 n7
      refine ⟨m', hm, i + 1, σ7, H7, I7.unpinned, T.keep _ _ _ st5 fun b hb o e => (I7.pin (b, o) (List.mem_append_right _ (List.mem_append_right _ (zz0 hb e)))).1, fun b hb => ?_, w7⟩
      obtain ⟨o, e, d⟩ := T.obj _ _ st5 b hb
      exact (I7.pin (b, o) (List.mem_append_right _ (List.mem_append_right _ (zz0 hb e)))).2.1
    cases f with
    | next => obtain ⟨σ7, H7, I7, n7⟩ := q7; exact again I7 n7
    | cont => obtain ⟨σ7, H7, I7, n7⟩ := q7; exact again I7 n7
    | brk => obtain ⟨σ7, H7, I7, q7⟩ := q7; exact ⟨σ7, H7, I7.unpinned, q7⟩
    | ret v => obtain ⟨x7, σ7, H7, I7, r7, q7⟩ := q7; exact ⟨x7, σ7, H7, I7.unpinned, r7, q7⟩
end
end L2
namespace L2
open PySem PySem.Spec PyProof.Rows
noncomputable abbrev R2 := V -> V -> Hp -> VK -> Prop
noncomputable def OpR (X : Cx) (f : Value -> Value -> Sem Value) (r : R2) : Prop :=
  ∀ (pins : List (Addr × Obj)) (s : Shared) (σ : St) (H : Hp) (x y : V) (v u : Value) (Q : VK), Inv X pins σ H s -> ze0 x v -> ze0 y u -> r x y H Q ->
    wpAny (model X.prog X.w) X.A (f v u) (EP X pins σ Q) X.xe s
noncomputable def UnR (X : Cx) (f : Value -> Sem Value) (r : V -> Hp -> VK -> Prop) : Prop :=
  ∀ (pins : List (Addr × Obj)) (s : Shared) (σ : St) (H : Hp) (x : V) (v : Value) (Q : VK), Inv X pins σ H s -> ze0 x v -> r x H Q ->
    wpAny (model X.prog X.w) X.A (f v) (EP X pins σ Q) X.xe s
noncomputable def zi0 (X : Cx) (f : Value) (r : List V -> Hp -> VK -> Prop) : Prop :=
  ∀ (pins : List (Addr × Obj)) (s : Shared) (σ : St) (H : Hp) (xs : List V) (us : List Value) (Q : VK), Inv X pins σ H s -> zc3 xs us -> r xs H Q ->
    wpAny (model X.prog X.w) X.A (call f us) (EP X pins σ Q) X.xe s
noncomputable def wn7 (X : Cx) (r : V -> Hp -> (Bool -> Hp -> Prop) -> Prop) : Prop :=
  ∀ (pins : List (Addr × Obj)) (s : Shared) (σ : St) (H : Hp) (x : V) (v : Value) (Q : Bool -> Hp -> Prop), Inv X pins σ H s -> ze0 x v -> r x H Q ->
    wpAny (model X.prog X.w) X.A (truthy v) (TP X pins σ Q) X.xe s
noncomputable def tOp (r : R2) (ta tb : TE) : TE := fun σ H Q => ta σ H fun x H1 => tb σ H1 fun y H2 => r x y H2 Q
noncomputable def tUn (r : V -> Hp -> VK -> Prop) (ta : TE) : TE := fun σ H Q => ta σ H fun x H1 => r x H1 Q
noncomputable def rI (C : Int -> Int -> Prop) (g : Int -> Int -> V) : R2 := fun x y H Q => ∃ i j, x = .int i /\ y = .int j /\ C i j /\ Q (g i j) H
noncomputable def rI0 (g : Int -> Int -> V) : R2 := fun x y H Q => ∃ i j, x = .int i /\ y = .int j /\ Q (g i j) H
noncomputable def rU (g : Int -> V) : V -> Hp -> VK -> Prop := fun x H Q => ∃ i, x = .int i /\ Q (g i) H
section
variable {X : Cx} {a b c : Expr} {ta tb tc : TE} {pos : Pos}
theorem xt6 (ha : PE X a ta) (hb : PE X b tb) {pins : List (Addr × Obj)} {s : Shared} {σ : St} {H : Hp} {R : V -> V -> Hp -> Prop} (I : Inv X pins σ H s)
    (h : ta σ H fun x H1 => tb σ H1 fun y H2 => R x y H2) {Q : Value -> Shared -> Prop} {f : Value -> Value -> Sem Value}
    (hf : ∀ v u s2 x y H2, Inv X pins σ H2 s2 -> ze0 x v -> ze0 y u -> R x y H2 -> wpAny (model X.prog X.w) X.A (f v u) Q X.xe s2) :
    wpAny (model X.prog X.w) X.A (eval a X.env) (fun v s₁ => wpAny (model X.prog X.w) X.A (eval b X.env) (fun u s₂ => wpAny (model X.prog X.w) X.A (f v u) Q X.xe s₂) X.xe s₁) X.xe s := by
  refine thn (ha pins s σ H _ I h) fun v s1 ⟨x, H1, I1, r1, q1⟩ => ?_
  refine thn (hb pins s1 σ H1 _ I1 q1) fun u s2 ⟨y, H2, I2, r2, q2⟩ => ?_
  exact hf v u s2 x y H2 I2 r1 r2 q2
theorem zl2 {op : Operator} {r : R2} (ho : OpR X (binaryOp op) r) (ha : PE X a ta) (hb : PE X b tb) : PE X (.BinOp a op b pos) (tOp r ta tb) := by
  intro pins s σ H Q I h
  exact wpAny_BinOp (xt6 ha hb I h fun v u s2 x y H2 I2 rx ry q => ho pins s2 σ H2 x y v u Q I2 rx ry q)
theorem wj9 {op : UnaryOp} {r : V -> Hp -> VK -> Prop} (ho : UnR X (unaryOp op) r) (ha : PE X a ta) : PE X (.UnaryOp op a pos) (tUn r ta) := by
  intro pins s σ H Q I h
  exact UnaryOp_ (thn (ha pins s σ H _ I h) fun v s1 ⟨x, H1, I1, r1, q1⟩ => ho pins s1 σ H1 x v Q I1 r1 q1)
theorem opI {f : Value -> Value -> Sem Value} {C : Int -> Int -> Prop} {g : Int -> Int -> Int}
    (rule : ∀ (i j : Int) (t u : Tok) (s : Shared) (Q : Value -> Shared -> Prop) (E : Value -> Shared -> Prop), C i j -> Q (.int (g i j) s.toks) { s with toks := s.toks + 1 } -> wpAny (model X.prog X.w) X.A (f (.int i t) (.int j u)) Q E s) :
    OpR X f (rI C fun i j => .int (g i j)) := by
  intro pins s σ H x y v u Q I rx ry h
  obtain ⟨i, j, rfl, rfl, hc, q⟩ := h
  obtain ⟨t, rfl⟩ := rx
  obtain ⟨t', rfl⟩ := ry
  exact rule i j t t' s _ _ hc ⟨.int (g i j), H, I.tok _, ⟨_, rfl⟩, q⟩
theorem xt7 {f : Value -> Value -> Sem Value} {g : Int -> Int -> Int}
    (rule : ∀ (i j : Int) (t u : Tok) (s : Shared) (Q : Value -> Shared -> Prop) (E : Value -> Shared -> Prop), Q (.int (g i j) s.toks) { s with toks := s.toks + 1 } -> wpAny (model X.prog X.w) X.A (f (.int i t) (.int j u)) Q E s) :
    OpR X f (rI0 fun i j => .int (g i j)) := by
  intro pins s σ H x y v u Q I rx ry h
  obtain ⟨i, j, rfl, rfl, q⟩ := h
  obtain ⟨t, rfl⟩ := rx
  obtain ⟨t', rfl⟩ := ry
  exact rule i j t t' s _ _ ⟨.int (g i j), H, I.tok _, ⟨_, rfl⟩, q⟩
theorem xj1 {f : Value -> Value -> Sem Value} {g : Int -> Int -> Bool}
    (rule : ∀ (i j : Int) (t u : Tok) (s : Shared) (Q : Value -> Shared -> Prop) (E : Value -> Shared -> Prop), Q (.bool (g i j)) s -> wpAny (model X.prog X.w) X.A (f (.int i t) (.int j u)) Q E s) :
    OpR X f (rI0 fun i j => .bl (g i j)) := by
  intro pins s σ H x y v u Q I rx ry h
  obtain ⟨i, j, rfl, rfl, q⟩ := h
  obtain ⟨t, rfl⟩ := rx
  obtain ⟨t', rfl⟩ := ry
  exact rule i j t t' s _ _ ⟨.bl (g i j), H, I, rfl, q⟩
noncomputable def wn8 (i j : Int) : Prop := 0 < j /\ j < 1073741824
noncomputable def xx6 (i j : Int) : Prop := (-(2 ^ 64) < i /\ i < 2 ^ 64) \/ (-(2 ^ 64) < j /\ j < 2 ^ 64)
theorem xx6.ok {i j : Int} (h : xx6 i j) : IntMulOk i j := by
  rcases h with ⟨h1, h2⟩ | ⟨h1, h2⟩
  . exact .of_left (intBits_le_64 h1 h2)
  . exact .of_right (intBits_le_64 h1 h2)
theorem xj2 (k : Nat) : (0 : Int) <= 2 ^ k := by
  rw [two_pow_cast]
  exact Int.natCast_nonneg _
theorem yd9 : OpR X (binaryOp .Add) (rI0 fun i j => .int (i + j)) := xt7 fun _ _ _ _ _ _ _ q => add_int q
theorem wf3 : OpR X (binaryOp .Sub) (rI0 fun i j => .int (i - j)) := xt7 fun _ _ _ _ _ _ _ q => sub_int q
theorem zu8 : OpR X (binaryOp .Mult) (rI xx6 fun i j => .int (i * j)) := opI fun _ _ _ _ _ _ _ hc q => mul_int q hc.ok
theorem xh0 : OpR X (binaryOp .FloorDiv) (rI wn8 fun i j => .int (i / j)) := opI fun i j _ _ _ _ _ hc q => by
  have h1 : (0 : Int) < j := hc.1
  have h2 : j < 1073741824 := hc.2
  exact floordiv_int (by omega) (by rw [Int.fdiv_eq_ediv_of_nonneg i (by omega)]; exact q) (.inl (PyProof.noPylong_small (by omega)))
theorem yp5 : OpR X (binaryOp .Mod) (rI (fun _ j => 0 < j) fun i j => .int (i % j)) := opI fun i j _ _ _ _ _ hc q => by
  have h1 : (0 : Int) < j := hc
  exact mod_int' (by omega) (by rw [Int.fmod_eq_emod_of_nonneg i (by omega)]; exact q)
theorem wf4 : OpR X (binaryOp .RShift) (rI (fun _ j => 0 <= j) fun i j => .int (i / 2 ^ j.toNat)) := opI fun i j _ _ _ _ _ hc q =>
  rshift_int hc (by rw [Int.fdiv_eq_ediv_of_nonneg i (xj2 _)]; exact q)
theorem xo6 : OpR X (binaryOp .BitAnd) (rI0 fun i j => .int (Builtin.bitAnd i j)) := xt7 fun _ _ _ _ _ _ _ q => and_int q
theorem unI {f : Value -> Sem Value} {g : Int -> Int}
    (rule : ∀ (i : Int) (t : Tok) (s : Shared) (Q : Value -> Shared -> Prop) (E : Value -> Shared -> Prop), Q (.int (g i) s.toks) { s with toks := s.toks + 1 } -> wpAny (model X.prog X.w) X.A (f (.int i t)) Q E s) :
    UnR X f (rU fun i => .int (g i)) := by
  intro pins s σ H x v Q I rx h
  obtain ⟨i, rfl, q⟩ := h
  obtain ⟨t, rfl⟩ := rx
  exact rule i t s _ _ ⟨.int (g i), H, I.tok _, ⟨_, rfl⟩, q⟩
theorem wf5 : UnR X (unaryOp .USub) (rU fun i => .int (-i)) := unI fun _ _ _ _ _ q => neg_int q
end
noncomputable def wn9 : V -> V -> Bool
  | .non, .non => true | .non, .int _ => true | .int _, .non => true | .non, .bl _ => true | .bl _, .non => true | .non, .str _ => true | .str _, .non => true
  | .int _, .int _ => true | .bl _, .bl _ => true | .str _, .str _ => true | .byt _, .byt _ => true
  | .int _, .str _ => true | .str _, .int _ => true | .bl _, .str _ => true | .str _, .bl _ => true
  | _, _ => false
noncomputable def rEq : R2 := fun x y H Q => wn9 x y = true /\ Q (.bl (decide (x = y))) H
theorem wa1 {i j : Int} : decide (V.int i = V.int j) = (i == j) := by
  rw [Bool.eq_iff_iff]
  simp
theorem wf6 {i j : Bool} : decide (V.bl i = V.bl j) = (i == j) := by
  rw [Bool.eq_iff_iff]
  simp
theorem wa2 {i j : Str} : decide (V.str i = V.str j) = (i == j) := by
  rw [Bool.eq_iff_iff]
  simp
theorem wa3 {i j : Array UInt8} : decide (V.byt i = V.byt j) = (i.toList == j.toList) := by
  rw [Bool.eq_iff_iff]
  cases i
  cases j
  simp
section
variable {X : Cx} {a b c : Expr} {ta tb tc : TE} {pos : Pos}
theorem zm5 {pins : List (Addr × Obj)} {σ : St} {H : Hp} {s : Shared} {Q : VK} {k k' : Bool} (I : Inv X pins σ H s) (q : Q (.bl k) H) (e : k = k') : EP X pins σ Q (.bool k') s := by
  subst e
  exact ⟨.bl k, H, I, rfl, q⟩
theorem xj3 : OpR X (compareOp .Eq) rEq := by
  intro pins s σ H x y v u Q I rx ry h
  obtain ⟨hs, q⟩ := h
  cases x with
  | non =>
    cases rx
    cases y with
    | non => cases ry; exact PySem.EqNone.eq_none_none (zm5 I q (by simp))
    | bl j => cases ry; exact PySem.EqNone.eq_none_bool (zm5 I q (by simp))
    | int j => obtain ⟨t', rfl⟩ := ry; exact PySem.EqNone.eq_none_int (zm5 I q (by simp))
    | str j => obtain ⟨t', rfl⟩ := ry; exact PySem.EqNone.eq_none_str (zm5 I q (by simp))
    | _ => exact absurd (show false = true from hs) Bool.false_ne_true
  | bl i =>
    cases rx
    cases y with
    | non => cases ry; exact PySem.EqNone.eq_bool_none (zm5 I q (by simp))
    | bl j => cases ry; exact eq_bool (zm5 I q wf6)
    | str j => obtain ⟨t', rfl⟩ := ry; exact PySem.EqMixed.eq_bool_str (zm5 I q (by simp))
    | _ => exact absurd (show false = true from hs) Bool.false_ne_true
  | int i =>
    obtain ⟨t, rfl⟩ := rx
    cases y with
    | non => cases ry; exact PySem.EqNone.eq_int_none (zm5 I q (by simp))
    | int j => obtain ⟨t', rfl⟩ := ry; exact eq_int (zm5 I q wa1)
    | str j => obtain ⟨t', rfl⟩ := ry; exact PySem.EqMixed.eq_int_str (zm5 I q (by simp))
    | _ => exact absurd (show false = true from hs) Bool.false_ne_true
  | str i =>
    obtain ⟨t, rfl⟩ := rx
    cases y with
    | non => cases ry; exact PySem.EqNone.eq_str_none (zm5 I q (by simp))
    | bl j => cases ry; exact PySem.EqMixed.eq_str_bool (zm5 I q (by simp))
    | int j => obtain ⟨t', rfl⟩ := ry; exact PySem.EqMixed.eq_str_int (zm5 I q (by simp))
    | str j => obtain ⟨t', rfl⟩ := ry; exact eq_str (zm5 I q wa2)
    | _ => exact absurd (show false = true from hs) Bool.false_ne_true
  | byt i =>
    obtain ⟨t, rfl⟩ := rx
    cases y with
    | byt j => obtain ⟨t', rfl⟩ := ry; exact PySem.W.eq_bytes (zm5 I q wa3)
    | _ => exact absurd (show false = true from hs) Bool.false_ne_true
  | _ => cases y <;> exact absurd (show false = true from hs) Bool.false_ne_true
theorem wk0 : OpR X (compareOp .Lt) (rI0 fun i j => .bl (decide (i < j))) := xj1 fun _ _ _ _ _ _ _ q => lt_int q
theorem wk1 : OpR X (compareOp .LtE) (rI0 fun i j => .bl (decide (i <= j))) := xj1 fun _ _ _ _ _ _ _ q => le_int q
theorem wk2 : OpR X (compareOp .Gt) (rI0 fun i j => .bl (decide (j < i))) := xj1 fun _ _ _ _ _ _ _ q => gt_int q
theorem wk3 : OpR X (compareOp .GtE) (rI0 fun i j => .bl (decide (j <= i))) := xj1 fun _ _ _ _ _ _ _ q => ge_int q
theorem wf7 : OpR X (compareOp .Is) (fun x y H Q => y = .non /\ Q (.bl (decide (x = .non))) H) := by
  intro pins s σ H x y v u Q I rx ry h
  obtain ⟨rfl, q⟩ := h
  cases ry
  refine is_none_gen (zm5 I q ?_)
  cases x <;> first
    | (cases rx; rfl)
    | (obtain ⟨t, rfl⟩ := rx; rfl)
theorem OpR.or {f : Value -> Value -> Sem Value} {r r' : R2} (h : OpR X f r) (h' : OpR X f r') : OpR X f (fun x y H Q => r x y H Q \/ r' x y H Q) := by
  intro pins s σ H x y v u Q I rx ry q
  rcases q with q | q
  . exact h pins s σ H x y v u Q I rx ry q
  . exact h' pins s σ H x y v u Q I rx ry q
theorem zf8 (b : Expr) {op : CmpOp} (h : op ≠ .In := by decide) (h2 : op ≠ .NotIn := by decide) : behindInMarks op b = false := by
  have e1 : (op == CmpOp.In) = false := by cases op <;> first | rfl | exact absurd rfl h
  have e2 : (op == CmpOp.NotIn) = false := by cases op <;> first | rfl | exact absurd rfl h2
  cases b <;> simp [behindInMarks, e1, e2]
theorem wa4 {op : CmpOp} {r : R2} (ho : OpR X (compareOp op) r) (ha : PE X a ta) (hb : PE X b tb) (hm : behindInMarks op b = false) : PE X (.Compare a [op] [b] pos) (tOp r ta tb) := by
  intro pins s σ H Q I h
  exact wpAny_Compare1 (xt6 ha hb I h fun v u s2 x y H2 I2 rx ry q => ho pins s2 σ H2 x y v u Q I2 rx ry q) hm
noncomputable def wl2 (t : TE) : TT := fun σ H Q => t σ H fun x H' => ∃ k, x = .bl k /\ Q k H'
theorem xh1 {op : CmpOp} {r : R2} (ho : OpR X (compareOp op) r) (ha : PE X a ta) (hb : PE X b tb) (hm : behindInMarks op b = false) : PT X (.Compare a [op] [b] pos) (wl2 (tOp r ta tb)) := by
  intro pins s σ H Q I h
  refine wpAny_isTrue_Compare1 (thn (ha pins s σ H _ I h) fun v s1 ⟨x, H1, I1, r1, q1⟩ => thn (hb pins s1 σ H1 _ I1 q1) fun u s2 ⟨y, H2, I2, r2, q2⟩ =>
    thn (ho pins s2 σ H2 x y v u _ I2 r1 r2 q2) fun c s3 ⟨z, H3, I3, r3, k, e, q3⟩ => ?_) hm
  subst e
  cases r3
  exact wpAny_truthy_bool ⟨H3, I3, q3⟩
noncomputable def xx7 (K : PySem.W.Frag) (x : V) (H : Hp) (k : Bool) : Prop :=
  match x with
  | .non => k = false
  | .bl b => k = b
  | .int i => k = (i != 0)
  | .str y => y.length <= sizeLine /\ k = ((y.length : Int) != 0)
  | .byt y => y.size <= sizeLine /\ k = ((y.size : Int) != 0)
  | .ref p => (∃ xs, SqL K H p xs /\ k = !xs.isEmpty) \/ (∃ xs, SqT K H p xs /\ k = !xs.isEmpty) \/ ∃ kvs, H p = some (.dK kvs) /\ k = !kvs.isEmpty
  | _ => False
theorem xj4 {κ : Type} {kvs : List (κ × V)} {vs : List (κ × Value)} (r : KV kvs vs) : (!vs.isEmpty) = !kvs.isEmpty := by
  cases r <;> rfl
theorem yp6 {xs : List V} {its : List Value} (r : zc3 xs its) : (!its.toArray.isEmpty) = !xs.isEmpty := by
  cases r <;> simp
theorem ya3 : (sizeLine : Nat) < 2 ^ 63 := by rw [sizeLine_eq]; decide
theorem wf8 : wn7 X (fun x H Q => ∃ k, xx7 X.K x H k /\ Q k H) := by
  intro pins s σ H x v Q I rx h
  obtain ⟨k, e, q⟩ := h
  have hl := ya3
  have hs : sizeLine = 16777216 := sizeLine_eq
  cases x with
  | non =>
    cases rx
    have e' : k = false := e
    subst e'
    exact truthy_none ⟨H, I, q⟩
  | bl b =>
    cases rx
    have e' : k = b := e
    subst e'
    exact wpAny_truthy_bool ⟨H, I, q⟩
  | int i =>
    obtain ⟨t, rfl⟩ := rx
    have e' : k = (i != 0) := e
    subst e'
    exact PySem.P.truthy_int ⟨H, I, q⟩
  | str y =>
    obtain ⟨t, rfl⟩ := rx
    obtain ⟨hy, e'⟩ : y.length <= sizeLine /\ k = ((y.length : Int) != 0) := e
    subst e'
    exact PySem.P.truthy_str (by omega) ⟨H, I.tok _, q⟩
  | byt y =>
    obtain ⟨t, rfl⟩ := rx
    obtain ⟨hy, e'⟩ : y.size <= sizeLine /\ k = ((y.size : Int) != 0) := e
    subst e'
    exact PySem.W.truthy_bytes (by omega) ⟨H, I.tok _, q⟩
  | ref p =>
    cases rx
    have e' : (∃ xs, SqL X.K H p xs /\ k = !xs.isEmpty) \/ (∃ xs, SqT X.K H p xs /\ k = !xs.isEmpty) \/ ∃ kvs, H p = some (.dK kvs) /\ k = !kvs.isEmpty := e
    rcases e' with ⟨xs, hx, e'⟩ | ⟨xs, hx, e'⟩ | ⟨kvs, hx, e'⟩
    . subst e'
      obtain ⟨its, r, pl, hz⟩ := I.list hx
      have hlen := r.length
      exact wpAny_truthy_list pl.isList (by simp only [List.size_toArray]; omega) ⟨H, I.tok _, by rw [yp6 r]; exact q⟩
    . subst e'
      obtain ⟨its, r, pl, hz⟩ := I.tuple hx
      have hlen := r.length
      exact truthy_tuple pl (by simp only [List.size_toArray]; omega) ⟨H, I.tok _, by rw [yp6 r]; exact q⟩
    . subst e'
      obtain ⟨hz, hS, vs, r, m⟩ : kvs.length <= sizeLine /\ (p == sysModules) = false /\ ∃ vs, KV kvs vs /\ s.heap.DictOf (yx5 X.prog X.w) p vs := I.hok p _ hx
      have hlen : kvs.length = vs.length := Paired.length r
      exact wpAny_truthy_dict hS m (by omega) ⟨H, I.tok _, by rw [xj4 r]; exact q⟩
  | _ => exact (show False from e).elim
theorem xt8 (ha : PE X a ta) (he : ∀ whole, isTrue a X.env whole = (do let v <- whole; standAt a.pos; holding [v] (truthy v))) :
    PT X a (fun σ H Q => ta σ H fun x H' => ∃ k, xx7 X.K x H' k /\ Q k H') := by
  intro pins s σ H Q I h
  exact isTrue_plain (thn (ha pins s σ H _ I h) fun v s1 ⟨x, H1, I1, r1, q1⟩ => wf8 pins s1 σ H1 x v Q I1 r1 q1) (he _)
theorem xj5 : OpR X (binaryOp .Add) (fun x y H Q => ∃ i j, x = .str i /\ y = .str j /\ i.length + j.length <= sizeLine /\ Q (.str (i ++ j)) H) := by
  intro pins s σ H x y v u Q I rx ry h
  obtain ⟨i, j, rfl, rfl, hz, q⟩ := h
  obtain ⟨t, rfl⟩ := rx
  obtain ⟨t', rfl⟩ := ry
  exact add_str (fun t' tk => ⟨.str (i ++ j), H, I.tok _, ⟨_, rfl⟩, q⟩) hz
theorem yf3 {x : V} {us : List Value} (r : zc3 [x] us) : ∃ u, us = [u] /\ ze0 x u := by
  cases r with
  | cons r1 r2 => cases r2; exact ⟨_, rfl, r1⟩
theorem xj6 {x y : V} {us : List Value} (r : zc3 [x, y] us) : ∃ u w', us = [u, w'] /\ ze0 x u /\ ze0 y w' := by
  cases r with
  | cons r1 r2 =>
    cases r2 with
    | cons r3 r4 => cases r4; exact ⟨_, _, rfl, r1, r3⟩
theorem xo7 (hc : X.calm = true) : zi0 X (.builtin "max") (fun xs H Q => ∃ i j, xs = [.int i, .int j] /\ Q (.int (if j > i then j else i)) H) := by
  intro pins s σ H xs us Q I r h
  obtain ⟨i, j, rfl, q⟩ := h
  obtain ⟨u, w', rfl, ⟨t, rfl⟩, ⟨t', rfl⟩⟩ := xj6 r
  refine max_two_ints (I.ok.hd hc) fun h' tk k => ⟨_, H, I.kept k, ?_, q⟩
  by_cases hj : j > i
  . rw [if_pos hj, if_pos hj]; exact ⟨_, rfl⟩
  . rw [if_neg hj, if_neg hj]; exact ⟨_, rfl⟩
end
end L2
namespace L2
open PySem PySem.Spec PyProof.Rows
structure ObjM (h : Heap) (x dx C : Addr) (mA : Str -> Option Value) : Prop where
  obj : h.get? x = some (PySem.W.instObj C dx)
  ns : h.Ns1 dx mA
  ne : dx ≠ x
theorem xo8 {h : Heap} {dx : Addr} {mA : Str -> Option Value} (n : h.Ns1 dx mA) : ∃ od, h.get? dx = some od /\ ∀ name, PySem.W.lookIn name od = some (mA name) := by
  obtain ⟨o, es, ep, ho, hd, hk, _, hm⟩ := n
  refine ⟨o, ho, fun name => ?_⟩
  have e := hm name
  unfold nsFind findBy at e
  rw [<- Array.find?_toList] at e
  unfold PySem.W.lookIn
  rw [hd]
  dsimp only
  split
  . rename_i y q
    rw [q] at e
    exact congrArg some e
  . rename_i q
    rw [q] at e
    have a : es.toList.any (·.refKey) = false := by
      rw [List.any_eq_false]
      intro y hy
      obtain ⟨z, t, hkey⟩ := hk y (Array.mem_toList_iff.mp hy)
      simp [DictEntry.refKey, hkey]
    have a' : ¬ es.toList.any (·.refKey) = true := by rw [a]; exact Bool.false_ne_true
    rw [if_neg a']
    exact congrArg some e
theorem ObjM.look {h : Heap} {x dx C : Addr} {mA : Str -> Option Value} (I : ObjM h x dx C mA) : ∃ od, PySem.W.InstAt h x (PySem.W.instObj C dx) C (some od) /\ ∀ name, PySem.W.lookIn name od = some (mA name) :=
  let ⟨od, ho, hl⟩ := xo8 I.ns
  ⟨od, ⟨I.obj, rfl, rfl, ho⟩, hl⟩
section
variable {prog : Program} {w : World} {A : Around} {E : Value -> Shared -> Prop} {s : Shared} {K : PySem.W.Frag} {x dx C f : Addr} {mA : Str -> Option Value} {name : Str} {v : Value}
theorem xh2 {expr : Bool} {Q : Value -> Shared -> Prop} (X : K.In s.heap) (I : ObjM s.heap x dx C mA) (hg : PySem.W.plainGet K C name = true) (hh : PySem.W.hasDictIn K C = true)
    (ha : PySem.W.findIn K (.ref C) name = some none) (hv : mA name = some v) (hv' : PySem.W.handedIn v = true) (h : Q v { s with toks := s.toks + 1 }) :
    wpAny (model prog w) A (getAttr (.ref x) name expr) Q E s := by
  obtain ⟨od, J, hl⟩ := I.look
  exact PySem.W.get_value X J (PySem.W.plainGet_of hg).1 (PySem.W.findObj_own hh ha rfl (by rw [hl, hv])) hv' h
theorem xt9 {pl : Sem Bool} {Q : Value × List Value -> Shared -> Prop} (X : K.In s.heap) (I : ObjM s.heap x dx C mA) (hg : PySem.W.plainGet K C name = true)
    (hf : PySem.W.findIn K (.ref C) name = some (some (.ref f))) (ht : PySem.W.isFn K (.ref f) = true) (hv : mA name = none) (h : Q (.ref f, [.ref x]) s) :
    wpAny (model prog w) A (getMethod (.ref x) name pl) Q E s := by
  obtain ⟨od, J, hl⟩ := I.look
  exact PySem.W.method_fn X J (PySem.W.plainGet_of hg).1 (PySem.W.plainGet_of hg).2 hf (beq_iff_eq.mp ht) (by show (PySem.W.lookIn name od).map (·.isSome) = some false; rw [hl, hv]; rfl) h
theorem wa5 {ns : List Str} {Q : Unit -> Shared -> Prop} (X : K.In s.heap) (I : ObjM s.heap x dx C mA)
    (hs : PySem.W.findIn K (.ref C) "__setattr__" = some (some (.builtin "object.__setattr__"))) (hp : PySem.W.plainOver K C = true) (ht : PySem.W.takerIn K C name = some none) (hh : PySem.W.hasDictIn K C = true)
    (hw : PySem.Within mA ns) (hsz : ns.length <= sizeLine)
    (h : ∀ h', ObjM h' x dx C (fun y => if y = name then some v else mA y) -> Heap.SameBut dx s.heap h' -> Q () { s with heap := h', toks := s.toks + 2 }) :
    wpAny (model prog w) A (setAttr (.ref x) name v) Q E s := by
  obtain ⟨od, J, hl⟩ := I.look
  refine PySem.W.set_plain X J hs (PySem.W.osa_open (s := { s with toks := s.toks + 1 }) (r := none) X J hp ht fun b => ?_)
  obtain ⟨cd, hc, hd'⟩ := PySem.W.any_some hh
  have hx : s.heap.get? x = some ⟨.ref C, some dx, .plain, #[]⟩ := I.obj
  refine wpAny_bind (wpAny_pure (wpAny_bind (wpAny_bind (wpAny_loadPart hx (wpAny_bind (PySem.W.Looks.here (s := { s with toks := s.toks + 1 }) (PySem.W.looks_clsIn X hc) ?_))))))
  rw [hd']
  refine wpAny_pure (a := some dx) (wpAny_bind (wpAny_pure (wpAny_bind ?_)))
  refine wpAny_nsSet1 (s := { s with toks := s.toks + 1 }) I.ns fun h' hn2 hs2 => ?_
  obtain ⟨oD, esD, epD, hoD, hdD, hcD⟩ := hn2.count (PySem.Within.cons name v hw)
  refine wpAny_bind (wpAny_lookBehind hoD (by rw [hdD]; exact pastItsLine_dict (Nat.le_trans hcD (by rw [List.length_cons]; omega))) ?_)
  exact wpAny_pure (h _ ⟨(hs2.2 _ (Ne.symm I.ne)).trans I.obj, hn2, I.ne⟩ hs2)
theorem xu0 {R : Result -> Shared -> Prop} {vs : List Value} {kw : List (Str × Value)} (X : K.In s.heap) (hm : PySem.W.makesIn K C = true)
    (hi : PySem.W.findIn K (.ref C) "__init__" = some (some (.ref f))) (hf : PySem.W.typeIn K (.ref f) = some (.type "function"))
    (h : codeAny (model prog w) (A.under (.builtin "type.__call__" ⟨.ref C :: vs, kw⟩)) (.call (.ref f) ⟨.ref (s.heap.objs.size + 1) :: vs, kw⟩) (PySem.W.InitBack (s.heap.objs.size + 1) R)
      { s with heap := (s.heap.push PySem.W.emptyDict).push (PySem.W.instObj C s.heap.objs.size) }) :
    codeAny (model prog w) A (.call (.ref C) ⟨vs, kw⟩) R s := by
  obtain ⟨hh, g, d, t, os⟩ := s
  exact PySem.W.make_core (PySem.W.makes_of X hm) (PySem.W.looks_findIn X hi) (fun self => PySem.W.bind_fn X self hf) (.inl rfl) h
end
noncomputable def zl5 (f : Str) (v : V) : List (Str × V) -> List (Str × V)
  | [] => [(f, v)]
  | (g, x) :: r => if g = f then (g, v) :: r else (g, x) :: zl5 f v r
theorem yn0 (f g : Str) (v : V) : ∀ fs : List (Str × V), (zl5 f v fs).lookup g = if g = f then some v else fs.lookup g
  | [] => by
    show List.lookup g [(f, v)] = _
    by_cases h : g = f
    . have hb : (g == f) = true := beq_iff_eq.mpr h
      simp only [List.lookup, hb, if_pos h]
    . have hb : (g == f) = false := beq_eq_false_iff_ne.mpr h
      simp only [List.lookup, hb, if_neg h]
  | (k, x) :: r => by
    have ih := yn0 f g v r
    rw [show zl5 f v ((k, x) :: r) = (if k = f then (k, v) :: r else (k, x) :: zl5 f v r) from rfl]
    by_cases hk : k = f
    . rw [if_pos hk]
      by_cases h : g = k
      . have hb : (g == k) = true := beq_iff_eq.mpr h
        simp only [List.lookup, hb, if_pos (h.trans hk)]
      . have hb : (g == k) = false := beq_eq_false_iff_ne.mpr h
        simp only [List.lookup, hb, if_neg (fun e : g = f => h (e.trans hk.symm))]
    . rw [if_neg hk]
      by_cases h : g = k
      . have hb : (g == k) = true := beq_iff_eq.mpr h
        simp only [List.lookup, hb, if_neg (fun e : g = f => hk (h.symm.trans e))]
      . have hb : (g == k) = false := beq_eq_false_iff_ne.mpr h
        simp only [List.lookup, hb]
        exact ih
theorem yi1 (f : Str) (v : V) : ∀ fs : List (Str × V), f ∈ (zl5 f v fs).map (·.1) /\ ∀ g, g ∈ fs.map (·.1) -> g ∈ (zl5 f v fs).map (·.1)
  | [] => ⟨by simp [zl5], fun g h => by simp at h⟩
  | (k, x) :: r => by
    obtain ⟨i1, i2⟩ := yi1 f v r
    rw [show zl5 f v ((k, x) :: r) = (if k = f then (k, v) :: r else (k, x) :: zl5 f v r) from rfl]
    by_cases hk : k = f
    . rw [if_pos hk]
      subst hk
      exact ⟨by simp, fun g h => by simpa using h⟩
    . rw [if_neg hk]
      refine ⟨?_, fun g h => ?_⟩
      . rw [List.map_cons]
        exact List.mem_cons_of_mem _ i1
      . rw [List.map_cons] at h |-
        rcases List.mem_cons.mp h with e | e
        . exact List.mem_cons.mpr (.inl e)
        . exact List.mem_cons_of_mem _ (i2 g e)
theorem yn1 (f : Str) (v : V) : ∀ fs : List (Str × V), (zl5 f v fs).length <= fs.length + 1
  | [] => by simp [zl5]
  | (k, x) :: r => by
    have ih := yn1 f v r
    rw [show zl5 f v ((k, x) :: r) = (if k = f then (k, v) :: r else (k, x) :: zl5 f v r) from rfl]
    by_cases hk : k = f
    . rw [if_pos hk, List.length_cons, List.length_cons]; omega
    . rw [if_neg hk, List.length_cons, List.length_cons]; omega
theorem zq9.some_of {v : V} {o : Option Value} (r : zq9 (some v) o) : ∃ u, o = some u /\ ze0 v u := by
  cases o with
  | none => exact (show False from r).elim
  | some u => exact ⟨u, rfl, r⟩
theorem zq9.none_of {o : Option Value} (r : zq9 none o) : o = none := by
  cases o with
  | none => rfl
  | some u => exact (show False from r).elim
theorem yx6 {v : V} {u : Value} (r : ze0 v u) : PySem.W.handedIn u = true := by
  cases v with
  | non => cases (show u = Value.none from r); rfl
  | bl b => cases (show u = Value.bool b from r); rfl
  | int i => obtain ⟨t, e⟩ := (show ∃ t, u = Value.int i t from r); cases e; rfl
  | str x => obtain ⟨t, e⟩ := (show ∃ t, u = Value.str x t from r); cases e; rfl
  | byt b => obtain ⟨t, e⟩ := (show ∃ t, u = Value.bytes b t from r); cases e; rfl
  | flt b => obtain ⟨t, e⟩ := (show ∃ t, u = Value.float b t from r); cases e; rfl
  | ref a => cases (show u = Value.ref a from r); rfl
  | ty n => cases (show u = Value.type n from r); rfl
section
variable {P : Program} {w : World} {H H' : Hp} {h h' : Heap} {a C dx : Addr} {fs fs' : List (Str × V)}
theorem yk7 (hok : HOk P w H h) (e : H a = some (.ins C dx fs)) : ∃ mA, ObjM h a dx C mA /\ (∀ f, zq9 (fs.lookup f) (mA f)) /\ PySem.Within mA (fs.map (·.1)) /\ fs.length <= 1000 /\ H dx = some (.own a) := by
  obtain ⟨d, z, ne, ob, mA, n, r, q⟩ := (show zi8 P w H h a (.ins C dx fs) from hok a _ e)
  exact ⟨mA, ⟨ob, n, ne⟩, r, q, z, d⟩
end
structure Cls (K : PySem.W.Frag) (C : Addr) : Prop where
  pg : PySem.W.plainGet K C Str.empty = true
  hd : PySem.W.hasDictIn K C = true
  po : PySem.W.plainOver K C = true
  sa : PySem.W.findIn K (.ref C) "__setattr__" = some (some (.builtin "object.__setattr__"))
theorem Cls.get {K : PySem.W.Frag} {C : Addr} (c : Cls K C) (f : Str) : PySem.W.plainGet K C f = true := c.pg
noncomputable def ze6 (K : PySem.W.Frag) (C : Addr) (f : Str) : Prop := PySem.W.findIn K (.ref C) f = some none
theorem ze6.taker {K : PySem.W.Frag} {C : Addr} {f : Str} (n : ze6 K C f) : PySem.W.takerIn K C f = some none := by
  unfold PySem.W.takerIn
  rw [show PySem.W.findIn K (.ref C) f = some none from n]
  rfl
structure Con (K : PySem.W.Frag) (C : Addr) (f : Str) (v : V) (u : Value) : Prop where
  at_ : PySem.W.findIn K (.ref C) f = some (some u)
  rel : ze0 v u
  get : PySem.W.specialIn K u "__get__" = some none
  cp : PySem.W.copiedNames.contains f = false
structure Meth (K : PySem.W.Frag) (C : Addr) (m : Str) (f : Addr) : Prop where
  at_ : PySem.W.findIn K (.ref C) m = some (some (.ref f))
  fn : PySem.W.isFn K (.ref f) = true
  kp : PySem.W.keepIn K (.ref f) = true
section
variable {X : Cx} {pins : List (Addr × Obj)} {σ : St} {H : Hp} {s : Shared} {a C dx : Addr} {fs : List (Str × V)} {f : Str} {v : V} {A : Around} {E : Value -> Shared -> Prop}
theorem xj7 {b : Bool} {Q : Value -> Shared -> Prop} (I : Inv X pins σ H s) (e : H a = some (.ins C dx fs)) (c : Cls X.K C) (n : ze6 X.K C f) (l : fs.lookup f = some v)
    (h : ∀ u s', Inv X pins σ H s' -> ze0 v u -> Q u s') : wpAny (model X.prog X.w) A (getAttr (.ref a) f b) Q E s := by
  obtain ⟨mA, O, r, _, _, _⟩ := yk7 I.hok e
  obtain ⟨u, hu, ru⟩ := zq9.some_of (v := v) (o := mA f) (by rw [<- l]; exact r f)
  exact xh2 I.kIn O (c.get f) c.hd n hu (yx6 ru) (h u _ (I.tok _) ru)
theorem yp7 {m : Str} {g : Addr} {pl : Sem Bool} {Q : Value × List Value -> Shared -> Prop} (I : Inv X pins σ H s) (e : H a = some (.ins C dx fs)) (c : Cls X.K C) (k : Meth X.K C m g) (l : fs.lookup m = none)
    (h : Q (.ref g, [.ref a]) s) : wpAny (model X.prog X.w) A (getMethod (.ref a) m pl) Q E s := by
  obtain ⟨mA, O, r, _, _, _⟩ := yk7 I.hok e
  have hn : mA m = none := zq9.none_of (by rw [<- l]; exact r m)
  exact xt9 I.kIn O (c.get m) k.at_ k.fn hn h
theorem xj8 {y : V} {u : Value} {Q : Unit -> Shared -> Prop} (I : Inv X pins σ H s) (e : H a = some (.ins C dx fs)) (c : Cls X.K C) (n : ze6 X.K C f) (hl : fs.length < 1000) (ry : ze0 y u)
    (h : ∀ s', Inv X pins σ (upd H a (.ins C dx (zl5 f y fs))) s' -> Q () s') : wpAny (model X.prog X.w) A (setAttr (.ref a) f u) Q E s := by
  obtain ⟨mA, O, r, wi, _, ho⟩ := yk7 I.hok e
  have hz : (fs.map (·.1)).length <= sizeLine := by rw [List.length_map, sizeLine_eq]; omega
  refine wa5 I.kIn O c.sa c.po n.taker c.hd wi hz fun h' O' sb => h _ ?_
  have hd : ∃ o, h'.get? dx = some o := let ⟨o, _, _, e', _⟩ := O'.ns; ⟨o, e'⟩
  refine I.write (x := a) (e := dx) (by rw [e]; exact True.intro) (.inr ho) (fun b q hb z => (sb.2 b hb).trans z) hd ?_
  refine ⟨by rw [zc6 O.ne]; exact ho, ?_, O.ne, O'.obj, _, O'.ns, fun g => ?_, fun g hg => ?_⟩
  . have := yn1 f y fs; omega
  . show zq9 ((zl5 f y fs).lookup g) (if g = f then some u else mA g)
    rw [yn0]
    by_cases q : g = f
    . rw [if_pos q, if_pos q]; exact ry
    . rw [if_neg q, if_neg q]; exact r g
  . by_cases q : g = f
    . rw [q]; exact (yi1 f y fs).1
    . refine (yi1 f y fs).2 g (wi g fun z => hg ?_)
      show (if g = f then some u else mA g) = none
      rw [if_neg q]; exact z
theorem Inv.made (I : Inv X pins σ H s) : Inv X pins σ (upd (upd H s.heap.objs.size (.own (s.heap.objs.size + 1))) (s.heap.objs.size + 1) (.ins C s.heap.objs.size []))
    { s with heap := (s.heap.push PySem.W.emptyDict).push (PySem.W.instObj C s.heap.objs.size) } := by
  have e1 : (s.heap.push PySem.W.emptyDict).get? s.heap.objs.size = some PySem.W.emptyDict := Heap.get?_push_size s.heap rfl
  have e2 : ((s.heap.push PySem.W.emptyDict).push (PySem.W.instObj C s.heap.objs.size)).get? (s.heap.objs.size + 1) = some (PySem.W.instObj C s.heap.objs.size) := by
    have := Heap.get?_push_size (s.heap.push PySem.W.emptyDict) (o := PySem.W.instObj C s.heap.objs.size) rfl
    rwa [Heap.size_push] at this
  have e3 : (s.heap.push PySem.W.emptyDict).Ns s.heap.objs.size (fun _ => none) := ⟨PySem.W.emptyDict, #[], _, e1, rfl, (fun e he => absurd he (by simp)), fun _ => rfl⟩
  have I1 := I.laid (a := s.heap.objs.size) (o := .own (s.heap.objs.size + 1)) (h' := s.heap.push PySem.W.emptyDict) (t' := s.toks) (fun b u q => Heap.get?_push_of_some _ q) (Nat.le_refl _) ⟨_, e1⟩
  refine I1.laid (a := s.heap.objs.size + 1) (o := .ins C s.heap.objs.size []) (t' := s.toks) (fun b u q => Heap.get?_push_of_some _ q) (Nat.le_of_eq (Heap.size_push _ _)) ?_
  have ne : s.heap.objs.size ≠ s.heap.objs.size + 1 := Nat.ne_of_lt (Nat.lt_succ_self _)
  refine ⟨by rw [zc6 ne, zf3], Nat.zero_le _, ne, e2, fun _ => none, (Heap.Ns1.of_empty e3).at fun o q => Heap.get?_push_of_some _ q, fun _ => True.intro, fun y hy => absurd rfl hy⟩
theorem xh3 {prog : Program} {w : World} {env : Env} {e : Expr} {f : Str} {pos : Pos} {s : Shared} {Q : Value -> Shared -> Prop} (hb : attributeBase e f env (eval e env) = eval e env)
    (h : wpAny (model prog w) A (eval e env) (fun o s₁ => wpAny (model prog w) A (getAttr o f true) Q E s₁) E s) : wpAny (model prog w) A (eval (.Attribute e f pos) env) Q E s :=
  Attribute_any_ h (by rw [arm_eval_Attribute, hb])
end
noncomputable def wo0 (K : PySem.W.Frag) (ta : TE) (f : Str) : TE := fun σ H Q => ta σ H fun x H1 => ∃ a C dx fs v, x = .ref a /\ H1 a = some (.ins C dx fs) /\ Cls K C /\ ze6 K C f /\ fs.lookup f = some v /\ Q v H1
noncomputable def wo1 (K : PySem.W.Frag) (ta tv : TE) (f : Str) : TS := fun D σ H => tv σ H fun y H1 => ta σ H1 fun x H2 => ∃ a C dx fs, x = .ref a /\ H2 a = some (.ins C dx fs) /\ Cls K C /\ ze6 K C f /\ fs.length < 1000 /\
  D.nx σ (upd H2 a (.ins C dx (zl5 f y fs)))
section
variable {X : Cx} {o e value : Expr} {f : Str} {pos pos' tpos : Pos} {ta tv : TE}
theorem wf9 (he : PE X e ta) (hb : attributeBase e f X.env (eval e X.env) = eval e X.env) : PE X (.Attribute e f pos) (wo0 X.K ta f) := by
  intro pins s σ H Q I h
  refine xh3 hb (thn (he pins s σ H _ I h) fun u s1 ⟨x, H1, I1, rx, a, C, dx, fs, v, ex, ea, c, n, l, q⟩ => ?_)
  subst ex
  obtain rfl : u = Value.ref a := rx
  exact xj7 I1 ea c n l fun u' s2 I2 ru => ⟨v, H1, I2, ru, q⟩
theorem wg0 (ha : PE X o ta) (hv : PE X value tv) (hs : swapsWith value (some (.Attribute o f pos')) pos.line X.env = pure false) : PS X (.Assign [.Attribute o f pos'] value pos) (wo1 X.K ta tv f) := by
  intro pins s σ H D I h
  refine plainObj_wpAny_Assign_Attribute (thn (hv pins s σ H _ I h) fun u s1 ⟨y, H1, I1, ry, q⟩ => thn (ha pins s1 σ H1 _ I1 q) fun ov s2 ⟨x, H2, I2, rx, a, C, dx, fs, ex, ea, c, n, l, q2⟩ => ?_) hs
  subst ex
  obtain rfl : ov = Value.ref a := rx
  exact xj8 I2 ea c n l ry fun s3 I3 => ⟨σ, _, I3, q2⟩
end
section
variable {X : Cx} {pins : List (Addr × Obj)} {σ : St} {H : Hp} {s : Shared} {A : Around} {E : Value -> Shared -> Prop} {Q : Value -> Shared -> Prop} {c : Value} {b : Bool}
inductive TyOf (K : PySem.W.Frag) (H : Hp) : V -> Value -> Prop where
  | non : TyOf K H .non (.type "NoneType")
  | bl (x : Bool) : TyOf K H (.bl x) (.type "bool")
  | int (i : Int) : TyOf K H (.int i) (.type "int")
  | str (x : Str) : TyOf K H (.str x) (.type "str")
  | flt (x : UInt64) : TyOf K H (.flt x) (.type "float")
  | lst {a : Addr} {xs : List V} (e : H a = some (.lst xs)) : TyOf K H (.ref a) (.type "list")
  | frz {a : Addr} {o : Obj} {xs : List V} (e : H a = some (.frz o (.lst xs))) : TyOf K H (.ref a) (.type "list")
  | tup {a : Addr} {xs : List V} (e : H a = some (.tup xs)) : TyOf K H (.ref a) (.type "tuple")
  | dK {a : Addr} {kvs : List (Key × V)} (e : H a = some (.dK kvs)) : TyOf K H (.ref a) (.type "dict")
  | dT {a : Addr} {kvs : List (List Key × V)} (e : H a = some (.dT kvs)) : TyOf K H (.ref a) (.type "dict")
  | ins {a C dx : Addr} {fs : List (Str × V)} (e : H a = some (.ins C dx fs)) (cl : Cls K C) (ha : PySem.W.findIn K (.ref C) "__class__" = some (some (.builtin "object.__class__")))
      (hn : PySem.W.specialIn K (.builtin "object.__class__") "__get__" = some (some (.builtin "getset_descriptor.__get__"))) (htk : PySem.W.takesIn K (.builtin "object.__class__") = some true)
      (hm : PySem.W.mroIn K C (.type "object") = some true) : TyOf K H (.ref a) (.ref C)
theorem xo9 {x : V} {u t : Value} (I : Inv X pins σ H s) (rx : ze0 x u) (ty : TyOf X.K H x t) (e : PySem.W.kitOne X.K t c = some b) (h : ∀ tk, Q (.bool b) { s with toks := tk }) :
    wpAny (model X.prog X.w) A (call (.builtin "isinstance") [u, c]) Q E s := by
  cases ty with
  | non => cases (show u = Value.none from rx); exact PySem.W.kia_one PySem.W.kitx_none I.kIn True.intro e (fun z => nomatch z) h
  | bl y => cases (show u = Value.bool y from rx); exact PySem.W.kia_one PySem.W.kitx_bool I.kIn True.intro e (fun z => nomatch z) h
  | int i => obtain ⟨t, q⟩ := (show ∃ t, u = Value.int i t from rx); cases q; exact PySem.W.kia_one PySem.W.kitx_int I.kIn True.intro e (fun z => nomatch z) h
  | str y => obtain ⟨t, q⟩ := (show ∃ t, u = Value.str y t from rx); cases q; exact PySem.W.kia_one PySem.W.kitx_str I.kIn True.intro e (fun z => nomatch z) h
  | flt y => obtain ⟨t, q⟩ := (show ∃ t, u = Value.float y t from rx); cases q; exact PySem.W.kia_one PySem.W.kitx_float I.kIn True.intro e (fun z => nomatch z) h
  | @lst a xs ea =>
    cases (show u = Value.ref a from rx)
    obtain ⟨_, _, n, _, h1⟩ := (show zi8 X.prog X.w H s.heap a (.lst xs) from I.hok a _ ea)
    exact PySem.W.kia_one PySem.W.kitx_list I.kIn ⟨_, h1, rfl⟩ e (fun z => nomatch z) h
  | @frz a ob xs ea =>
    cases (show u = Value.ref a from rx)
    obtain ⟨_, _, _, n, _, h1⟩ := (show zi8 X.prog X.w H s.heap a (.frz ob (.lst xs)) from I.hok a _ ea)
    exact PySem.W.kia_one PySem.W.kitx_list I.kIn ⟨_, h1, rfl⟩ e (fun z => nomatch z) h
  | @tup a xs ea =>
    cases (show u = Value.ref a from rx)
    obtain ⟨_, _, _, p⟩ := (show zi8 X.prog X.w H s.heap a (.tup xs) from I.hok a _ ea)
    obtain ⟨o, h1, h2, _⟩ := p
    exact PySem.W.kia_one PySem.W.kitx_tuple I.kIn ⟨o, h1, h2⟩ e (fun z => nomatch z) h
  | @dK a kvs ea =>
    cases (show u = Value.ref a from rx)
    obtain ⟨_, _, vs, _, p⟩ := (show zi8 X.prog X.w H s.heap a (.dK kvs) from I.hok a _ ea)
    obtain ⟨o, es, ep, h1, h2, _⟩ := p
    exact PySem.W.kia_one PySem.W.kitx_dict I.kIn ⟨o, h1, h2.1⟩ e (fun z => nomatch z) h
  | @dT a kvs ea =>
    cases (show u = Value.ref a from rx)
    obtain ⟨_, _, xs, _, o, es, ep, h1, h2, _⟩ := (show zi8 X.prog X.w H s.heap a (.dT kvs) from I.hok a _ ea)
    exact PySem.W.kia_one PySem.W.kitx_dict I.kIn ⟨o, h1, h2.1⟩ e (fun z => nomatch z) h
  | @ins a C dx fs ea cl ha hn htk hm =>
    cases (show u = Value.ref a from rx)
    obtain ⟨mA, O, _⟩ := yk7 I.hok ea
    obtain ⟨od, J, _⟩ := O.look
    exact PySem.W.kia_one (PySem.W.kitx_own (cl.get _) cl.hd ha hn htk hm) I.kIn J e (fun z => nomatch z) h
end
end L2
namespace L2
open PySem PySem.Spec PyProof.Rows
structure Room (k : Nat) (A : Around) : Prop where
  hd : A.handled = none
  dp : A.depth + 3 * k + 5 < recursionLimit
  un : A.units + 16 * k + 200 < cLine
theorem Room.mono {j k : Nat} {A : Around} (r : Room k A) (h : j <= k) : Room j A := ⟨r.hd, by have := r.dp; omega, by have := r.un; omega⟩
theorem Room.deeper {k : Nat} {A : Around} (r : Room (k + 1) A) (env : Env) : Room k (A.deeper env) :=
  ⟨r.hd, by have := r.dp; show A.depth + 1 + 3 * k + 5 < _; omega, by have := r.un; show A.units + 3 + 16 * k + 200 < _; omega⟩
theorem xj9 {A : Around} {C : Addr} {us : List Value} {kw : List (Str × Value)} : (A.under (.builtin "type.__call__" ⟨.ref C :: us, kw⟩)).depth = A.depth + 1 := by
  first | rfl | simp [Around.under, Code.weight, Code.isCreation, Code.isGuard, Code.isCaller, Code.frames, Code.isFrame, guardIds]
theorem xk0 {A : Around} {C : Addr} {us : List Value} {kw : List (Str × Value)} : (A.under (.builtin "type.__call__" ⟨.ref C :: us, kw⟩)).units = A.units + 1 := by
  first | rfl | simp [Around.under, Code.cUnits, Code.frames, Code.isFrame]
theorem Room.make {k : Nat} {A : Around} (r : Room (k + 1) A) (C : Addr) (us : List Value) (kw : List (Str × Value)) : Room k (A.under (.builtin "type.__call__" ⟨.ref C :: us, kw⟩)) :=
  ⟨r.hd, by have := r.dp; rw [xj9]; omega, by have := r.un; rw [xk0]; omega⟩
theorem Room.depth {k : Nat} {A : Around} (r : Room k A) : A.depth < recursionLimit := by have := r.dp; omega
theorem Room.units {k : Nat} {A : Around} (r : Room k A) : A.units + 64 < cLine := by have := r.un; omega
theorem Room.units0 {k : Nat} {A : Around} (r : Room k A) : A.units < cLine := by have := r.un; omega
noncomputable def xn3 : TA := fun _ H Q => Q [] H
noncomputable def wl3 (ta : TE) (tr : TA) : TA := fun σ H Q => ta σ H fun x H1 => tr σ H1 fun xs H2 => Q (x :: xs) H2
section
variable {X : Cx} {e : Expr} {es : List Expr} {te : TE} {t : TA} {pos : Pos}
theorem zr8 : PA X [] xn3 := fun _ _ _ _ H Q I h => Calls.spliced_nil ⟨[], H, I, .nil, h⟩
theorem zk4 (ha : PE X e te) (hr : PA X es t) (hs : starEach (e :: es) X.env = (false, eval e X.env) :: starEach es X.env := by rfl) : PA X (e :: es) (wl3 te t) := by
  intro pos pins s σ H Q I h
  rw [hs]
  show wpAny _ _ (spliced ((false, eval e X.env) :: backTo pos (starEach es X.env))) _ _ s
  refine Calls.spliced_cons (thn (ha pins s σ H _ I h) fun u s1 ⟨x, H1, I1, r1, q1⟩ => ?_)
  exact thn (hr pos pins s1 σ H1 _ I1 q1) fun us s2 ⟨xs, H2, I2, r2, q2⟩ => ⟨x :: xs, H2, I2, .cons r1 r2, q2⟩
noncomputable def wo2 (t : TA) : TE := fun σ H Q => t σ H fun xs H1 => xs.length <= sizeLine /\ ∀ p, H1 p = none -> Q (.ref p) (upd H1 p (.tup xs))
noncomputable def wo3 (t : TA) : TE := fun σ H Q => t σ H fun xs H1 => xs.length <= sizeLine /\ ∀ p, H1 p = none -> Q (.ref p) (upd H1 p (.lst xs))
theorem xb5 {x1} (h : PA X es t) : PE X (.Tuple es x1 pos) (wo2 t) := by
  intro pins s σ H Q I hq
  refine wpAny_Tuple_spliced (thn (h pos pins s σ H _ I hq) fun us s1 ⟨xs, H1, I1, r, z, q⟩ => ⟨by rw [<- r.length]; exact z, ?_⟩)
  have hf : H1 s1.heap.objs.size = none := I1.hok.fresh (Nat.le_refl _)
  refine ⟨.ref s1.heap.objs.size, upd H1 s1.heap.objs.size (.tup xs), I1.laid (t' := s1.toks) (fun b u e => Heap.get?_push_of_some _ e) (Nat.le_refl _) ?_, rfl, q _ hf⟩
  exact ⟨z, us, r, ⟨_, Heap.get?_push_size _ rfl, rfl, _, rfl⟩⟩
theorem wg1 (h : PA X es t) : PE X (.List es pos) (wo3 t) := by
  intro pins s σ H Q I hq
  refine wpAny_List_spliced (thn (h pos pins s σ H _ I hq) fun us s1 ⟨xs, H1, I1, r, z, q⟩ => ⟨by rw [<- r.length]; exact z, ?_⟩)
  have hf : H1 s1.heap.objs.size = none := I1.hok.fresh (Nat.le_refl _)
  refine ⟨.ref s1.heap.objs.size, upd H1 s1.heap.objs.size (.lst xs), I1.laid (t' := s1.toks) (fun b u e => Heap.get?_push_of_some _ e) (Nat.le_refl _) ?_, rfl, q _ hf⟩
  exact ⟨z, us, 0, r, Heap.get?_push_size _ rfl⟩
end
noncomputable abbrev Sp := List V -> Hp -> VK -> XK -> Prop
noncomputable abbrev CXT := List Env -> Hp -> Shared -> XK -> Value -> Shared -> Prop
structure Env0 (P : Program) (w : World) (K : PySem.W.Frag) (mg : Str -> Option Value) (base : Heap) (A : Around) (outer : List Env) (s : Shared) (H : Hp) : Prop where
  frames : A.frames = some outer
  mod : Mod K mg base
  bs : ∀ b o, base.get? b = some o -> s.heap.get? b = some o /\ H b = none
  bsz : base.objs.size <= s.heap.objs.size
  funs : s.heap.FunFrames base outer
  frf : ∀ b ∈ frs outer, H b = none
  hok : HOk P w H s.heap
  bare : AllBare s.gens
noncomputable def CE (outer : List Env) (P : Program) (w : World) (H : Hp) (s : Shared) (Q : VK) (u : Value) (s' : Shared) : Prop :=
  ∃ v H', s'.os = s.os /\ AllBare s'.gens /\ Un (frs outer) [] H H' s.heap s'.heap /\ HOk P w H' s'.heap /\ ze0 v u /\ Q v H'
noncomputable def CR (CX : CXT) (outer : List Env) (P : Program) (w : World) (H : Hp) (s : Shared) (Q : VK) (E : XK) (r : Result) (s' : Shared) : Prop :=
  match r with
  | .ok (.ret u) => CE outer P w H s Q u s'
  | .ok _ => False
  | .error e => CX outer H s E e s'
structure FnOk (P : Program) (w : World) (K : PySem.W.Frag) (mg : Str -> Option Value) (base : Heap) (CX : CXT) (k : Nat) (f : Addr) (fd : FuncData) (ps : List Str) (sp : Sp) : Prop where
  len : ∀ vs H Q E, sp vs H Q E -> vs.length = ps.length
  run : ∀ (A : Around) (outer : List Env) (s : Shared) (H : Hp) (args : Args) (us : List Value) (vs : List V) (Q : VK) (E : XK), Room k A -> Env0 P w K mg base A outer s H -> BindsTo s fd args (ps.zip us) -> zc3 vs us -> sp vs H Q E ->
    codeAny (model P w) A (.call (.ref f) args) (CR CX outer P w H s Q E) s
theorem FnOk.mono {P : Program} {w : World} {K : PySem.W.Frag} {mg : Str -> Option Value} {base : Heap} {CX : CXT} {j k : Nat} {f : Addr} {fd : FuncData} {ps : List Str} {sp : Sp} (F : FnOk P w K mg base CX j f fd ps sp) (h : j <= k) :
    FnOk P w K mg base CX k f fd ps sp := ⟨F.len, fun A outer s H args us vs Q E hr => F.run A outer s H args us vs Q E (hr.mono h)⟩
theorem FnOk.imp {P : Program} {w : World} {K : PySem.W.Frag} {mg : Str -> Option Value} {base : Heap} {CX : CXT} {k : Nat} {f : Addr} {fd : FuncData} {ps : List Str} {sp sp' : Sp} (F : FnOk P w K mg base CX k f fd ps sp)
    (h : ∀ vs H Q E, sp' vs H Q E -> sp vs H Q E) : FnOk P w K mg base CX k f fd ps sp' :=
  ⟨fun vs H Q E q => F.len vs H Q E (h _ _ _ _ q), fun A outer s H args us vs Q E hr he hb hv hs => F.run A outer s H args us vs Q E hr he hb hv (h _ _ _ _ hs)⟩
theorem Env0.make {P : Program} {w : World} {K : PySem.W.Frag} {mg : Str -> Option Value} {base : Heap} {A : Around} {outer : List Env} {s : Shared} {H : Hp} (e : Env0 P w K mg base A outer s H) (C : Addr) (us : List Value) (kw : List (Str × Value)) :
    Env0 P w K mg base (A.under (.builtin "type.__call__" ⟨.ref C :: us, kw⟩)) outer s H := ⟨by first | exact e.frames | (simpa [Around.under, Code.envs, Code.isFrame, pushEnvs] using e.frames), e.mod, e.bs, e.bsz, e.funs, e.frf, e.hok, e.bare⟩
section
variable {X : Cx} {pins : List (Addr × Obj)} {σ : St} {H : Hp} {s s' : Shared}
theorem Inv.env0 (I : Inv X pins σ H s) : Env0 X.prog X.w X.K X.mg X.base X.A X.stack s H :=
  ⟨I.ok.frames, I.ok.mod, I.bs, Nat.le_trans I.ok.bsz I.sz, I.stack, I.stkFree, I.hok, I.bare⟩
theorem Inv.after {Q : VK} {u : Value} (I : Inv X pins σ H s) (h : CE X.stack X.prog X.w H s Q u s') : EP X pins σ Q u s' := by
  obtain ⟨v, H', os, bare, un, hok, r, q⟩ := h
  obtain ⟨hh, g, d, t, os'⟩ := s'
  obtain rfl : os' = s.os := os
  exact ⟨v, H', I.call (h' := hh) (g' := g) (d' := d) (t' := t) (ch := []) un hok bare (fun b z => absurd z (by simp)), r, q⟩
end
noncomputable def xa9 (sp : Sp) (dvs : List V) (E : XK) (t : TA) : TE := fun σ H Q => t σ H fun vs H1 => sp (vs ++ dvs) H1 Q E
noncomputable def xy9 (C : Addr) (m : Str) (sp : Sp) (dvs : List V) (E : XK) (ta : TE) (t : TA) : TE := fun σ H Q => ta σ H fun x H1 => ∃ a dx fs, x = .ref a /\ H1 a = some (.ins C dx fs) /\ fs.lookup m = none /\
  t σ H1 fun vs H2 => sp (x :: (vs ++ dvs)) H2 Q E
noncomputable def wl4 (C : Addr) (sp : Sp) (dvs : List V) (E : XK) (t : TA) : TE := fun σ H Q => t σ H fun vs H1 => ∀ x dx, H1 x = none -> H1 dx = none -> dx ≠ x ->
  sp (.ref x :: (vs ++ dvs)) (upd (upd H1 dx (.own x)) x (.ins C dx [])) (fun v H2 => v = .non /\ Q (.ref x) H2) E
noncomputable def zs9 (K : PySem.W.Frag) (fd : FuncData) (ps : List Str) (ds : List Value) : Prop :=
  ∀ (s : Shared) (us : List Value), K.In s.heap -> (us ++ ds).length = ps.length -> BindsTo s fd ⟨us, []⟩ (ps.zip (us ++ ds))
theorem zs9.all {K : PySem.W.Frag} {fd : FuncData} {ps : List Str} (h : ∀ us : List Value, us.length = ps.length -> bindArgs fd ⟨us, []⟩ = pure (ps.zip us)) : zs9 K fd ps [] := fun s us _ hl => by
  rw [List.append_nil] at hl |-
  exact .of_eq (h us hl)
noncomputable def zy0 (CX : CXT) (X : Cx) (E : XK) : Prop := ∀ (pins : List (Addr × Obj)) (σ : St) (H : Hp) (s : Shared) (e : Value) (s' : Shared), Inv X pins σ H s -> CX X.stack H s E e s' -> X.xe e s'
section
variable {X : Cx} {CX : CXT} {k : Nat} {f C : Addr} {fd : FuncData} {ps : List Str} {sp : Sp} {dvs : List V} {ds : List Value} {E : XK} {x m : Str} {p pos apos : Pos} {e o : Expr} {es : List Expr} {ta : TE} {t : TA}
theorem yp8 {pins : List (Addr × Obj)} {σ : St} {H : Hp} {s : Shared} {Q : VK} {us : List Value} {vs : List V} (F : FnOk X.prog X.w X.K X.mg X.base CX k f fd ps sp) (hr : Room k X.A) (hb : zs9 X.K fd ps ds) (hd : zc3 dvs ds) (hx : zy0 CX X E)
    (I : Inv X pins σ H s) (r : zc3 vs us) (h : sp (vs ++ dvs) H Q E) : wpAny (model X.prog X.w) X.A (call (.ref f) us) (EP X pins σ Q) X.xe s := by
  have r2 : zc3 (vs ++ dvs) (us ++ ds) := r.append hd
  have hl : (us ++ ds).length = ps.length := by rw [<- r2.length]; exact F.len _ _ _ _ h
  refine wpAny_call (codeAny_mono (F.run X.A X.stack s H ⟨us, []⟩ (us ++ ds) (vs ++ dvs) Q E hr I.env0 (hb s us I.kIn hl) r2 h) fun r s' hq => ?_)
  cases r with
  | error e => exact hx pins σ H s e s' I hq
  | ok fl =>
    cases fl with
    | ret u => exact I.after hq
    | next => exact False.elim hq
    | brk => exact False.elim hq
    | cont => exact False.elim hq
theorem wa6 (F : FnOk X.prog X.w X.K X.mg X.base CX k f fd ps sp) (hr : Room k X.A) (hg : Gl X x) (hm : X.mg x = some (.ref f)) (hk : PySem.W.keepIn X.K (.ref f) = true) (hb : zs9 X.K fd ps ds) (hd : zc3 dvs ds) (hx : zy0 CX X E)
    (ha : PA X (e :: es) t) (hdb : (x == ("__debug__" : Str)) = false := by decide) (he : starEach (e :: es) X.env = (false, eval e X.env) :: starEach es X.env := by rfl) (hpl : (backTo pos (starEach es X.env)).any (·.1) = false := by rfl) :
    PE X (.Call (.Name x p) (e :: es) [] pos) (xa9 sp dvs E t) := by
  intro pins s σ H Q I h
  refine wpAny_Call_Name_kw (yk5 I hg hm ?_ hdb)
  refine PySem.W.callWith_K (h₀ := X.base) I.ok.mod.kin hk (thn (ha pos pins s σ H _ I h) fun us s1 ⟨vs, H1, I1, r, q⟩ => ⟨I1.kIn, ?_⟩) he hpl
  exact yp8 F hr hb hd hx I1 r q
theorem xu1 (F : FnOk X.prog X.w X.K X.mg X.base CX k f fd ps sp) (hr : Room k X.A) (hg : Gl X x) (hm : X.mg x = some (.ref f)) (hk : PySem.W.keepIn X.K (.ref f) = true) (hb : zs9 X.K fd ps ds) (hd : zc3 dvs ds) (hx : zy0 CX X E)
    (hdb : (x == ("__debug__" : Str)) = false := by decide) : PE X (.Call (.Name x p) [] [] pos) (xa9 sp dvs E xn3) := by
  intro pins s σ H Q I h
  refine wpAny_Call_Name_kw (yk5 I hg hm ?_ hdb)
  exact PySem.W.callWith_K0 I.kIn hk (yp8 (us := []) F hr hb hd hx I .nil h)
theorem wa7 {pl : Sem Bool} (he : PE X o ta) (c : Cls X.K C) (hm : Meth X.K C m f) (F : FnOk X.prog X.w X.K X.mg X.base CX k f fd ps sp) (hr : Room k X.A) (hb : zs9 X.K fd ps ds) (hd : zc3 dvs ds) (hx : zy0 CX X E) (ha : PA X (e :: es) t)
    (hst : starEach (e :: es) X.env = (false, eval e X.env) :: starEach es X.env := by rfl) (hpl : (backTo pos (starEach es X.env)).any (·.1) = false := by rfl)
    (ht : eval (.Call (.Attribute o m apos) (e :: es) [] pos) X.env = (do
      let ov <- eval o X.env
      standAt apos.atName
      let (f, first) <- holding [ov] (getMethod ov m pl)
      callWith pos f first (backTo pos (starEach (e :: es) X.env)) (backToKw pos (keywordEach [] X.env))) := by rfl) :
    PE X (.Call (.Attribute o m apos) (e :: es) [] pos) (xy9 C m sp dvs E ta t) := by
  intro pins s σ H Q I h
  refine PySem.W.methodCall_KW (pl := pl) (thn (he pins s σ H _ I h) fun u s1 ⟨x, H1, I1, rx, a, dx, fs, ex, ea, l, q⟩ => ?_) ht
  subst ex
  obtain rfl : u = Value.ref a := rx
  refine yp7 I1 ea c hm l ?_
  refine PySem.W.callWith_K (first := [.ref a]) (h₀ := X.base) I.ok.mod.kin hm.kp (thn (ha pos pins s1 σ H1 _ I1 q) fun us s2 ⟨vs, H2, I2, r, q2⟩ => ⟨I2.kIn, ?_⟩) hst hpl
  exact yp8 (us := .ref a :: us) (vs := .ref a :: vs) F hr hb hd hx I2 (.cons rfl r) q2
theorem xu2 {pl : Sem Bool} (he : PE X o ta) (c : Cls X.K C) (hm : Meth X.K C m f) (F : FnOk X.prog X.w X.K X.mg X.base CX k f fd ps sp) (hr : Room k X.A) (hb : zs9 X.K fd ps ds) (hd : zc3 dvs ds) (hx : zy0 CX X E)
    (ht : eval (.Call (.Attribute o m apos) [] [] pos) X.env = (do
      let ov <- eval o X.env
      standAt apos.atName
      let (f, first) <- holding [ov] (getMethod ov m pl)
      callWith pos f first (backTo pos (starEach [] X.env)) (backToKw pos (keywordEach [] X.env))) := by rfl) :
    PE X (.Call (.Attribute o m apos) [] [] pos) (xy9 C m sp dvs E ta xn3) := by
  intro pins s σ H Q I h
  refine PySem.W.methodCall_KW (pl := pl) (thn (he pins s σ H _ I h) fun u s1 ⟨x, H1, I1, rx, a, dx, fs, ex, ea, l, q⟩ => ?_) ht
  subst ex
  obtain rfl : u = Value.ref a := rx
  refine yp7 I1 ea c hm l ?_
  exact PySem.W.callWith_K0 (first := [.ref a]) I1.kIn hm.kp (yp8 (us := [.ref a]) (vs := [.ref a]) F hr hb hd hx I1 (.cons rfl .nil) q)
structure Mk (K : PySem.W.Frag) (C f : Addr) : Prop where
  makes : PySem.W.makesIn K C = true
  init : PySem.W.findIn K (.ref C) "__init__" = some (some (.ref f))
  fn : PySem.W.isFn K (.ref f) = true
  kp : PySem.W.keepIn K (.ref C) = true
theorem xu3 {pins : List (Addr × Obj)} {σ : St} {H : Hp} {s : Shared} {Q : VK} {us : List Value} {vs : List V} (M : Mk X.K C f) (F : FnOk X.prog X.w X.K X.mg X.base CX k f fd ps sp) (hr : Room (k + 1) X.A) (hb : zs9 X.K fd ps ds) (hd : zc3 dvs ds)
    (hx : zy0 CX X E) (I : Inv X pins σ H s) (r : zc3 vs us)
    (h : ∀ x dx, H x = none -> H dx = none -> dx ≠ x -> sp (.ref x :: (vs ++ dvs)) (upd (upd H dx (.own x)) x (.ins C dx [])) (fun v H2 => v = .non /\ Q (.ref x) H2) E) :
    wpAny (model X.prog X.w) X.A (call (.ref C) us) (EP X pins σ Q) X.xe s := by
  have hq := h (s.heap.objs.size + 1) s.heap.objs.size (I.hok.fresh (Nat.le_succ _)) (I.hok.fresh (Nat.le_refl _)) (Nat.ne_of_lt (Nat.lt_succ_self _))
  have I2 := Inv.made (C := C) I
  have r2 : zc3 (V.ref (s.heap.objs.size + 1) :: (vs ++ dvs)) (Value.ref (s.heap.objs.size + 1) :: (us ++ ds)) := .cons rfl (r.append hd)
  have hl : (Value.ref (s.heap.objs.size + 1) :: us ++ ds).length = ps.length := by
    have e := r2.length
    rw [F.len _ _ _ _ hq] at e
    exact e.symm
  refine wpAny_call (xu0 (f := f) I.kIn M.makes M.init (beq_iff_eq.mp M.fn) (codeAny_mono (F.run _ X.stack _ _ ⟨Value.ref (s.heap.objs.size + 1) :: us, []⟩ (Value.ref (s.heap.objs.size + 1) :: (us ++ ds)) _ _ E (hr.make C us [])
    (I2.env0.make C us []) (hb _ (Value.ref (s.heap.objs.size + 1) :: us) I2.kIn hl) r2 hq) fun r s' hq' => ?_))
  cases r with
  | error e => exact hx pins σ _ _ e s' I2 hq'
  | ok fl =>
    cases fl with
    | ret u =>
      obtain ⟨v, H', I3, rv, ev, q3⟩ := I2.after hq'
      subst ev
      exact ⟨rv, ⟨V.ref (s.heap.objs.size + 1), H', I3, rfl, q3⟩⟩
    | next => exact False.elim hq'
    | brk => exact False.elim hq'
    | cont => exact False.elim hq'
theorem wa8 (M : Mk X.K C f) (F : FnOk X.prog X.w X.K X.mg X.base CX k f fd ps sp) (hr : Room (k + 1) X.A) (hg : Gl X x) (hm : X.mg x = some (.ref C)) (hb : zs9 X.K fd ps ds) (hd : zc3 dvs ds) (hx : zy0 CX X E)
    (ha : PA X (e :: es) t) (hdb : (x == ("__debug__" : Str)) = false := by decide) (he : starEach (e :: es) X.env = (false, eval e X.env) :: starEach es X.env := by rfl) (hpl : (backTo pos (starEach es X.env)).any (·.1) = false := by rfl) :
    PE X (.Call (.Name x p) (e :: es) [] pos) (wl4 C sp dvs E t) := by
  intro pins s σ H Q I h
  refine wpAny_Call_Name_kw (yk5 I hg hm ?_ hdb)
  refine PySem.W.callWith_K (h₀ := X.base) I.ok.mod.kin M.kp (thn (ha pos pins s σ H _ I h) fun us s1 ⟨vs, H1, I1, r, q⟩ => ⟨I1.kIn, ?_⟩) he hpl
  exact xu3 M F hr hb hd hx I1 r q
end
section
variable {X : Cx} {CX : CXT} {k : Nat} {f C : Addr} {fd : FuncData} {ps ks : List Str} {sp : Sp} {E : XK} {x m : Str} {p pos apos kpos : Pos} {e o : Expr} {es : List Expr} {kws : List Keyword} {te ta : TE} {t tk : TA} {nm : Option Str}
structure KBinds (K : PySem.W.Frag) (fd : FuncData) (ps ks : List Str) (g : List Value -> List Value -> List Value) (gV : List V -> List V -> List V) : Prop where
  to : ∀ (s : Shared) (us ws : List Value), K.In s.heap -> (g us ws).length = ps.length -> BindsTo s fd ⟨us, ks.zip ws⟩ (ps.zip (g us ws))
  rel : ∀ {vs : List V} {us : List Value} {zs : List V} {ws : List Value}, zc3 vs us -> zc3 zs ws -> zc3 (gV vs zs) (g us ws)
variable {g : List Value -> List Value -> List Value} {gV : List V -> List V -> List V}
end
structure FnScope (N P : List Str) (sc : Scope) : Prop where
  kind : sc.kind = .function
  co : sc.isCoroutine = false
  gen : sc.isGenerator = false
  nd : N.Nodup
  pre : N.take P.length = P
  par : ∀ x ∈ P, sc.names.lookup x = some .local \/ sc.names.lookup x = some .cell
  nofree : ∀ y ∈ sc.names, y.2 ≠ .free
theorem yx7 {kindOf : Str -> Option NameKind} {x : Str} : ∀ {binds : List (Str × Value)} {m : Str -> Option Value}, (∀ v, (x, v) ∉ binds) -> bindL kindOf binds m x = m x
  | [], _, _ => rfl
  | (n, v) :: r, m, h => by
    unfold bindL
    rw [yx7 fun w hw => h w (List.mem_cons_of_mem _ hw)]
    split
    . have : x ≠ n := by rintro rfl; exact h v List.mem_cons_self
      simp [this]
    . rfl
theorem yx8 {kindOf : Str -> Option NameKind} {x : Str} : ∀ {binds : List (Str × Value)} {m : Str -> Option Value}, (∀ v, (x, v) ∉ binds) -> bindC kindOf binds m x = m x
  | [], _, _ => rfl
  | (n, v) :: r, m, h => by
    unfold bindC
    rw [yx8 fun w hw => h w (List.mem_cons_of_mem _ hw)]
    split
    . rfl
    . have : x ≠ n := by rintro rfl; exact h v List.mem_cons_self
      simp [this]
theorem yx9 {kindOf : Str -> Option NameKind} {x : Str} {v : Value} : ∀ {P : List Str} {vs : List Value} {i : Nat} {m : Str -> Option Value}, P.Nodup -> P[i]? = some x -> vs[i]? = some v -> kindOf x = some .local ->
    bindL kindOf (P.zip vs) m x = some v
  | [], _, _, _, _, h, _, _ => by simp at h
  | _ :: _, [], _, _, _, _, h, _ => by simp at h
  | p :: P, w :: vs, 0, m, nd, h1, h2, hk => by
    simp at h1 h2; subst h1; subst h2
    show bindL kindOf ((p, w) :: P.zip vs) m p = _
    unfold bindL
    rw [yx7 fun v hv => (List.nodup_cons.mp nd).1 (List.of_mem_zip hv).1, if_pos hk]
    simp
  | p :: P, w :: vs, i + 1, m, nd, h1, h2, hk => by
    show bindL kindOf ((p, w) :: P.zip vs) m x = _
    unfold bindL
    exact yx9 (i := i) (List.nodup_cons.mp nd).2 (by simpa using h1) (by simpa using h2) hk
theorem yy0 {kindOf : Str -> Option NameKind} {x : Str} {v : Value} : ∀ {P : List Str} {vs : List Value} {i : Nat} {m : Str -> Option Value}, P.Nodup -> P[i]? = some x -> vs[i]? = some v -> kindOf x ≠ some .local ->
    bindC kindOf (P.zip vs) m x = some v
  | [], _, _, _, _, h, _, _ => by simp at h
  | _ :: _, [], _, _, _, _, h, _ => by simp at h
  | p :: P, w :: vs, 0, m, nd, h1, h2, hk => by
    simp at h1 h2; subst h1; subst h2
    show bindC kindOf ((p, w) :: P.zip vs) m p = _
    unfold bindC
    rw [yx8 fun v hv => (List.nodup_cons.mp nd).1 (List.of_mem_zip hv).1, if_neg hk]
    simp
  | p :: P, w :: vs, i + 1, m, nd, h1, h2, hk => by
    show bindC kindOf ((p, w) :: P.zip vs) m x = _
    unfold bindC
    exact yy0 (i := i) (List.nodup_cons.mp nd).2 (by simpa using h1) (by simpa using h2) hk
noncomputable def start (N : List Str) (vs : List V) : St := vs.map some ++ List.replicate (N.length - vs.length) none
noncomputable def yd4 (CX : CXT) (P : Program) (w : World) (K : PySem.W.Frag) (mg : Str -> Option Value) (base : Heap) (N : List Str) (qual : Str) (scope : Scope) (f : Addr) (cd : Value) (A : Around) (outer : List Env) (s : Shared) (H : Hp) (E : XK) : Cx where
  prog := P
  w := w
  K := K
  mg := mg
  base := base
  A := A.deeper (envOfC qual scope s.heap.objs.size f cd)
  N := N
  s₀ := s
  H₀ := H
  env := envOfC qual scope s.heap.objs.size f cd
  outer := outer
  stack := envOfC qual scope s.heap.objs.size f cd :: outer
  ex := []
  calm := true
  fn := fun _ => true
  pn := []
  xe := fun e s' => wpAny (model P w) (A.deeper (envOfC qual scope s.heap.objs.size f cd)) (leaving (envOfC qual scope s.heap.objs.size f cd) e) (fun _ s'' => CX outer H s E e s'') (fun e' s'' => CX outer H s E e' s'') s'
theorem xb6 {sc : Scope} {n : Nat} {x : Str} (h : sc.names.lookup x = some .cell) : ∃ c, (cellsFrom n sc.names []).lookup x = some c := by
  have q := PySem.W.cellsFrom_some sc.names n [] (.inl h)
  exact Option.isSome_iff_exists.mp q
theorem xp0 {CX : CXT} {P : Program} {w : World} {K : PySem.W.Frag} {mg : Str -> Option Value} {base : Heap} {N ps : List Str} {qual : Str} {scope : Scope} {f : Addr} {cd : Value} {A : Around} {outer : List Env} {s s1 : Shared} {H : Hp} {E : XK} {us : List Value} {vs : List V}
    (S : FnScope N ps scope) (hd : A.handled = none) (e0 : Env0 P w K mg base A outer s H) (hl : vs.length = ps.length) (r : zc3 vs us)
    (x : InCallC s s.heap.objs.size (bindL (envOfC qual scope s.heap.objs.size f cd).kindOf (ps.zip us) fun _ => none) (cellsFrom (s.heap.objs.size + 1) scope.names []) (bindC (envOfC qual scope s.heap.objs.size f cd).kindOf (ps.zip us) fun _ => none) s1) :
    Inv (yd4 CX P w K mg base N qual scope f cd A outer s H E) [] (start N vs) H s1 := by
  have hpl : ps.length <= N.length := by have := congrArg List.length S.pre; rw [List.length_take] at this; omega
  obtain ⟨h1, tk, rfl, hk⟩ := x.done
  have noA : ∀ b : Addr, b ∉ (yd4 CX P w K mg base N qual scope f cd A outer s H E).ex := fun b z => absurd (show b ∈ ([] : List Addr) from z) (by simp)
  refine ⟨⟨e0.mod, S.kind, rfl, rfl, Nat.le_refl _, fun y z c h1 h2 => ?_, fun y hy => ?_, fun y c _ h => ?_, fun _ => hd, Around.frames_deeper e0.frames, .inr ⟨rfl, rfl⟩, fun b z => absurd z (noA b), e0.bs, e0.bsz, fun b _ _ => noA b, fun b z => absurd z (noA b), e0.funs, e0.frf⟩,
    rfl, e0.bare, Un.kept hk, ⟨_, x.toInCall.ns, fun i y v h1 h2 h3 => ?_⟩, fun y c h => ⟨_, x.cell y c h⟩, e0.hok.fresh (Nat.le_refl _), fun y c h => ?_, fun p hp => absurd (show p ∈ ([] : List (Addr × Obj)) from hp) (by simp), e0.hok.kept hk, ?_⟩
  . exact name_of_addr x.apart (PySem.mem_of_lookup h1) (PySem.mem_of_lookup h2)
  . have hy : scope.names.lookup y = some .cell \/ scope.names.lookup y = some .free := hy
    rcases hy with hy | hy
    . exact xb6 hy
    . exact absurd rfl (S.nofree _ (PySem.mem_of_lookup hy))
  . exact Nat.le_of_lt (x.above y c (PySem.mem_of_lookup h))
  . have hi : i < vs.length := by
      unfold start at h2
      by_cases hi : i < vs.length
      . exact hi
      . rw [List.getElem?_append_right (by simpa using hi)] at h2
        rw [List.getElem?_replicate] at h2
        split at h2 <;> cases h2
    have ha : vs[i]? = some v := by
      unfold start at h2
      rw [List.getElem?_append_left (by simpa using hi), List.getElem?_map] at h2
      cases e : vs[i]? with
      | none => rw [e] at h2; cases h2
      | some a => rw [e] at h2; cases h2; rfl
    obtain ⟨u, hu, rv⟩ := r.get ha
    have hp : ps[i]? = some y := by
      rw [<- S.pre, List.getElem?_take_of_lt (by omega)]; exact h1
    have ndP : ps.Nodup := by rw [<- S.pre]; exact S.nd.sublist (List.take_sublist _ _)
    refine ⟨u, rv, ?_⟩
    rcases S.par y (List.mem_of_getElem? hp) with k | k
    . exact .inl ⟨k, yx9 ndP hp hu k⟩
    . obtain ⟨c, e⟩ := xb6 (n := s.heap.objs.size + 1) k
      refine .inr ⟨.inl k, c, e, ?_⟩
      have q := x.cell y c e
      rw [yy0 ndP hp hu (by show scope.names.lookup y ≠ _; rw [k]; decide)] at q
      exact q
  . exact e0.hok.fresh (Nat.le_of_lt (x.above y c (PySem.mem_of_lookup h)))
  . unfold start
    show _ = N.length
    rw [List.length_append, List.length_map, List.length_replicate]
    omega
theorem wk4 {CX : CXT} {P : Program} {w : World} {K : PySem.W.Frag} {mg : Str -> Option Value} {base : Heap} {k : Nat} {f : Addr} {name qual : Str} {params : Arguments} {body : List Stmt} {scope : Scope} {dV kV doc pm cdv ct oc : Value} {an od : Option Addr}
    {osl : Array (Option Value)} {N ps : List Str} {sp : Sp} (lk : K.lookup f = some ⟨oc, od, .func (PySem.W.fnOf name qual params body scope dV kV doc pm an cdv ct), osl⟩) (hcd : PySem.W.codeIn K cdv qual = true) (S : FnScope N ps scope)
    (len : ∀ vs H Q E, sp vs H Q E -> vs.length = ps.length)
    (hbody : ∀ (A : Around) (outer : List Env) (s : Shared) (H : Hp) (vs : List V) (Q : VK) (E : XK), Room k (A.deeper (envOfC qual scope s.heap.objs.size f cdv)) -> sp vs H Q E ->
      ∃ t, PSs (yd4 CX P w K mg base N qual scope f cdv A outer s H E) body t /\ t { nx := fun _ H' => Q .non H', rt := Q } (start N vs) H) :
    FnOk P w K mg base CX (k + 1) f (PySem.W.fnOf name qual params body scope dV kV doc pm an cdv ct) ps sp := by
  refine ⟨len, fun A outer s H args us vs Q E hr e0 hb r hsp => ?_⟩
  have hl := len _ _ _ _ hsp
  have KX : K.In s.heap := e0.mod.kin.keeps fun b o e => (e0.bs b o e).1
  have lim : s.heap.NoLimit := e0.mod.nolimit.keeps fun b o e => (e0.bs b o e).1
  have hkind : ∀ y ∈ ps.zip us, scope.names.lookup y.1 = some .local \/ (scope.names.lookup y.1 = some .cell /\ ((cellsFrom (s.heap.objs.size + 1) scope.names []).lookup y.1).isSome = true) := fun ⟨n, v⟩ hy => by
    rcases S.par n (List.of_mem_zip hy).1 with q | q
    . exact .inl q
    . exact .inr ⟨q, PySem.W.cellsFrom_some _ _ _ (.inl q)⟩
  refine codeAny_call_function hr.depth (KX _ _ lk) rfl S.co S.gen rfl (PySem.W.codeRec_of KX hcd) (hb _ _ _ _ ?_)
  refine wpAny_newFunctionEnv_cells S.kind hkind fun env he s1 x => ?_
  subst he
  refine ⟨lim.keeps x.toInCall.keep, codeAny_func ?_⟩
  obtain ⟨t, ht, hq⟩ := hbody A outer s H vs Q E (hr.deeper _) hsp
  have I : Inv (yd4 CX P w K mg base N qual scope f cdv A outer s H E) [] (start N vs) H s1 := xp0 S hr.hd e0 hl r x
  refine wpAny_mono (ht [] s1 (start N vs) H _ I hq) (fun fl s' hs => ?_) fun e s' hs => hs
  have fin : ∀ {σ' : St} {H' : Hp} {v : V} {u : Value}, Inv (yd4 CX P w K mg base N qual scope f cdv A outer s H E) [] σ' H' s' -> ze0 v u -> Q v H' -> CE outer P w H s Q u s' :=
    fun {σ' H' v u} J rv q => ⟨v, H', J.os, J.bare, J.base, J.hok, rv, q⟩
  cases fl with
  | ret u =>
    obtain ⟨v, σ', H', J, rv, q⟩ := hs
    exact fin J rv q
  | next =>
    obtain ⟨σ', H', J, q⟩ := hs
    exact fin (v := V.non) (u := Value.none) J rfl q
  | brk =>
    obtain ⟨_, _, _, q⟩ := hs
    exact False.elim q
  | cont =>
    obtain ⟨_, _, _, q⟩ := hs
    exact False.elim q
end L2
namespace L2
open PySem PySem.Spec PyProof.Rows
section
variable {X : Cx} {x : Str} {p pos : Pos} {e : Expr} {es : List Expr} {t : TA} {id T : String} {r : List V -> Hp -> VK -> Prop}
noncomputable def tCB (r : List V -> Hp -> VK -> Prop) (t : TA) : TE := fun σ H Q => t σ H fun vs H1 => r vs H1 Q
theorem ya4 (hc : zi0 X (.builtin id) r) (hg : Gl X x) (hm : X.mg x = none) (hv : bootBuiltins x = some (.builtin id)) (ha : PA X (e :: es) t) (hn : x ≠ "__name__" := by decide) (hdb : (x == ("__debug__" : Str)) = false := by decide)
    (he : starEach (e :: es) X.env = (false, eval e X.env) :: starEach es X.env := by rfl) (hpl : (backTo pos (starEach es X.env)).any (·.1) = false := by rfl) : PE X (.Call (.Name x p) (e :: es) [] pos) (tCB r t) := by
  intro pins s σ H Q I h
  refine wpAny_Call_Name_kw (yp4 I hg hm hv ?_ hn hdb)
  exact PyProof.Rows.callWith_builtin1 (thn (ha pos pins s σ H _ I h) fun us s1 ⟨vs, H1, I1, r1, q1⟩ => hc pins s1 σ H1 vs us Q I1 r1 q1) he hpl
theorem yy1 (hc : zi0 X (.type T) r) (hg : Gl X x) (hm : X.mg x = none) (hv : bootBuiltins x = some (.type T)) (ha : PA X (e :: es) t) (hn : x ≠ "__name__" := by decide) (hdb : (x == ("__debug__" : Str)) = false := by decide)
    (he : starEach (e :: es) X.env = (false, eval e X.env) :: starEach es X.env := by rfl) (hpl : (backTo pos (starEach es X.env)).any (·.1) = false := by rfl) : PE X (.Call (.Name x p) (e :: es) [] pos) (tCB r t) := by
  intro pins s σ H Q I h
  refine wpAny_Call_Name_kw (yp4 I hg hm hv ?_ hn hdb)
  exact PyProof.Rows.callWith_type1 (thn (ha pos pins s σ H _ I h) fun us s1 ⟨vs, H1, I1, r1, q1⟩ => hc pins s1 σ H1 vs us Q I1 r1 q1) he hpl
end
end L2
namespace HT
open PySem PyProof.Rows
section
open PySem.SeqAt
open PySem.AutoSeq1 (wpAny_loadPart')
open PySem.MeetsSeq PySem.MeetsSeq2 PySem.MeetsSeq3
end
end HT
namespace L2
open PySem PySem.Spec PyProof.Rows
noncomputable abbrev TO := St -> Hp -> (Option Int -> Hp -> Prop) -> Prop
noncomputable def PO (X : Cx) (e : Option Expr) (t : TO) : Prop :=
  ∀ (pins : List (Addr × Obj)) (s : Shared) (σ : St) (H : Hp) (Q : Option Int -> Hp -> Prop), Inv X pins σ H s -> t σ H Q ->
    wpAny (model X.prog X.w) X.A (evalPart e X.env) (fun u s' => ∃ o H', Inv X pins σ H' s' /\ IsPart u o /\ Q o H') X.xe s
noncomputable def wd7 : TO := fun _ H Q => Q none H
noncomputable def wl5 (t : TE) : TO := fun σ H Q => t σ H fun x H1 => ∃ i, x = .int i /\ Q (some i) H1
section
variable {X : Cx} {e : Expr} {te : TE} {lo hi : Option Expr} {tl th : TO} {pos p2 : Pos}
theorem wa9 : PO X none wd7 := by
  intro pins s σ H Q I h
  rw [evalPart_none]
  exact wpAny_pure ⟨none, H, I, .none, h⟩
theorem wb0 (h : PE X e te) : PO X (some e) (wl5 te) := by
  intro pins s σ H Q I hw
  rw [evalPart_some]
  refine thn (h pins s σ H _ I hw) fun u s1 ⟨x, H1, I1, r1, q1⟩ => ?_
  obtain ⟨i, rfl, q⟩ := q1
  obtain ⟨t, rfl⟩ := r1
  exact ⟨some i, H1, I1, .int i t, q⟩
noncomputable def SlR (X : Cx) (r : V -> Option Int -> Option Int -> Hp -> VK -> Prop) : Prop :=
  ∀ (pins : List (Addr × Obj)) (s : Shared) (σ : St) (H : Hp) (x : V) (v vl vu : Value) (lo hi : Option Int) (sl : Addr) (Q : VK), Inv X pins σ H s -> ze0 x v -> s.heap.IsSliceOf sl vl vu .none -> IsPart vl lo -> IsPart vu hi -> r x lo hi H Q ->
    ∃ T id, typeLookup (.type T) "__getitem__" = pure (some (.builtin id)) /\ s.TypeIs v T /\ wpAny (model X.prog X.w) X.A (getItem v (.ref sl)) (EP X pins σ Q) X.xe s
theorem SlR.or {r r' : V -> Option Int -> Option Int -> Hp -> VK -> Prop} (h : SlR X r) (h' : SlR X r') : SlR X (fun x lo hi H Q => r x lo hi H Q \/ r' x lo hi H Q) := by
  intro pins s σ H x v vl vu lo hi sl Q I rx hs pl pu q
  rcases q with q | q
  . exact h pins s σ H x v vl vu lo hi sl Q I rx hs pl pu q
  . exact h' pins s σ H x v vl vu lo hi sl Q I rx hs pl pu q
noncomputable def tSl (r : V -> Option Int -> Option Int -> Hp -> VK -> Prop) (te : TE) (tl th : TO) : TE := fun σ H Q => te σ H fun x H1 => tl σ H1 fun l H2 => th σ H2 fun u H3 => r x l u H3 Q
theorem xu4 {r : V -> Option Int -> Option Int -> Hp -> VK -> Prop} (hr : SlR X r) (he : PE X e te) (hl : PO X lo tl) (hu : PO X hi th) : PE X (.Subscript e (.Slice lo hi none p2) pos) (tSl r te tl th) := by
  intro pins s σ H Q I h
  refine Subscript_ (thn (he pins s σ H _ I h) fun v s1 ⟨x, H1, I1, r1, q1⟩ => ?_)
  refine wpAny_Slice (thn (hl pins s1 σ H1 _ I1 q1) fun vl s2 ⟨l, H2, I2, pl, q2⟩ => thn (hu pins s2 σ H2 _ I2 q2) fun vu s3 ⟨u, H3, I3, pu, q3⟩ => ?_)
  rw [evalPart_none]
  refine wpAny_pure ?_
  have I4 : Inv X pins σ H3 { s3 with heap := s3.heap.push { cls := .type "slice", data := .fields #[vl, vu, .none] } } := I3.kept (t' := s3.toks) fun b ob q => Heap.get?_push_of_some _ q
  obtain ⟨T, id, hT, ht, hg⟩ := hr pins { s3 with heap := s3.heap.push { cls := .type "slice", data := .fields #[vl, vu, .none] } } σ H3 x v vl vu l u s3.heap.objs.size Q I4 r1 (Heap.IsSliceOf.new ..) pl pu q3
  show wpAny (model X.prog X.w) X.A (subscriptTail e (.Slice lo hi none p2) v (.ref s3.heap.objs.size)) (EP X pins σ Q) X.xe { s3 with heap := s3.heap.push { cls := .type "slice", data := .fields #[vl, vu, .none] } }
  exact tail_any (ops := [.ref s3.heap.objs.size, v]) ht hT hg (by with_unfolding_all rfl)
end
end L2
namespace L2
open PySem PySem.Spec PyProof.Rows
noncomputable def ixN (n : Nat) (i : Int) : Option Nat := if 0 <= i then (if i < n then some i.toNat else none) else if -(n : Int) <= i then some (i + n).toNat else none
noncomputable def atI {α : Type} (xs : List α) (i : Int) : Option α := (ixN xs.length i).bind fun j => xs[j]?
theorem yk8 {n : Nat} {i : Int} {j : Nat} (h : ixN n i = some j) : seqIndex? i n = some j /\ j < n /\ -(n : Int) <= i /\ i < n := by
  unfold ixN at h
  by_cases h0 : 0 <= i
  . rw [if_pos h0] at h
    by_cases h1 : i < n
    . rw [if_pos h1] at h
      have e : i.toNat = j := Option.some.inj h
      exact ⟨by rw [seqIndex_of h0 h1, e], by omega, by omega, h1⟩
    . rw [if_neg h1] at h; cases h
  . rw [if_neg h0] at h
    by_cases h1 : -(n : Int) <= i
    . rw [if_pos h1] at h
      have e : (i + n).toNat = j := Option.some.inj h
      exact ⟨by rw [seqIndex_neg (by omega) h1, e], by omega, h1, by omega⟩
    . rw [if_neg h1] at h; cases h
theorem ya0 {α : Type} {xs : List α} {i : Int} {v : α} (h : atI xs i = some v) : ∃ j, seqIndex? i xs.length = some j /\ xs[j]? = some v /\ j < xs.length /\ -(xs.length : Int) <= i /\ i < xs.length := by
  unfold atI at h
  cases e : ixN xs.length i with
  | none => rw [e] at h; cases h
  | some j =>
    rw [e] at h
    obtain ⟨h1, h2, h3, h4⟩ := yk8 e
    exact ⟨j, h1, h, h2, h3, h4⟩
theorem yu3 {α : Type} {xs : List α} {j : Nat} {v : α} (h : xs[j]? = some v) : atI xs (j : Int) = some v := by
  have hj : j < xs.length := (List.getElem?_eq_some_iff.mp h).1
  have e : ixN xs.length (j : Int) = some j := by
    unfold ixN
    rw [if_pos (by omega), if_pos (by omega)]; simp
  unfold atI; rw [e]; exact h
noncomputable def zw8 (b : Expr) : Prop := ∀ o i, subscripted b false o i = operate [o, i] (getItem o i)
noncomputable def IxR (X : Cx) (r : R2) : Prop :=
  ∀ (value slice : Expr) (pins : List (Addr × Obj)) (s : Shared) (σ : St) (H : Hp) (x y : V) (v u : Value) (Q : VK), Inv X pins σ H s -> ze0 x v -> ze0 y u -> r x y H Q ->
    subscripted slice false v u = operate [v, u] (getItem v u) -> wpAny (model X.prog X.w) X.A (subscriptTail value slice v u) (EP X pins σ Q) X.xe s
noncomputable def MtR (X : Cx) (id : String) (r : V -> List V -> Hp -> VK -> Prop) : Prop :=
  ∀ (pins : List (Addr × Obj)) (s : Shared) (σ : St) (H : Hp) (x : V) (xs : List V) (v : Value) (us : List Value) (Q : VK), Inv X pins σ H s -> ze0 x v -> zc3 xs us -> r x xs H Q ->
    wpAny (model X.prog X.w) X.A (call (.builtin id) (v :: us)) (EP X pins σ Q) X.xe s
section
variable {X : Cx} {a b : Expr} {ta tb : TE} {pos : Pos}
theorem IxR.or {r r' : R2} (h : IxR X r) (h' : IxR X r') : IxR X (fun x y H Q => r x y H Q \/ r' x y H Q) := by
  intro value slice pins s σ H x y v u Q I rx ry q hs
  rcases q with q | q
  . exact h value slice pins s σ H x y v u Q I rx ry q hs
  . exact h' value slice pins s σ H x y v u Q I rx ry q hs
theorem MtR.or {id : String} {r r' : V -> List V -> Hp -> VK -> Prop} (h : MtR X id r) (h' : MtR X id r') : MtR X id (fun x xs H Q => r x xs H Q \/ r' x xs H Q) := by
  intro pins s σ H x xs v us Q I rx rs q
  rcases q with q | q
  . exact h pins s σ H x xs v us Q I rx rs q
  . exact h' pins s σ H x xs v us Q I rx rs q
theorem xa6 {r : R2} (hr : IxR X r) (ha : PE X a ta) (hb : PE X b tb) (hs : zw8 b) : PE X (.Subscript a b pos) (tOp r ta tb) := by
  intro pins s σ H Q I h
  exact Subscript_ (xt6 ha hb I h fun v u s2 x y H2 I2 rx ry q => hr a b pins s2 σ H2 x y v u Q I2 rx ry q (hs _ _))
noncomputable def wi8 (K : PySem.W.Frag) : R2 := fun x y H Q => ∃ p xs i v, x = .ref p /\ y = .int i /\ SqL K H p xs /\ atI xs i = some v /\ Q v H
noncomputable def wi9 (K : PySem.W.Frag) : R2 := fun x y H Q => ∃ p xs i v, x = .ref p /\ y = .int i /\ SqT K H p xs /\ atI xs i = some v /\ Q v H
noncomputable def wj0 : R2 := fun x y H Q => ∃ z i c, x = .str z /\ y = .int i /\ z.length <= sizeLine /\ atI z.cps.toList i = some c /\ Q (.str ⟨#[c]⟩) H
theorem yu4 : IxR X (wi8 X.K) := by
  intro value slice pins s σ H x y v u Q I rx ry h hs
  obtain ⟨p, xs, i, z, rfl, rfl, hq, he, q⟩ := h
  cases rx
  obtain ⟨t, rfl⟩ := ry
  obtain ⟨its, r, pl, hz⟩ := I.list hq
  obtain ⟨j, h1, h2, h3, h4, h5⟩ := ya0 he
  obtain ⟨w, ew, rw'⟩ := r.get h2
  have hl := r.length
  have hn := ya3
  have fin : EP X pins σ Q w s := ⟨z, H, I, rw', q⟩
  by_cases h0 : 0 <= i
  . have hj : i.toNat = j := by
      rw [seqIndex_of h0 h5] at h1
      exact Option.some.inj h1
    exact item_listR pl.isList h0 (by omega) (by rw [hj]; simpa using ew) fin hs
  . have hj : (i + (its.toArray.size : Int)).toNat = j := by
      rw [seqIndex_neg (by omega) h4] at h1
      rw [List.size_toArray, <- hl]
      exact Option.some.inj h1
    exact subscriptTail_builtinR (x := w) pl.isList.typeIs slot_list_getitem.lookup
      (wpAny_getItem_list_neg (Q := fun r s' => r = w /\ EP X pins σ Q r s') pl.isList (by omega) (by rw [List.size_toArray] <;> omega) (by omega) (by rw [hj]; simpa using ew) ⟨rfl, fin⟩) hs
theorem wg2 : IxR X (wi9 X.K) := by
  intro value slice pins s σ H x y v u Q I rx ry h hs
  obtain ⟨p, xs, i, z, rfl, rfl, hq, he, q⟩ := h
  cases rx
  obtain ⟨t, rfl⟩ := ry
  obtain ⟨its, r, pl, hz⟩ := I.tuple hq
  obtain ⟨j, h1, h2, h3, h4, h5⟩ := ya0 he
  obtain ⟨w, ew, rw'⟩ := r.get h2
  have hl := r.length
  have hn := ya3
  have fin : EP X pins σ Q w s := ⟨z, H, I, rw', q⟩
  exact subscriptTail_builtinR (x := w) pl.typeIs slot_tuple_getitem.lookup
    (getItem_tuple (j := j) (Q := fun r s' => r = w /\ EP X pins σ Q r s') pl (by omega) (by omega) (by rw [List.size_toArray, <- hl]; exact h1) (by simpa using ew) ⟨rfl, fin⟩) hs
theorem wg3 : IxR X wj0 := by
  intro value slice pins s σ H x y v u Q I rx ry h hs
  obtain ⟨z, i, c, rfl, rfl, hz, he, q⟩ := h
  obtain ⟨t, rfl⟩ := rx
  obtain ⟨t', rfl⟩ := ry
  obtain ⟨j, h1, h2, h3, h4, h5⟩ := ya0 he
  have hl : z.cps.toList.length = z.length := by simp [Str.length]
  rw [hl] at h1 h4 h5
  have hn := ya3
  exact tail_any (typeIs_str s z t) slot_str_getitem.lookup (getItem_str (c := c) (by
    have e1 : decide (i < -(2 ^ 63 : Int)) = false := decide_eq_false (by omega)
    have e2 : decide (i >= 2 ^ 63) = false := decide_eq_false (by omega)
    rw [e1, e2, Bool.or_false]) (by rw [h1]; simpa using h2) ⟨.str ⟨#[c]⟩, H, I.tok _, ⟨_, rfl⟩, q⟩) hs
noncomputable def rIx (K : PySem.W.Frag) : R2 := fun x y H Q => wi8 K x y H Q \/ wi9 K x y H Q \/ wj0 x y H Q
theorem xp1 : IxR X (rIx X.K) := yu4.or (wg2.or wg3)
theorem xk1 (its : List Value) (n j : Nat) (u : Value) : Obj.mapSeq (·.setIfInBounds j u) { cls := .type "list", data := .seq its.toArray n } = { cls := .type "list", data := .seq (its.set j u).toArray n } := by
  simp [Obj.mapSeq]
theorem Inv.lst {pins : List (Addr × Obj)} {σ : St} {H : Hp} {s : Shared} {p : Addr} {xs : List V} (I : Inv X pins σ H s) (h : H p = some (.lst xs)) :
    ∃ (its : List Value) (n : Nat), zc3 xs its /\ s.heap.get? p = some { cls := .type "list", data := .seq its.toArray n } /\ xs.length <= sizeLine := by
  obtain ⟨z, its, n, r, e⟩ := I.hok p _ h
  exact ⟨its, n, r, e, z⟩
theorem Inv.lstUpd {pins : List (Addr × Obj)} {σ : St} {H : Hp} {s : Shared} {p : Addr} {xs ys : List V} {its its' : List Value} {n n' : Nat} {f : Obj -> Obj} (I : Inv X pins σ H s) (h : H p = some (.lst xs))
    (ho : s.heap.get? p = some { cls := .type "list", data := .seq its.toArray n }) (hf : f { cls := .type "list", data := .seq its.toArray n } = { cls := .type "list", data := .seq its'.toArray n' }) (r : zc3 ys its') (hz : ys.length <= sizeLine) (t : Nat) :
    Inv X pins σ (upd H p (.lst ys)) { s with heap := s.heap.update p f, toks := t } := by
  have e : (s.heap.update p f).get? p = some { cls := .type "list", data := .seq its'.toArray n' } := by
    rw [Heap.get?_update_self f ho (by rw [hf] <;> rfl), hf]
  refine I.write (x := p) (e := p) (by rw [h]; trivial) (.inl rfl) (fun b u hb q => (Heap.get?_update_other _ _ (Ne.symm hb)).trans q) ⟨_, e⟩ ?_
  exact ⟨hz, its', n', r, e⟩
noncomputable def wl6 : V -> V -> V -> Hp -> (Hp -> Prop) -> Prop := fun o i v H Q => ∃ p xs k j, o = .ref p /\ i = .int k /\ H p = some (.lst xs) /\ ixN xs.length k = some j /\ Q (upd H p (.lst (xs.set j v)))
theorem xu5 : wi5 X wl6 := by
  intro pins s σ H o i v ov iv u Q I ro ri rv h
  obtain ⟨p, xs, k, j, rfl, rfl, hp, hj, q⟩ := h
  cases ro
  obtain ⟨t, rfl⟩ := ri
  obtain ⟨its, n, r, ho, hz⟩ := I.lst hp
  obtain ⟨h1, h2, h3, h4⟩ := yk8 hj
  have hl := r.length
  have hn := ya3
  have I' : Inv X pins σ (upd H p (.lst (xs.set j v))) { s with heap := s.heap.update p (Obj.mapSeq (·.setIfInBounds j u)) } :=
    I.lstUpd hp ho (xk1 its n j u) (r.set rv j) (by rw [List.length_set]; exact hz) s.toks
  by_cases h0 : 0 <= k
  . have hk : k.toNat = j := by
      rw [seqIndex_of h0 h4] at h1
      exact Option.some.inj h1
    exact PySem.W.ki_setAt ho h0 (by omega) (by rw [List.size_toArray, <- hl]; exact h4) (by rw [hk]; exact ⟨_, I', q⟩)
  . have hk : (k + (its.toArray.size : Int)).toNat = j := by
      rw [seqIndex_neg (by omega) h3] at h1
      rw [List.size_toArray, <- hl]
      exact Option.some.inj h1
    exact PySem.W.ki_setBack ho (by omega) (by rw [List.size_toArray, <- hl]; exact h3) (by omega) (by rw [hk]; exact ⟨_, I', q⟩)
noncomputable def zr5 : V -> Bool
  | .non => true
  | .bl _ => true
  | .int _ => true
  | .str _ => true
  | _ => false
noncomputable def eqV : V -> V -> Bool
  | .non, .non => true
  | .bl a, .bl b => a == b
  | .bl a, .int b => (if a then 1 else 0) == b
  | .int a, .bl b => a == (if b then 1 else 0)
  | .int a, .int b => a == b
  | .str a, .str b => a == b
  | _, _ => false
theorem wg4 {A : Around} {s : Shared} {y x : V} {u v : Value} (ry : ze0 y u) (rx : ze0 x v) (fy : zr5 y = true) (fx : zr5 x = true) : SeqAt.EqAt A s u v (eqV y x) := by
  cases y with
  | non =>
    cases ry
    cases x with
    | non => cases rx; exact SeqAt.EqAt.same _
    | bl b => cases rx; exact SeqAt.EqAt.none_bool b
    | int b => obtain ⟨t, rfl⟩ := rx; exact SeqAt.EqAt.none_int b t
    | str b => obtain ⟨t, rfl⟩ := rx; exact SeqAt.EqAt.none_str b t
    | _ => exact absurd (show false = true from fx) Bool.false_ne_true
  | bl a =>
    cases ry
    cases x with
    | non => cases rx; exact SeqAt.EqAt.bool_none a
    | bl b => cases rx; exact SeqAt.EqAt.bool_bool a b
    | int b => obtain ⟨t, rfl⟩ := rx; exact SeqAt.EqAt.bool_int a b t
    | str b => obtain ⟨t, rfl⟩ := rx; exact SeqAt.EqAt.bool_str a b t
    | _ => exact absurd (show false = true from fx) Bool.false_ne_true
  | int a =>
    obtain ⟨t', rfl⟩ := ry
    cases x with
    | non => cases rx; exact SeqAt.EqAt.int_none a t'
    | bl b => cases rx; exact SeqAt.EqAt.int_bool a t' b
    | int b => obtain ⟨t, rfl⟩ := rx; exact SeqAt.EqAt.int_int a t' b t
    | str b => obtain ⟨t, rfl⟩ := rx; exact SeqAt.EqAt.int_str a t' b t
    | _ => exact absurd (show false = true from fx) Bool.false_ne_true
  | str a =>
    obtain ⟨t', rfl⟩ := ry
    cases x with
    | non => cases rx; exact SeqAt.EqAt.str_none a t'
    | bl b => cases rx; exact SeqAt.EqAt.str_bool a t' b
    | int b => obtain ⟨t, rfl⟩ := rx; exact SeqAt.EqAt.str_int a t' b t
    | str b => obtain ⟨t, rfl⟩ := rx; exact SeqAt.EqAt.str_str a t' b t
    | _ => exact absurd (show false = true from fx) Bool.false_ne_true
  | _ => exact absurd (show false = true from fy) Bool.false_ne_true
noncomputable def eqU (x : V) (u : Value) : Bool := match u with
  | .none => eqV .non x
  | .bool b => eqV (.bl b) x
  | .int i _ => eqV (.int i) x
  | .str z _ => eqV (.str z) x
  | _ => false
theorem xp2 {x y : V} {u : Value} (r : ze0 y u) (f : zr5 y = true) : eqU x u = eqV y x := by
  cases y with
  | non => cases r; rfl
  | bl b => cases r; rfl
  | int i => obtain ⟨t, rfl⟩ := r; rfl
  | str z => obtain ⟨t, rfl⟩ := r; rfl
  | _ => exact absurd (show false = true from f) Bool.false_ne_true
theorem yu5 {x : V} : ∀ {xs : List V} {us : List Value}, zc3 xs us -> xs.all zr5 = true -> us.any (eqU x) = xs.any fun y => eqV y x
  | _, _, .nil, _ => rfl
  | y :: xs, u :: us, .cons r t, f => by
    rw [List.all_cons, Bool.and_eq_true] at f
    rw [List.any_cons, List.any_cons, xp2 r f.1, yu5 t f.2]
theorem yn3 {A : Around} {s : Shared} {x : V} {v : Value} (rx : ze0 x v) (fx : zr5 x = true) : ∀ {xs : List V} {us : List Value}, zc3 xs us -> xs.all zr5 = true -> ∀ u ∈ us, SeqAt.EqAt A s u v (eqU x u)
  | _, _, .nil, _ => fun u hu => by cases hu
  | y :: xs, u :: us, .cons r t, f => fun u' hu => by
    rw [List.all_cons, Bool.and_eq_true] at f
    rcases List.mem_cons.mp hu with rfl | hu
    . rw [xp2 r f.1]; exact wg4 r rx f.1 fx
    . exact yn3 rx fx t f.2 u' hu
noncomputable def inV (x : V) (xs : List V) : Bool := xs.any fun y => eqV y x
noncomputable def rIn (K : PySem.W.Frag) (neg : Bool) : R2 := fun x y H Q => ∃ p xs, y = .ref p /\ (SqL K H p xs \/ SqT K H p xs) /\ zr5 x = true /\ xs.all zr5 = true /\ Q (.bl (if neg then !inV x xs else inV x xs)) H
theorem xp3 : OpR X (compareOp .In) (rIn X.K false) := by
  intro pins s σ H x y v u Q I rx ry h
  obtain ⟨p, xs, rfl, hq, fx, fs, q⟩ := h
  cases ry
  rcases hq with hq | hq
  . obtain ⟨its, r, pl, hz⟩ := I.list hq
    refine SeqAt.in_listAt (eqU x) pl.isList (fun w hw => yn3 rx fx r fs w (by simpa using hw)) ⟨.bl _, H, I, rfl, ?_⟩
    rw [show its.toArray.any (eqU x) = its.any (eqU x) by simp, yu5 r fs]
    exact q
  . obtain ⟨its, r, pl, hz⟩ := I.tuple hq
    refine SeqAt.in_tupleAt (eqU x) pl (fun w hw => yn3 rx fx r fs w (by simpa using hw)) ⟨.bl _, H, I, rfl, ?_⟩
    rw [show its.toArray.any (eqU x) = its.any (eqU x) by simp, yu5 r fs]
    exact q
theorem zp6 : zi0 X (.builtin "len") (fun xs H Q => ∃ p ys, xs = [.ref p] /\ (SqL X.K H p ys \/ SqT X.K H p ys) /\ Q (.int ys.length) H) := by
  intro pins s σ H xs us Q I r h
  obtain ⟨p, ys, rfl, hq, q⟩ := h
  obtain ⟨u, rfl, rx⟩ := yf3 r
  cases rx
  have hn := ya3
  rcases hq with hq | hq
  . obtain ⟨its, r', pl, hz⟩ := I.list hq
    have hlen := r'.length
    exact Calls.call_len_list pl.isList (by simp only [List.size_toArray] <;> omega) ⟨.int ys.length, H, I.tok _, ⟨s.toks + 1, by rw [List.size_toArray, hlen]⟩, q⟩
  . obtain ⟨its, r', pl, hz⟩ := I.tuple hq
    have hlen := r'.length
    exact len_tuple pl (by simp only [List.size_toArray] <;> omega) ⟨.int ys.length, H, I.tok _, ⟨s.toks + 1, by rw [List.size_toArray, hlen]⟩, q⟩
theorem xb7 : zi0 X (.builtin "len") (fun xs H Q => ∃ z, xs = [.str z] /\ z.length <= sizeLine /\ Q (.int z.length) H) := by
  intro pins s σ H xs us Q I r h
  obtain ⟨z, rfl, hz, q⟩ := h
  obtain ⟨u, rfl, t, rfl⟩ := yf3 r
  have hn := ya3
  exact len_str (by omega) ⟨.int z.length, H, I.tok _, ⟨_, rfl⟩, q⟩
theorem zi0.or {f : Value} {r r' : List V -> Hp -> VK -> Prop} (h : zi0 X f r) (h' : zi0 X f r') : zi0 X f (fun xs H Q => r xs H Q \/ r' xs H Q) := by
  intro pins s σ H xs us Q I rs q
  rcases q with q | q
  . exact h pins s σ H xs us Q I rs q
  . exact h' pins s σ H xs us Q I rs q
theorem yh6 : zi0 X (.type "tuple") (fun xs H Q => ∃ p ys, xs = [.ref p] /\ ((SqL X.K H p ys /\ ∀ l, H l = none -> Q (.ref l) (upd H l (.tup ys))) \/ (SqT X.K H p ys /\ Q (.ref p) H))) := by
  intro pins s σ H xs us Q I r h
  obtain ⟨p, ys, rfl, h⟩ := h
  obtain ⟨u, rfl, rx⟩ := yf3 r
  cases rx
  rcases h with ⟨hq, q⟩ | ⟨hq, q⟩
  . obtain ⟨its, r', pl, hz⟩ := I.list hq
    have hlen := r'.length
    refine call_tuple_list pl.isList (fun h' kp => ?_) (by simp only [List.size_toArray] <;> omega)
    have I1 : Inv X pins σ H { s with heap := h' } := I.kept (t' := s.toks) kp
    have I2 : Inv X pins σ (upd H h'.objs.size (.tup ys)) { s with heap := h'.push { cls := .type "tuple", data := .seq its.toArray } } :=
      I1.laid (t' := s.toks) (fun b o e => Heap.get?_push_of_some _ e) (Nat.le_refl _) (show zi8 X.prog X.w _ _ _ (.tup ys) from ⟨hz, its, r', IsTup.new _ _⟩)
    exact ⟨.ref h'.objs.size, _, I2, rfl, q _ (I1.hok.fresh (Nat.le_refl _))⟩
  . obtain ⟨its, r', pl, hz⟩ := I.tuple hq
    exact call_tuple_same pl ⟨.ref p, H, I, rfl, q⟩
noncomputable def tyV (K : PySem.W.Frag) (T : String) (x : V) (H : Hp) : Prop := match x with
  | .str _ => T = "str"
  | .int _ => T = "int"
  | .ref p => (T = "list" /\ ∃ xs, SqL K H p xs) \/ (T = "tuple" /\ ∃ o, K.lookup p = some o /\ o.cls = .type "tuple" /\ o.dict = none) \/
      (T = "dict" /\ ((∃ kvs, H p = some (.dK kvs)) \/ ∃ kvs, H p = some (.dT kvs))) \/ (T = "set" /\ ∃ S n, H p = some (.set S n))
  | _ => False
theorem xp4 {pins : List (Addr × Obj)} {σ : St} {H : Hp} {s : Shared} {T : String} {x : V} {v : Value} (I : Inv X pins σ H s) (r : ze0 x v) (ty : tyV X.K T x H) :
    s.TypeIs v T /\ ∀ a, v = .ref a -> ∃ ob, s.heap.get? a = some ob /\ ob.dict = none := by
  cases x with
  | str z =>
    obtain ⟨t, rfl⟩ := r
    cases (show T = "str" from ty)
    exact ⟨typeIs_str s z t, fun _ e => nomatch e⟩
  | int i =>
    obtain ⟨t, rfl⟩ := r
    cases (show T = "int" from ty)
    exact ⟨typeIs_int s i t, fun _ e => nomatch e⟩
  | ref p =>
    cases r
    rcases ty with ⟨rfl, xs, hq⟩ | ⟨rfl, o, hk, hc, hd⟩ | ⟨rfl, hk⟩ | ⟨rfl, S, n, hk⟩
    . obtain ⟨its, _, pl, _⟩ := I.list hq
      refine ⟨pl.isList.typeIs, fun a e => ?_⟩
      cases e
      obtain ⟨o, n, e, c, hd, _⟩ := pl
      exact ⟨o, e, hd⟩
    . refine ⟨⟨o, I.kIn p o hk, hc⟩, fun a e => ?_⟩
      cases e
      exact ⟨o, I.kIn _ o hk, hd⟩
    . have z : ∃ o, s.heap.get? p = some o /\ o.ExactDict := by
        rcases hk with ⟨kvs, hk⟩ | ⟨kvs, hk⟩
        . obtain ⟨_, _, _, _, o, _, _, e, ex, _⟩ := I.hok p _ hk
          exact ⟨o, e, ex⟩
        . obtain ⟨_, _, _, _, o, _, _, e, ex, _⟩ := I.hok p _ hk
          exact ⟨o, e, ex⟩
      obtain ⟨o, e, ex⟩ := z
      refine ⟨⟨o, e, ex.1⟩, fun a e2 => ?_⟩
      cases e2
      exact ⟨o, e, ex.2.1⟩
    . obtain ⟨o, _, _, _, e, ex, _⟩ := I.hok p _ hk
      refine ⟨⟨o, e, ex.1⟩, fun a e2 => ?_⟩
      cases e2
      exact ⟨o, e, ex.2.1⟩
  | _ => exact False.elim ty
noncomputable def wo4 (K : PySem.W.Frag) (T : String) (r : V -> List V -> Hp -> VK -> Prop) (to : TE) : TE := fun σ H Q => to σ H fun x H1 => tyV K T x H1 /\ r x [] H1 Q
noncomputable def tBM (K : PySem.W.Frag) (T : String) (r : V -> List V -> Hp -> VK -> Prop) (to : TE) (t : TA) : TE := fun σ H Q => to σ H fun x H1 => tyV K T x H1 /\ t σ H1 fun xs H2 => r x xs H2 Q
variable {o e : Expr} {es : List Expr} {to : TE} {t : TA} {name : Str} {apos cpos : Pos} {T id : String} {r : V -> List V -> Hp -> VK -> Prop}
theorem xp5 (pa : PlainAttrs T) (slot : Slot T name id) (hty : typeOf (.builtin id) = pure (.type "method_descriptor")) (hm : MtR X id r) (ho : PE X o to)
    (hbase : attributeBase o name X.env (eval o X.env) = eval o X.env := by rfl) (hline : (apos.endLine == cpos.line) = true := by rfl) : PE X (.Call (.Attribute o name apos) [] [] cpos) (wo4 X.K T r to) := by
  intro pins s σ H Q I h
  refine wpAny_Call_method0_late hbase hline (thn (ho pins s σ H _ I h) fun v s1 ⟨x, H1, I1, r1, ty, q1⟩ => ?_)
  obtain ⟨h1, h2⟩ := xp4 I1 r1 ty
  exact ⟨T, id, pa, slot, hty, h1, h2, Calls.callWith_builtin rfl (PySem.evalArgs_none (hm pins s1 σ H1 x [] v [] Q I1 r1 .nil q1))⟩
theorem xk2 (pa : PlainAttrs T) (slot : Slot T name id) (hty : typeOf (.builtin id) = pure (.type "method_descriptor")) (hm : MtR X id r) (ho : PE X o to) (ha : PA X (e :: es) t)
    (hbase : attributeBase o name X.env (eval o X.env) = eval o X.env := by rfl)
    (hfew : ((backTo cpos (starEach (e :: es) X.env)).all (fun x => !x.1) && (backToKw cpos (keywordEach [] X.env)).all (fun x => x.1.isSome)
      && decide ((e :: es).length + ([] : List Keyword).length + (if ([] : List Keyword).isEmpty then 0 else 1) < 30)) = true := by rfl)
    (hline : (apos.endLine == cpos.line) = true := by rfl) (hs : starEach (e :: es) X.env = (false, eval e X.env) :: starEach es X.env := by rfl) (hplain : (backTo cpos (starEach es X.env)).any (·.1) = false := by rfl) :
    PE X (.Call (.Attribute o name apos) (e :: es) [] cpos) (tBM X.K T r to t) := by
  intro pins s σ H Q I h
  refine wpAny_Call_method_late hbase hfew hline rfl (thn (ho pins s σ H _ I h) fun v s1 ⟨x, H1, I1, r1, ty, q1⟩ => ?_)
  obtain ⟨h1, h2⟩ := xp4 I1 r1 ty
  refine ⟨T, id, pa, slot, hty, h1, h2, ?_⟩
  have hA := ha cpos pins s1 σ H1 _ I1 q1
  rw [hs] at hA |-
  refine Calls.callWith_builtin (by show (false || (backTo cpos (starEach es X.env)).any (·.1)) = false; rw [hplain] <;> rfl) (Calls.evalArgs_plain ?_)
  exact thn hA fun us s2 ⟨vs, H2, I2, r2, q2⟩ => hm pins s2 σ H2 x vs v us Q I2 r1 r2 q2
end
end L2
namespace L2
open PySem PySem.Spec PyProof.Rows
noncomputable def MtM (X : Cx) (id : String) (r : V -> List V -> Hp -> VK -> Prop) : Prop :=
  ∀ (pins : List (Addr × Obj)) (s : Shared) (σ : St) (H : Hp) (x : V) (xs : List V) (v : Value) (us : List Value) (Q : VK), Inv X pins σ H s -> ze0 x v -> zc3 xs us -> r x xs H Q ->
    wpAny (model X.prog X.w) X.A (call (.builtin id) (v :: us)) (EP X pins σ Q) X.xe s
theorem zc3.one : ∀ {x : V} {us : List Value}, zc3 [x] us -> ∃ u, us = [u] /\ ze0 x u
  | _, _, .cons r .nil => ⟨_, rfl, r⟩
theorem zc3.zero : ∀ {us : List Value}, zc3 [] us -> us = []
  | _, .nil => rfl
theorem zc3.dropLast {xs : List V} {us : List Value} (h : zc3 xs us) : zc3 xs.dropLast us.dropLast := by
  induction h with
  | nil => exact .nil
  | cons r t ih =>
    cases t with
    | nil => exact .nil
    | cons q t' => exact .cons r ih
theorem zc3.eraseIdx : ∀ {xs : List V} {us : List Value} (i : Nat), zc3 xs us -> zc3 (xs.eraseIdx i) (us.eraseIdx i)
  | _, _, _, .nil => .nil
  | _, _, 0, .cons _ t => t
  | _, _, i + 1, .cons r t => .cons r (zc3.eraseIdx i t)
theorem zc3.reverse {xs : List V} {us : List Value} (h : zc3 xs us) : zc3 xs.reverse us.reverse := by
  induction h with
  | nil => exact .nil
  | cons r t ih => rw [List.reverse_cons, List.reverse_cons]; exact zc3.append ih (.cons r .nil)
theorem zc3.rep {xs : List V} {us : List Value} (h : zc3 xs us) : ∀ k : Nat, zc3 (List.replicate k xs).flatten (List.replicate k us).flatten
  | 0 => .nil
  | k + 1 => by
    rw [List.replicate_succ, List.replicate_succ, List.flatten_cons, List.flatten_cons]
    exact zc3.append h (zc3.rep h k)
theorem xk3 {α : Type} (l : List α) : l.eraseIdx (l.length - 1) = l.dropLast := by
  induction l with
  | nil => rfl
  | cons a r ih =>
    cases r with
    | nil => rfl
    | cons b r =>
      have e : (a :: b :: r).length - 1 = ((b :: r).length - 1) + 1 := by
        have h1 : (a :: b :: r).length = r.length + 2 := rfl
        have h2 : (b :: r).length = r.length + 1 := rfl
        omega
      rw [e, List.eraseIdx_cons_succ, ih]
      all_goals rfl
section
variable {X : Cx} {pins : List (Addr × Obj)} {σ : St} {H : Hp} {s : Shared} {l b : Addr} {xs ys zs : List V}
theorem Inv.lset {its its' : List Value} {n : Nat} {f : Array Value -> Array Value} {t' : Nat} (I : Inv X pins σ H s) (hH : H l = some (.lst xs))
    (e : s.heap.get? l = some { cls := .type "list", data := .seq its.toArray n }) (hf : f its.toArray = its'.toArray) (hv : zc3 ys its') (hz : ys.length <= sizeLine) :
    Inv X pins σ (upd H l (.lst ys)) { s with heap := s.heap.update l (Obj.mapSeq f), toks := t' } := by
  have q := PySem.IsL.update e f
  rw [hf] at q
  refine I.write (x := l) (e := l) (by rw [hH]; exact trivial) (.inl rfl) (fun b' u hb hu => (Heap.get?_update_other s.heap (Obj.mapSeq f) (Ne.symm hb)).trans hu) ⟨_, q⟩ ?_
  exact ⟨hz, its', _, hv, q⟩
theorem Inv.lnew {its : List Value} {t' : Nat} (I : Inv X pins σ H s) (hv : zc3 ys its) (hz : ys.length <= sizeLine) :
    Inv X pins σ (upd H s.heap.objs.size (.lst ys)) { s with heap := s.heap.push { cls := .type "list", data := .seq its.toArray }, toks := t' } :=
  I.laid (fun _ _ q => Heap.get?_push_of_some _ q) (Nat.le_refl _) ⟨hz, its, 0, hv, Heap.get?_push_size _ rfl⟩
theorem Inv.fresh (I : Inv X pins σ H s) : H s.heap.objs.size = none := I.hok.fresh (Nat.le_refl _)
theorem Inv.lstM (I : Inv X pins σ H s) (hH : H l = some (.lst xs)) : xs.length <= sizeLine /\ ∃ (its : List Value) (n : Nat), zc3 xs its /\ xs.length = its.length /\ s.heap.get? l = some { cls := .type "list", data := .seq its.toArray n } := by
  obtain ⟨z, its, n, r, e⟩ := I.hok l _ hH
  exact ⟨z, its, n, r, r.length, e⟩
end
section
variable {X : Cx}
noncomputable def wd8 : V -> List V -> Hp -> VK -> Prop := fun x vs H Q => ∃ l xs y, x = .ref l /\ vs = [y] /\ H l = some (.lst xs) /\ xs.length < sizeLine /\ Q .non (upd H l (.lst (xs ++ [y])))
theorem yi2 : MtM X "list.append" wd8 := by
  intro pins s σ H x vs v us Q I rx rv h
  obtain ⟨l, xs, y, rfl, rfl, hH, hz, q⟩ := h
  cases rx
  obtain ⟨u, rfl, ru⟩ := rv.one
  obtain ⟨z, its, n, r, hl, e⟩ := I.lstM hH
  refine call_meets F.slot_list_append ⟨_, e, rfl⟩ F.entry_list_append (F.args_list_append_2 _ _) (PySem.list_append l its.toArray n u (by rw [List.size_toArray]; omega)) ⟨e, ?_⟩
  refine ⟨.non, _, I.lset (its' := its ++ [u]) hH e (by simp) (r.append (.cons ru .nil)) ?_, rfl, q⟩
  rw [List.length_append, List.length_singleton]
  omega
noncomputable def wo5 : V -> List V -> Hp -> VK -> Prop := fun x vs H Q => ∃ l xs y, x = .ref l /\ vs = [] /\ H l = some (.lst xs) /\ xs[xs.length - 1]? = some y /\ Q y (upd H l (.lst xs.dropLast))
theorem xp6 : MtM X "list.pop" wo5 := by
  intro pins s σ H x vs v us Q I rx rv h
  obtain ⟨l, xs, y, rfl, rfl, hH, hy, q⟩ := h
  cases rx
  have hus := rv.zero
  subst hus
  obtain ⟨z, its, n, r, hl, e⟩ := I.lstM hH
  obtain ⟨u, hu, ru⟩ := r.get hy
  have hy' : its.toArray[its.toArray.size - 1]? = some u := by
    show its.toArray[its.length - 1]? = some u
    rw [<- Array.getElem?_toList, <- hl]
    exact hu
  refine call_meets F.slot_list_pop ⟨_, e, rfl⟩ F.entry_list_pop (F.args_list_pop_1 _) (MeetsSeq.list_pop_last l its.toArray n u hy' (by rw [List.size_toArray]; omega)) ⟨e, ?_⟩
  refine ⟨y, _, I.lset (its' := its.dropLast) hH e ?_ r.dropLast ?_, ru, q⟩
  . show its.toArray.eraseIdxIfInBounds (its.toArray.size - 1) = its.dropLast.toArray
    rw [List.size_toArray, List.eraseIdxIfInBounds_toArray, xk3]
  . rw [List.length_dropLast]
    omega
end
end L2
namespace Att
open PySem PySem.W PySem.Calls PyProof.Rows
theorem yp9 {P : Params} {h : Heap} : ∀ (ns : List Int) (vs : List Value), WellAll P h vs (ns.map WData.int) -> IntsAre vs ns := by
  intro ns
  induction ns with
  | nil =>
    intro vs w
    rw [List.map_nil] at w
    cases w
    exact .nil
  | cons n ns ih =>
    intro vs w
    rw [List.map_cons] at w
    cases w with
    | cons a b =>
      cases a
      exact .cons _ _ (ih _ b)
theorem xp7 {l : OpenLaw} {n : Nat} (hn : l.most = some n) {P : Params} {h : Heap} {args : List WData} {vals : List Value}
    (hpre : l.row.toRowW.claim.pre args = true) (hwl : WellAll P h vals args) :
    ∃ a vs ns, vals = [Value.ref a] /\ args = [WData.list (ns.map WData.int)] /\ h.get? a = some { cls := .type "list", data := .seq vs.toArray } /\ IntsAre vs ns /\ ns.length <= n := by
  have hsh : WShape.hasAll [] args [.list .int] = true := (pre_splitW hpre).1
  have hc : l.pre.holds [] { args := args } = true := (pre_splitW hpre).2
  obtain ⟨d, r, rfl, h1, h2⟩ := hasAllW_cons hsh
  obtain rfl := hasAllW_nil h2
  obtain ⟨xs, rfl, h3⟩ := hasW_list h1
  obtain ⟨ns, rfl⟩ := items_int h3
  have hlen : ns.length <= n := by
    unfold OpenLaw.pre at hc
    have h4 : (WTm.not (.lt (.lit (.int (n : Int))) (.len (.arg 0)))).holds [] { args := [.list (ns.map .int)] } = true := by
      have h4 := (holds_andW hc).1
      rw [hn] at h4
      exact h4
    have h5 := condW_of h4 (w_not (w_lt w_lit (w_len_list (w_arg rfl))))
    rw [List.length_map] at h5
    refine Nat.le_of_not_lt fun q => ?_
    have q' : (n : Int) < ((ns.length : Nat) : Int) := by omega
    first
      | (rw [decide_eq_true q'] at h5; exact absurd h5 (by decide))
      | (simp at h5; omega)
  cases hwl with
  | cons w1 w2 =>
    cases w2
    cases w1 with
    | list ho hall => exact ⟨_, _, ns, rfl, rfl, ho, yp9 ns _ hall, hlen⟩
theorem xp8 (l : OpenLaw) (args : List WData) : l.row.toRowW.claim.post args (.bool true) args = true :=
  postW_of (r := l.row.toRowW) (X := (true == true))
    (show WShape.has [] (.bool true) .bool = true by first | rfl | decide | simp [WShape.has, WShape.arms, WShape.armsAll])
    (show (WTm.eq .res (.lit (.bool true))).value [] { args := args, res := some (.bool true), after := args } = some (.bool (true == true)) from w_eq_bool (w_res rfl) w_lit) rfl
theorem attach_call {l : OpenLaw} {n : Nat} {q : Program} {loose : List Str} {XP : (Str -> Option Value) -> Heap -> Prop} {YP : World -> Heap -> Prop} {d : DefRec}
    (hn : l.most = some n) (hdf : d.params.defaults = [])
    (call : ∀ (w : World) (s₀ s₁ : Shared) (mg mb : Str -> Option Value) (fa : Addr) (o : Obj) (pm cd doc : Value) (a : Addr) (vs : List Value) (ns : List Int),
      Ground q loose [] XP w s₀ mg mb s₁.heap -> YP w s₁.heap ->
      s₁.heap.get? fa = some o -> o.data = .func (docDef d.name d.params d.body d.scope pm cd doc) -> s₁.heap.CodeRec cd d.name -> mg d.name = some (.ref fa) ->
      s₁.heap.get? a = some { cls := .type "list", data := .seq vs.toArray } -> IntsAre vs ns -> ns.length <= n -> s₁.gens = #[] ->
      codeAny (model l.prog w) callerA (.call (.ref fa) ⟨[.ref a], []⟩) (fun r s' => r = .ok (.ret (.bool true)) /\ OldK s₁.heap s'.heap /\ s'.os = s₁.os /\ AllBare s'.gens) s₁) :
    WalkO q loose XP YP l.row.toRowW d [] (fun f vs => PySem.call f vs) := by
  intro w s₀ s₁ mg mb G Y fa o pm cd doc dV kV ho hd hcd hD hmg hg args vals as hpre hlay hrd hwl hlo
  obtain rfl : dV = .none := Dflts.none hD hdf
  obtain rfl : kV = .none := Dflts.noKw hD
  obtain ⟨a, vs, ns, rfl, rfl, hobj, hints, hlen⟩ := xp7 hn hpre hwl
  refine enter_call (codeAny_mono (call w s₀ s₁ mg mb fa o pm cd doc a vs ns G Y ho (fd_plain hd) hcd hmg hobj hints hlen hg) fun r s' hq => ?_)
  obtain ⟨rfl, h2, h3, h4⟩ := hq
  exact ⟨.inl ⟨.bool true, .bool true, [], rfl, fun _ => rfl, .bool true, xp8 l _, fun _ => ⟨List.Pairwise.nil, fun _ hm => (nomatch hm)⟩⟩, h2, h3, h4⟩
end Att
namespace L2
open PySem PySem.Spec PyProof.Rows
theorem yy2 : ∀ {vs : List Value} {ns : List Int}, IntsAre vs ns -> zc3 (ns.map V.int) vs
  | _, _, .nil => .nil
  | _, _, .cons n t h => .cons ⟨t, rfl⟩ (yy2 h)
noncomputable def xx8 (H : Hp) : Prop := ∀ b, H b = none \/ ∃ o xs, H b = some (.frz o (.lst xs))
theorem xu6 {P : Program} {w : World} {K : PySem.W.Frag} {mg mb : Str -> Option Value} {CX : CXT} {k : Nat} {fa a : Addr} {fd : FuncData} {x : Str} {sp : Sp} {s₁ : Shared} {vs : List Value} {ns : List Int}
    (KX : K.In s₁.heap) (hns : s₁.heap.Ns mainGlobals mg) (hb : s₁.heap.Ns builtinsNs mb) (hbb : ∀ x : Str, x ≠ "__name__" -> mb x = bootBuiltins x) (hlim : s₁.heap.NoLimit) (hg : s₁.gens = #[])
    (ha : s₁.heap.get? a = some { cls := .type "list", data := .seq vs.toArray }) (hi : IntsAre vs ns) (hl : ns.length <= sizeLine) (hr : Room k callerA)
    (F : ∀ base : Heap, K.In base -> base.Ns mainGlobals mg -> FnOk P w K mg base CX k fa fd [x] sp) (hbind : ∀ (s : Shared) (u : Value), BindsTo s fd ⟨[u], []⟩ [(x, u)])
    (hsp : ∀ H : Hp, xx8 H -> SqL K H a (ns.map V.int) -> sp [.ref a] H (fun v _ => v = .bl true) fun _ _ _ => False)
    (hCX : ∀ H e s', CX [] H s₁ (fun _ _ _ => False) e s' -> False) :
    codeAny (model P w) callerA (.call (.ref fa) ⟨[.ref a], []⟩) (fun r s' => r = .ok (.ret (.bool true)) /\ OldK s₁.heap s'.heap /\ s'.os = s₁.os /\ AllBare s'.gens) s₁ := by
  have rv := yy2 hi
  have lenV := hi.length
  have core : ∀ H : Hp, xx8 H -> SqL K H a (ns.map V.int) -> HOk P w H s₁.heap -> (∀ b, H b ≠ none -> b = a) -> (H a ≠ none -> K.lookup a = none) ->
      codeAny (model P w) callerA (.call (.ref fa) ⟨[.ref a], []⟩) (fun r s' => r = .ok (.ret (.bool true)) /\ OldK s₁.heap s'.heap /\ s'.os = s₁.os /\ AllBare s'.gens) s₁ := by
    intro H hO hS hok hA hK
    have base_of : ∀ {b : Addr} {o : Obj}, s₁.heap.get? b = some o -> H b = none -> (yh1 s₁.heap H).get? b = some o := fun e n => xt2 e n
    have noA : ∀ {b : Addr} {o : Obj} {es : Array DictEntry} {ep : Nat}, s₁.heap.get? b = some o -> o.data = .dict es ep -> H b = none := fun {b o es ep} e d => by
      cases q : H b with
      | none => rfl
      | some u =>
        have e' : b = a := hA b (by rw [q]; simp)
        subst e'
        rw [ha] at e; cases e
        have d' : Data.seq vs.toArray _ = Data.dict es ep := d
        cases d'
    have nsK : ∀ {b : Addr} {m : Str -> Option Value}, s₁.heap.Ns b m -> (yh1 s₁.heap H).Ns b m := fun {b m} ⟨o, es, ep, e, d, r⟩ => ⟨o, es, ep, base_of e (noA e d), d, r⟩
    have hKb : K.In (yh1 s₁.heap H) := fun b o e => base_of (KX b o e) (by
      cases q : H b with
      | none => rfl
      | some u =>
        have e' : b = a := hA b (by rw [q]; simp)
        subst e'
        rw [hK (by rw [q]; simp)] at e; cases e)
    have hM : Mod K mg (yh1 s₁.heap H) := ⟨hKb, nsK hns, ⟨mb, nsK hb, hbb⟩, let ⟨mc, h1, h2⟩ := hlim; ⟨mc, nsK h1, h2⟩⟩
    have e0 : Env0 P w K mg (yh1 s₁.heap H) callerA [] s₁ H := ⟨rfl, hM, fun b o e => xz6 e, Nat.le_of_eq (xo1 _ _), trivial, fun b hb => absurd (show b ∈ ([] : List Addr) from hb) (by simp), hok, .of_eq hg⟩
    refine codeAny_mono ((F _ hKb (nsK hns)).run callerA [] s₁ H ⟨[.ref a], []⟩ [.ref a] [.ref a] _ _ hr e0 (hbind s₁ (.ref a)) (.cons rfl .nil) (hsp H hO hS)) fun r s' h => ?_
    cases r with
    | error e => exact (hCX H e s' h).elim
    | ok fl =>
      cases fl with
      | next => exact False.elim h
      | brk => exact False.elim h
      | cont => exact False.elim h
      | ret u =>
        obtain ⟨v, H', os, bare, un, hok', r', q⟩ := h
        have q' : v = .bl true := q
        subst q'
        obtain rfl : u = Value.bool true := r'
        refine ⟨rfl, OldK.of_keep fun b o e => ?_, os, bare⟩
        cases q : H b with
        | none => exact un.keep b o e q (by intro z; exact absurd (show b ∈ ([] : List Addr) from z) (by simp)) (by simp)
        | some u =>
          rcases hO b with z | ⟨ob, xs, z⟩
          . rw [q] at z; cases z
          . have z2 := un.frzs b ob _ z
            obtain ⟨e1, _⟩ := hok b _ z
            obtain ⟨e2, _⟩ := hok' b _ z2
            rw [e] at e1; cases e1
            exact e2
  cases hk : K.lookup a with
  | some o =>
    have e := KX a o hk
    rw [ha] at e
    cases e
    refine core (fun _ => none) (fun _ => .inl rfl) (.inr ⟨_, vs.toArray, _, hk, rfl, rfl, rfl, by rw [List.size_toArray, lenV]; exact hl, by simpa using rv⟩) (fun b u z => by have z' : (none : Option HO) = some u := z; cases z') (fun b z => absurd rfl z) fun z => absurd rfl z
  | none =>
    refine core (fun b => if b = a then some (.frz { cls := .type "list", data := .seq vs.toArray } (.lst (ns.map V.int))) else none) (fun b => ?_) (.inl (.inr ⟨{ cls := .type "list", data := .seq vs.toArray }, if_pos rfl⟩)) (fun b u z => ?_) (fun b z => ?_) fun _ => hk
    . by_cases hb : b = a
      . exact .inr ⟨_, _, if_pos hb⟩
      . exact .inl (if_neg hb)
    . by_cases hb : b = a
      . have z' := (if_pos hb).symm.trans z
        cases z'
        subst hb
        exact ⟨ha, by rw [List.length_map]; exact hl, vs, _, rv, ha⟩
      . have z' := (if_neg hb).symm.trans z
        cases z'
    . by_cases hb : b = a
      . exact hb
      . exact absurd (if_neg hb) z
end L2
namespace L2
open PySem PySem.Spec PyProof.Rows
theorem wb1 {l : PySem.W.OpenLaw} {n k : Nat} {q : Program} {loose : List Str} {XP : (Str -> Option Value) -> Heap -> Prop} {YP : World -> Heap -> Prop} {d : DefRec} {K : Params -> PySem.W.Frag} {CX : World -> CXT} {sp : World -> Sp} {x : Str}
    (hn : l.most = some n) (hn2 : n <= sizeLine) (hdf : d.params.defaults = []) (hr : Room k callerA)
    (hY : ∀ (w : World) (h : Heap), YP w h -> (K w.params).In h)
    (F : ∀ (w : World) (mg : Str -> Option Value) (fa : Addr) (h : Heap), (K w.params).In h -> h.Ns mainGlobals mg -> mg d.name = some (.ref fa) ->
      ∃ fd : FuncData, (∀ (s : Shared) (u : Value), BindsTo s fd ⟨[u], []⟩ [(x, u)]) /\
        ∀ base : Heap, (K w.params).In base -> base.Ns mainGlobals mg -> FnOk l.prog w (K w.params) mg base (CX w) k fa fd [x] (sp w))
    (hsp : ∀ (w : World) (H : Hp) (a : Addr) (ns : List Int), ns.length <= n -> xx8 H -> SqL (K w.params) H a (ns.map V.int) -> sp w [.ref a] H (fun v _ => v = .bl true) fun _ _ _ => False)
    (hCX : ∀ (w : World) (H : Hp) (s : Shared) (e : Value) (s' : Shared), CX w [] H s (fun _ _ _ => False) e s' -> False) :
    PySem.W.WalkO q loose XP YP l.row.toRowW d [] (fun f vs => PySem.call f vs) := by
  refine Att.attach_call hn hdf fun w s₀ s₁ mg mb fa o pm cd doc a vs ns G Y ho hd hcd hmg hobj hints hlen hg => ?_
  have KX := hY w _ Y
  obtain ⟨fd, hb, hF⟩ := F w mg fa _ KX G.T.g hmg
  exact xu6 KX G.T.g G.T.b G.T.builtins G.T.nolimit hg hobj hints (Nat.le_trans hlen hn2) hr hF hb (fun H hO hS => hsp w H a ns hlen hO hS) fun H e s' => hCX w H s₁ e s'
end L2
namespace L2
open PySem PySem.Spec PyProof.Rows
noncomputable def zw9 (s : Stmt) (j : Nat) : Stmt := match s with
  | .ClassDef _ _ _ body _ _ _ _ _ _ _ => body.getD j (.Pass ⟨0, 0, 0, 0⟩)
  | _ => .Pass ⟨0, 0, 0, 0⟩
noncomputable def zf1 (s : Stmt) : Arguments := match s with
  | .FunctionDef _ a _ _ _ _ _ _ _ _ => a
  | _ => { posonlyargs := [], args := [], vararg := none, kwonlyargs := [], kw_defaults := [], kwarg := none, defaults := [] }
noncomputable def ze1 (s : Stmt) : List Stmt := match s with
  | .FunctionDef _ _ b _ _ _ _ _ _ _ => b
  | _ => []
noncomputable def za8 (s : Stmt) : Scope := match s with
  | .FunctionDef _ _ _ _ _ _ sc _ _ _ => sc
  | _ => { kind := .function, names := [], isGenerator := false, isCoroutine := false }
noncomputable abbrev CX0 : CXT := fun _ _ _ _ _ _ => False
noncomputable abbrev E0 : XK := fun _ _ _ => False
theorem yq0 {X : Cx} : zy0 CX0 X E0 := fun _ _ _ _ _ _ _ h => h.elim
structure Fun (K : PySem.W.Frag) (x qual : Str) (st : Stmt) (f : Addr) (fd : FuncData) : Prop where
  ex : ∃ (oc : Value) (od : Option Addr) (kV doc pm : Value) (an : Option Addr) (cdv ct : Value) (osl : Array (Option Value)),
    fd = PySem.W.fnOf x qual (zf1 st) (ze1 st) (za8 st) .none kV doc pm an cdv ct /\ K.lookup f = some ⟨oc, od, .func fd, osl⟩ /\ PySem.W.codeIn K cdv qual = true
  kp : PySem.W.keepIn K (.ref f) = true
section
variable {P : Program} {w : World} {K : PySem.W.Frag} {mg : Str -> Option Value} {base : Heap}
theorem Fun.ok {x qual : Str} {st : Stmt} {f : Addr} {fd : FuncData} {N ps : List Str} {k : Nat} {sp : Sp} (F : Fun K x qual st f fd) (S : FnScope N ps (za8 st)) (len : ∀ vs H Q E, sp vs H Q E -> vs.length = ps.length)
    (hbody : ∀ (cdv : Value) (A : Around) (outer : List Env) (s : Shared) (H : Hp) (vs : List V) (Q : VK) (E : XK), Room k (A.deeper (envOfC qual (za8 st) s.heap.objs.size f cdv)) -> sp vs H Q E ->
      ∃ t, PSs (yd4 CX0 P w K mg base N qual (za8 st) f cdv A outer s H E).nox (ze1 st) t /\ t { nx := fun _ H' => Q .non H', rt := Q } (start N vs) H) : FnOk P w K mg base CX0 (k + 1) f fd ps sp := by
  obtain ⟨oc, od, kV, doc, pm, an, cdv, ct, osl, rfl, lk, hcd⟩ := F.ex
  refine wk4 lk hcd S len fun A outer s H vs Q E hr hsp => ?_
  obtain ⟨t, h, q⟩ := hbody cdv A outer s H vs Q E hr hsp
  exact ⟨t, h.nox, q⟩
theorem Fun.binds {x qual : Str} {st : Stmt} {f : Addr} {fd : FuncData} {ps : List Str} (F : Fun K x qual st f fd)
    (h : ∀ (kV doc pm : Value) (an : Option Addr) (cdv ct : Value) (us : List Value), us.length = ps.length -> bindArgs (PySem.W.fnOf x qual (zf1 st) (ze1 st) (za8 st) .none kV doc pm an cdv ct) ⟨us, []⟩ = pure (ps.zip us)) : zs9 K fd ps [] := by
  obtain ⟨oc, od, kV, doc, pm, an, cdv, ct, osl, rfl, lk, hcd⟩ := F.ex
  exact .all (h kV doc pm an cdv ct)
theorem zm6 {x qual : Str} {st : Stmt} {f : Addr} {oc : Value} {od an : Option Addr} {osl : Array (Option Value)} {kV doc pm cdv ct : Value} (l : K.lookup f = some ⟨oc, od, .func (PySem.W.fnOf x qual (zf1 st) (ze1 st) (za8 st) .none kV doc pm an cdv ct), osl⟩)
    (c : PySem.W.codeIn K cdv qual = true) (k : PySem.W.keepIn K (.ref f) = true) : Fun K x qual st f (PySem.W.fnOf x qual (zf1 st) (ze1 st) (za8 st) .none kV doc pm an cdv ct) := ⟨⟨oc, od, kV, doc, pm, an, cdv, ct, osl, rfl, l, c⟩, k⟩
end
theorem yy3 {n : Nat} (h : n <= 1000) : n < sizeLine := Nat.lt_of_le_of_lt h (by decide)
section
variable {X : Cx}
theorem pv (i : Nat) {x : Str} {pos : Pos} (hN : X.N[i]? = some x := by rfl) (hv : Vis X.env.scope x := by first | exact Or.inl rfl | exact Or.inr (Or.inl rfl) | exact Or.inr (Or.inr rfl)) (hd : (x == ("__debug__" : Str)) = false := by decide)
    (hcd : (x == ("__classdict__" : Str)) = false := by decide) : PE X (.Name x pos) (wi3 i) := zx6 hN hv hd hcd
end
theorem wm0 {c A B : Prop} [Decidable c] (h1 : c -> A) (h2 : ¬ c -> B) : if c then A else B := by
  by_cases h : c
  . rw [if_pos h]
    exact h1 h
  . rw [if_neg h]
    exact h2 h
noncomputable def zs1 (H H' : Hp) : Prop := ∀ b o, H b = some o -> H' b = some o
theorem zs1.refl (H : Hp) : zs1 H H := fun _ _ h => h
theorem zs1.trans {H H1 H2 : Hp} (a : zs1 H H1) (b : zs1 H1 H2) : zs1 H H2 := fun c o h => b c o (a c o h)
theorem zs1.free {H H' : Hp} (e : zs1 H H') {l : Addr} (h : H' l = Option.none) : H l = Option.none := by
  cases q : H l with
  | none => rfl
  | some o =>
    rw [e l o q] at h
    cases h
theorem zs1.seq {K : PySem.W.Frag} {H H' : Hp} {a : Addr} {xs : List V} (e : zs1 H H') (h : SqL K H a xs) : SqL K H' a xs := by
  rcases h with (h | ⟨o, h⟩) | h
  . exact .inl (.inl (e _ _ h))
  . exact .inl (.inr ⟨o, e _ _ h⟩)
  . exact .inr h
end L2
namespace L2
open PySem PySem.Spec PyProof.Rows
section
variable {κ : Type} [DecidableEq κ]
noncomputable def zy4 (kvs : List (κ × V)) (k : κ) : Option V := (kvs.find? fun kv => decide (kv.1 = k)).map (·.2)
noncomputable def yj8 (kvs : List (κ × V)) (k : κ) (v : V) : List (κ × V) :=
  if (kvs.any fun kv => decide (kv.1 = k)) = true then kvs.map (fun kv => if kv.1 = k then (kv.1, v) else kv) else kvs ++ [(k, v)]
noncomputable def xz0 (kvs : List (κ × V)) (k : κ) : List (κ × V) := kvs.filter fun kv => decide (kv.1 ≠ k)
theorem yn4 {p : κ × V} {r : List (κ × V)} {k : κ} (e : p.1 = k) : zy4 (p :: r) k = some p.2 := by simp [zy4, List.find?_cons, e]
theorem yn5 {p : κ × V} {r : List (κ × V)} {k : κ} (e : ¬ p.1 = k) : zy4 (p :: r) k = zy4 r k := by simp [zy4, List.find?_cons, e]
theorem xb8 (k : κ) : ∀ kvs : List (κ × V), (kvs.any fun kv => decide (kv.1 = k)) = (zy4 kvs k).isSome
  | [] => rfl
  | p :: r => by
    rw [List.any_cons]
    by_cases e : p.1 = k
    . simp only [yn4 e, decide_eq_true e, Bool.true_or, Option.isSome_some]
    . rw [yn5 e, decide_eq_false e, Bool.false_or]; exact xb8 k r
theorem zq9.isSome_eq {o : Option V} {u : Option Value} (r : zq9 o u) : o.isSome = u.isSome := by
  cases o with
  | none => cases u with
    | none => rfl
    | some _ => exact (show False from r).elim
  | some _ => cases u with
    | none => exact (show False from r).elim
    | some _ => rfl
theorem zq9.getD {o : Option V} {u : Option Value} {d : V} {d' : Value} (r : zq9 o u) (rd : ze0 d d') : ze0 (o.getD d) (u.getD d') := by
  cases o with
  | none => cases u with
    | none => exact rd
    | some _ => exact (show False from r).elim
  | some _ => cases u with
    | none => exact (show False from r).elim
    | some _ => exact r
theorem KV.val {kvs : List (κ × V)} {vs : List (κ × Value)} (r : KV kvs vs) (k : κ) : zq9 (zy4 kvs k) (valueAt vs k) := by
  unfold KV at r
  induction r with
  | nil => exact True.intro
  | @cons p q ps qs h t ih =>
    obtain ⟨h1, h2⟩ := h
    by_cases e : p.1 = k
    . have e' : q.1 = k := h1.symm.trans e
      have b : valueAt (q :: qs) k = some q.2 := by simp [valueAt, List.find?_cons, e']
      rw [yn4 e, b]; exact h2
    . have e' : ¬ q.1 = k := fun z => e (h1.trans z)
      have b : valueAt (q :: qs) k = valueAt qs k := by simp [valueAt, List.find?_cons, e']
      rw [yn5 e, b]; exact ih
theorem KV.any {kvs : List (κ × V)} {vs : List (κ × Value)} (r : KV kvs vs) (k : κ) : (kvs.any fun kv => decide (kv.1 = k)) = vs.any fun kv => decide (kv.1 = k) := by
  unfold KV at r
  induction r with
  | nil => rfl
  | cons h t ih => rw [List.any_cons, List.any_cons, ih, h.1]
theorem KV.repl {kvs : List (κ × V)} {vs : List (κ × Value)} (r : KV kvs vs) (k : κ) {y : V} {u : Value} (ry : ze0 y u) :
    KV (kvs.map fun kv => if kv.1 = k then (kv.1, y) else kv) (vs.map fun kv => if kv.1 = k then (kv.1, u) else kv) := by
  unfold KV at r |-
  induction r with
  | nil => exact .nil
  | @cons p q ps qs h t ih =>
    rw [List.map_cons, List.map_cons]
    refine .cons ?_ ih
    obtain ⟨h1, h2⟩ := h
    by_cases e : p.1 = k
    . rw [if_pos e, if_pos (h1.symm.trans e)]; exact ⟨h1, ry⟩
    . rw [if_neg e, if_neg (fun z => e (h1.trans z))]; exact ⟨h1, h2⟩
theorem KV.put {kvs : List (κ × V)} {vs : List (κ × Value)} (r : KV kvs vs) (k : κ) {y : V} {u : Value} (ry : ze0 y u) : KV (yj8 kvs k y) (stored vs k u) := by
  unfold yj8 stored
  rw [r.any k]
  by_cases e : (vs.any fun kv => decide (kv.1 = k)) = true
  . rw [if_pos e, if_pos e]; exact r.repl k ry
  . rw [if_neg e, if_neg e]; exact Paired.snoc r ⟨rfl, ry⟩
theorem KV.drop {kvs : List (κ × V)} {vs : List (κ × Value)} (r : KV kvs vs) (k : κ) : KV (xz0 kvs k) (without vs k) := by
  unfold KV at r |-
  unfold xz0 without
  induction r with
  | nil => exact .nil
  | @cons p q ps qs h t ih =>
    obtain ⟨h1, h2⟩ := h
    rw [List.filter_cons, List.filter_cons]
    by_cases e : p.1 = k
    . have a : ¬ decide (p.1 ≠ k) = true := by simp [e]
      have b : ¬ decide (q.1 ≠ k) = true := by simp [h1.symm.trans e]
      rw [if_neg a, if_neg b]; exact ih
    . have e' : ¬ q.1 = k := fun z => e (h1.trans z)
      have a : decide (p.1 ≠ k) = true := by simp [e]
      have b : decide (q.1 ≠ k) = true := by simp [e']
      rw [if_pos a, if_pos b]; exact .cons ⟨h1, h2⟩ ih
theorem KV.length {kvs : List (κ × V)} {vs : List (κ × Value)} (r : KV kvs vs) : kvs.length = vs.length := Paired.length r
end
noncomputable abbrev KT (H : Hp) : List (List Key × V) -> List (List Key × Addr × Value) -> Prop := Paired fun p q => p.1 = q.1 /\ H q.2.1 = some (.tup (p.1.map kV)) /\ ze0 p.2 q.2.2
theorem KT.val {H : Hp} {kvs : List (List Key × V)} {xs : List (List Key × Addr × Value)} (r : KT H kvs xs) (k : List Key) : zq9 (zy4 kvs k) ((atKey xs k).map (·.2)) := by
  induction r with
  | nil => exact True.intro
  | @cons p q ps qs h t ih =>
    obtain ⟨h1, _, h2⟩ := h
    by_cases e : p.1 = k
    . have e' : q.1 = k := h1.symm.trans e
      have b : atKey (q :: qs) k = some q.2 := by simp [atKey, List.find?_cons, e']
      rw [yn4 e, b]; exact h2
    . have e' : ¬ q.1 = k := fun z => e (h1.trans z)
      have b : atKey (q :: qs) k = atKey qs k := by simp [atKey, List.find?_cons, e']
      rw [yn5 e, b]; exact ih
theorem KT.repl {H : Hp} {kvs : List (List Key × V)} {xs : List (List Key × Addr × Value)} (r : KT H kvs xs) (k : List Key) {y : V} {u : Value} (ry : ze0 y u) :
    KT H (kvs.map fun kv => if kv.1 = k then (kv.1, y) else kv) (xs.map (putAt k u)) := by
  induction r with
  | nil => exact .nil
  | @cons p q ps qs h t ih =>
    rw [List.map_cons, List.map_cons]
    refine .cons ?_ ih
    obtain ⟨h1, h2, h3⟩ := h
    unfold putAt
    by_cases e : p.1 = k
    . rw [if_pos e, if_pos (h1.symm.trans e)]; exact ⟨h1, h2, ry⟩
    . rw [if_neg e, if_neg (fun z => e (h1.trans z))]; exact ⟨h1, h2, h3⟩
theorem KT.put {H : Hp} {kvs : List (List Key × V)} {xs : List (List Key × Addr × Value)} (r : KT H kvs xs) (k : List Key) {b : Addr} {y : V} {u : Value} (hb : H b = some (.tup (k.map kV))) (ry : ze0 y u) :
    KT H (yj8 kvs k y) (storedH xs k b u) := by
  have e : (kvs.any fun kv => decide (kv.1 = k)) = (atKey xs k).isSome := by
    rw [xb8, (r.val k).isSome_eq, Option.isSome_map]
  unfold yj8 storedH
  rw [e]
  by_cases q : (atKey xs k).isSome = true
  . rw [if_pos q, if_pos q]; exact r.repl k ry
  . rw [if_neg q, if_neg q]; exact Paired.snoc r ⟨rfl, hb, ry⟩
theorem KT.keeps {H H' : Hp} {kvs : List (List Key × V)} {xs : List (List Key × Addr × Value)} (r : KT H kvs xs) (ht : ∀ b ys, H b = some (.tup ys) -> H' b = some (.tup ys)) : KT H' kvs xs :=
  Paired.mapP r fun _ _ z => ⟨z.1, ht _ _ z.2.1, z.2.2⟩
noncomputable def xn4 (H : Hp) (a : Addr) (y : V) (r : Option V) : Prop :=
  (∃ kvs k, Rd H a (.dK kvs) /\ y = kV k /\ r = zy4 kvs k) \/ ∃ kvs k b, Rd H a (.dT kvs) /\ y = .ref b /\ H b = some (.tup (k.map kV)) /\ r = zy4 kvs k
noncomputable def xn5 (H : Hp) (a : Addr) (y v : V) (H' : Hp) : Prop :=
  (∃ kvs k, H a = some (.dK kvs) /\ y = kV k /\ kvs.length < sizeLine /\ H' = upd H a (.dK (yj8 kvs k v))) \/
  ∃ kvs k b, H a = some (.dT kvs) /\ y = .ref b /\ H b = some (.tup (k.map kV)) /\ kvs.length < sizeLine /\ H' = upd H a (.dT (yj8 kvs k v))
theorem xn4.k {H : Hp} {a : Addr} {kvs : List (Key × V)} {k : Key} (e : H a = some (.dK kvs)) : xn4 H a (kV k) (zy4 kvs k) := .inl ⟨kvs, k, .inl e, rfl, rfl⟩
theorem xn4.t {H : Hp} {a b : Addr} {kvs : List (List Key × V)} {k : List Key} (e : H a = some (.dT kvs)) (eb : H b = some (.tup (k.map kV))) : xn4 H a (.ref b) (zy4 kvs k) := .inr ⟨kvs, k, b, .inl e, rfl, eb, rfl⟩
theorem xn5.k {H : Hp} {a : Addr} {kvs : List (Key × V)} {k : Key} {v : V} (e : H a = some (.dK kvs)) (hl : kvs.length < sizeLine) : xn5 H a (kV k) v (upd H a (.dK (yj8 kvs k v))) := .inl ⟨kvs, k, e, rfl, hl, rfl⟩
theorem xn5.t {H : Hp} {a b : Addr} {kvs : List (List Key × V)} {k : List Key} {v : V} (e : H a = some (.dT kvs)) (eb : H b = some (.tup (k.map kV))) (hl : kvs.length < sizeLine) :
    xn5 H a (.ref b) v (upd H a (.dT (yj8 kvs k v))) := .inr ⟨kvs, k, b, e, rfl, eb, hl, rfl⟩
structure M1 (X : Cx) (o : Expr) (m : Str) (apos : Pos) (e : Expr) (cpos : Pos) : Prop where
  base : attributeBase o m X.env (eval o X.env) = eval o X.env
  few : ((backTo cpos (starEach [e] X.env)).all (fun x => !x.1) && (backToKw cpos (keywordEach [] X.env)).all (fun x => x.1.isSome)
    && decide (([e] : List Expr).length + ([] : List Keyword).length + (if ([] : List Keyword).isEmpty then 0 else 1) < 30)) = true
  line : (apos.endLine == cpos.line) = true
  trees : backTo cpos (starEach [e] X.env) = [(false, eval e X.env)]
structure M2 (X : Cx) (o : Expr) (m : Str) (apos : Pos) (e f : Expr) (cpos : Pos) : Prop where
  base : attributeBase o m X.env (eval o X.env) = eval o X.env
  few : ((backTo cpos (starEach [e, f] X.env)).all (fun x => !x.1) && (backToKw cpos (keywordEach [] X.env)).all (fun x => x.1.isSome)
    && decide (([e, f] : List Expr).length + ([] : List Keyword).length + (if ([] : List Keyword).isEmpty then 0 else 1) < 30)) = true
  line : (apos.endLine == cpos.line) = true
  trees : backTo cpos (starEach [e, f] X.env) = [(false, eval e X.env), (false, eval f X.env)]
end L2
namespace L2
open PySem PySem.Spec PyProof.Rows
structure Dn (K : PySem.W.Frag) (mg : Str -> Option Value) (x : Str) (st : Stmt) (ps : List Str) (f : Addr) (fd : FuncData) : Prop where
  F : Fun K x x st f fd
  b : zs9 K fd ps []
  m : mg x = some (.ref f)
section
variable {X : Cx} {x : Str} {st : Stmt} {ps : List Str} {f : Addr} {fd : FuncData} {k : Nat} {sp : Sp} {p pos : Pos} {e : Expr} {es : List Expr} {t : TA}
theorem xy3 (D : Dn X.K X.mg x st ps f fd) (G : FnOk X.prog X.w X.K X.mg X.base CX0 k f fd ps sp) (hr : Room k X.A) (hg : Gl X x) (ha : PA X (e :: es) t)
    (hdb : (x == ("__debug__" : Str)) = false := by decide) (he : starEach (e :: es) X.env = (false, eval e X.env) :: starEach es X.env := by rfl) (hpl : (backTo pos (starEach es X.env)).any (·.1) = false := by rfl) :
    PE X (.Call (.Name x p) (e :: es) [] pos) (xa9 sp [] E0 t) := wa6 G hr hg D.m D.F.kp D.b .nil yq0 ha hdb he hpl
theorem wg5 (D : Dn X.K X.mg x st ps f fd) (G : FnOk X.prog X.w X.K X.mg X.base CX0 k f fd ps sp) (hr : Room k X.A) (hg : Gl X x)
    (hdb : (x == ("__debug__" : Str)) = false := by decide) : PE X (.Call (.Name x p) [] [] pos) (xa9 sp [] E0 xn3) := xu1 G hr hg D.m D.F.kp D.b .nil yq0 hdb
end
theorem zs1.seqT {K : PySem.W.Frag} {H H' : Hp} {a : Addr} {xs : List V} (e : zs1 H H') (h : SqT K H a xs) : SqT K H' a xs := by
  rcases h with (h | ⟨o, h⟩) | h
  . exact .inl (.inl (e _ _ h))
  . exact .inl (.inr ⟨o, e _ _ h⟩)
  . exact .inr h
theorem xu7 {H : Hp} {p : Addr} (h : H p = none) (o : HO) : zs1 H (upd H p o) := fun b u q => by rw [zc6 (zs7 q h)]; exact q
theorem yk9 {n : Nat} (h : n <= 1000) : n <= sizeLine := Nat.le_of_lt (yy3 h)
noncomputable def ye8 (H : Hp) : V -> Option String
  | .non => some "NoneType"
  | .bl _ => some "bool"
  | .int _ => some "int"
  | .str _ => some "str"
  | .ref a => match H a with
    | some (.lst _) => some "list"
    | some (.frz _ (.lst _)) => some "list"
    | some (.tup _) => some "tuple"
    | some (.dK _) => some "dict"
    | _ => none
  | _ => none
noncomputable def ys2 (t c : String) : Bool := decide (t = c) || (decide (t = "bool") && decide (c = "int"))
noncomputable def kinds : List String := ["NoneType", "bool", "int", "str", "list", "tuple", "dict"]
theorem xb9 (K : PySem.W.Frag) : ∀ t ∈ kinds, ∀ c ∈ ["bool", "int", "str", "list", "tuple", "dict"], PySem.W.kitOne K (.type t) (.type c) = some (ys2 t c) := by
  intro t ht c hc
  simp only [kinds, List.mem_cons, List.not_mem_nil, or_false] at ht hc
  rcases ht with rfl | rfl | rfl | rfl | rfl | rfl | rfl <;> rcases hc with rfl | rfl | rfl | rfl | rfl | rfl <;> rfl
theorem xp9 {K : PySem.W.Frag} {H : Hp} {x : V} {t : String} (h : ye8 H x = some t) : TyOf K H x (.type t) /\ t ∈ kinds := by
  cases x with
  | non => cases h; exact ⟨.non, by decide⟩
  | bl b => cases h; exact ⟨.bl b, by decide⟩
  | int i => cases h; exact ⟨.int i, by decide⟩
  | str x => cases h; exact ⟨.str x, by decide⟩
  | ref a =>
    have h' : (match H a with
      | some (.lst _) => some "list"
      | some (.frz _ (.lst _)) => some "list"
      | some (.tup _) => some "tuple"
      | some (.dK _) => some "dict"
      | _ => none) = some t := h
    cases e : H a with
    | none => rw [e] at h'; cases h'
    | some o =>
      rw [e] at h'
      cases o with
      | lst xs => cases h'; exact ⟨.lst e, by decide⟩
      | tup xs => cases h'; exact ⟨.tup e, by decide⟩
      | dK kvs => cases h'; exact ⟨.dK e, by decide⟩
      | frz ob u =>
        cases u with
        | lst xs => cases h'; exact ⟨.frz e, by decide⟩
        | _ => cases h'
      | _ => cases h'
  | _ => cases h
section
variable {X : Cx}
theorem xu8 : zi0 X (.builtin "isinstance") (fun xs H Q => ∃ x c t, xs = [x, .ty c] /\ ye8 H x = some t /\ c ∈ ["bool", "int", "str", "list", "tuple", "dict"] /\ Q (.bl (ys2 t c)) H) := by
  intro pins s σ H xs us Q I r h
  obtain ⟨x, c, t, rfl, ht, hc, q⟩ := h
  obtain ⟨u, v, rfl, rx, rc⟩ := xj6 r
  cases (show v = Value.type c from rc)
  obtain ⟨ty, hk⟩ := xp9 (K := X.K) ht
  exact xo9 I rx ty (xb9 X.K t hk c hc) fun tk => ⟨.bl (ys2 t c), H, I.tok tk, rfl, q⟩
theorem xc0 : ∀ {ns : List Int} {us : List Value}, zc3 (ns.map V.int) us -> IntsAre us ns
  | [], _, .nil => .nil
  | n :: ns, _, .cons r t => by
    obtain ⟨k, rfl⟩ := r
    exact .cons n k (xc0 t)
theorem xq0 (hc : X.calm = true) : zi0 X (.builtin "sum") (fun xs H Q => ∃ (a : Addr) (ns : List Int), xs = [.ref a] /\ SqL X.K H a (ns.map V.int) /\ Q (.int ns.sum) H) := by
  intro pins s σ H xs us Q I r h
  obtain ⟨a, ns, rfl, hq, q⟩ := h
  obtain ⟨u, rfl, rx⟩ := yf3 r
  cases (show u = Value.ref a from rx)
  obtain ⟨its, rv, p, hz⟩ := I.list hq
  have hi := xc0 rv
  obtain ⟨xs, hx⟩ := hi.allInts.items
  have hl' : s.heap.IsList a (intItems xs) := hx ▸ p.isList
  refine sum_intListG (I.ok.hd hc) hl' fun h' tk t' hk => ?_
  have e1 : ns = xs.toList.map (·.1) := by
    rw [<- nums_intItems, <- hx]
    exact (show numsOf its.toArray.toList = ns from hi.numsOf).symm
  have e2 : preSum (numAt xs) xs.size = ns.sum := by
    rw [preSum_eq, List.take_of_length_le (by simp), e1]
  rw [e2]
  exact ⟨.int ns.sum, H, I.kept hk, ⟨_, rfl⟩, q⟩
end
end L2
namespace L2
open PySem PySem.Spec PyProof.Rows
theorem yf4 {env : Env} : ∀ (names : List (Str × NameKind)) (cs : List (Str × Addr)),
    (∀ y ∈ names, y.2 = .free -> ∃ c, env.cells.lookup y.1 = some c) -> (∀ x c, cs.lookup x = some c -> env.cells.lookup x = some c) ->
    ∃ cl, (forIn names cs fun (y : Str × NameKind) (r : List (Str × Addr)) =>
        (if (y.2 == .free) = true then (do let a <- cellOf env y.1; pure (ForInStep.yield ((y.1, a) :: r))) else pure (ForInStep.yield r) : Sem (ForInStep (List (Str × Addr))))) = pure cl /\
      (∀ x c, cl.lookup x = some c -> env.cells.lookup x = some c) /\ (∀ x c, cs.lookup x = some c -> ∃ c', cl.lookup x = some c') /\ (∀ y ∈ names, y.2 = .free -> ∃ c, cl.lookup y.1 = some c)
  | [], cs, _, hc => ⟨cs, rfl, hc, fun x c h => ⟨c, h⟩, fun y hy => absurd hy (List.not_mem_nil)⟩
  | (n, k) :: r, cs, hn, hc => by
    have hr : ∀ y ∈ r, y.2 = .free -> ∃ c, env.cells.lookup y.1 = some c := fun y hy => hn y (List.mem_cons_of_mem _ hy)
    by_cases hk : k = .free
    . subst hk
      obtain ⟨c, e⟩ := hn (n, .free) List.mem_cons_self rfl
      have hc' : ∀ x c', ((n, c) :: cs).lookup x = some c' -> env.cells.lookup x = some c' := fun x c' h => by
        rw [List.lookup_cons] at h
        cases hx : x == n with
        | true =>
          rw [hx] at h
          have e1 : x = n := by simpa using hx
          have e2 : c = c' := Option.some.inj h
          rw [e1, <- e2]; exact e
        | false => rw [hx] at h; exact hc x c' h
      obtain ⟨cl, h1, h2, h3, h4⟩ := yf4 (env := env) r ((n, c) :: cs) hr hc'
      refine ⟨cl, ?_, h2, fun x c' h => ?_, fun y hy hf => ?_⟩
      . rw [List.forIn_cons]
        have e0 : cellOf env n = pure c := by unfold cellOf; rw [e]
        simp only [e0]
        exact h1
      . cases hx : x == n with
        | true =>
          have e1 : x = n := by simpa using hx
          exact h3 x c (by rw [List.lookup_cons, hx])
        | false => exact h3 x c' (by rw [List.lookup_cons, hx]; exact h)
      . rcases List.mem_cons.mp hy with e1 | hy
        . rw [e1]; exact h3 n c (by rw [List.lookup_cons]; simp)
        . exact h4 y hy hf
    . obtain ⟨cl, h1, h2, h3, h4⟩ := yf4 (env := env) r cs hr hc
      refine ⟨cl, ?_, h2, h3, fun y hy hf => ?_⟩
      . rw [List.forIn_cons]
        have e0 : (k == NameKind.free) = false := by simpa using hk
        simp only [e0]
        exact h1
      . rcases List.mem_cons.mp hy with e1 | hy
        . rw [e1] at hf; exact absurd hf hk
        . exact h4 y hy hf
theorem xk4 {env : Env} {scope : Scope} (h : ∀ y ∈ scope.names, y.2 = .free -> ∃ c, env.cells.lookup y.1 = some c) :
    ∃ cl, closureFor scope env = pure cl /\ (∀ x c, cl.lookup x = some c -> env.cells.lookup x = some c) /\ (∀ y ∈ scope.names, y.2 = .free -> ∃ c, cl.lookup y.1 = some c) := by
  obtain ⟨cl, h1, h2, _, h4⟩ := yf4 (env := env) scope.names [] h (fun x c e => by simp at e)
  refine ⟨cl, ?_, h2, h4⟩
  have e : ((forIn scope.names [] fun (y : Str × NameKind) (r : List (Str × Addr)) =>
        (if (y.2 == .free) = true then (do let a <- cellOf env y.1; pure (ForInStep.yield ((y.1, a) :: r))) else pure (ForInStep.yield r) : Sem (ForInStep (List (Str × Addr))))) >>= fun s => pure s) = pure cl := by rw [h1]; rfl
  exact e
structure CScope (sc : Scope) (NX N : List Str) (pick : List (Option Nat)) (scope : Scope) : Prop where
  kind : scope.kind = .function
  nocell : ∀ y ∈ scope.names, y.2 ≠ .cell
  names : ∀ y ∈ scope.names, y.2 = .local -> scope.names.lookup y.1 = some .local
  frees : ∀ y ∈ scope.names, y.2 = .free -> sc.names.lookup y.1 = some .cell \/ sc.names.lookup y.1 = some .free
  pk : ∀ p ∈ N.zip pick, ∀ j ∈ p.2, NX[j]? = some p.1 /\ scope.names.lookup p.1 = some .free
  nd : N.Nodup
  len : pick.length = N.length
noncomputable def zy5 (pick : List (Option Nat)) (σ : St) : St := pick.map fun o => o.bind fun j => (σ[j]?).join
noncomputable def cxB (X : Cx) (N : List Str) (scope : Scope) (cl : List (Str × Addr)) (fp : List Addr) (s : Shared) (H : Hp) : Cx where
  prog := X.prog
  w := X.w
  K := X.K
  mg := X.mg
  base := X.base
  A := X.A
  N := N
  s₀ := s
  H₀ := H
  env := compEnvC scope cl s.heap.objs.size X.env
  outer := X.stack
  stack := X.stack
  ex := fp
  fn := fun _ => false
  calm := X.calm
  pn := []
  xe := fun _ _ => False
noncomputable def PTs (X : Cx) (ifs : List Expr) (t : TT) : Prop :=
  ∀ (pins : List (Addr × Obj)) (s : Shared) (σ : St) (H : Hp) (Q : Bool -> Hp -> Prop), Inv X pins σ H s -> t σ H Q ->
    wpAny (model X.prog X.w) X.A (forIn ifs true fun c r => if r = true then do let ok <- isTrue c X.env (eval c X.env); pure (ForInStep.yield ok) else pure (ForInStep.yield r)) (TP X pins σ Q) X.xe s
noncomputable def wo6 : TT := fun _ H Q => Q true H
theorem wg6 {X : Cx} : PTs X [] wo6 := fun pins s σ H Q I h => wpAny_tests_nil ⟨H, I, h⟩
section
variable {prog : Program} {w : World} {A : Around} {R : Result -> Shared -> Prop} {s : Shared}
theorem xq1 {elt target iter : Expr} {ifs : List Expr} {scope : Scope} {pos : Pos} {it acc : Value} {env : Env} (I : Nat -> Shared -> Prop)
    (turn : ∀ n s, I n s -> wpAny (model prog w) A (pyNext it) (fun r s1 => match r with
      | none => R (.ok .next) s1
      | some v => wpAny (model prog w) A (letOwnedTupleGo target it v) (fun _ s1 => wpAny (model prog w) A (assign target env v) (fun _ s2 =>
          wpAny (model prog w) A (forIn ifs true fun c r => if r = true then do let ok <- isTrue c env (eval c env); pure (ForInStep.yield ok) else pure (ForInStep.yield r)) (fun ok s3 =>
            if ok = true then wpAny (model prog w) A (eval elt env) (fun x s4 =>
              wpAny (model prog w) A (call (.builtin "list.append") [acc, x]) (fun _ s5 => ∃ m, m < n /\ I m s5) (fun _ _ => False) s4) (fun _ _ => False) s3
            else ∃ m, m < n /\ I m s3) (fun _ _ => False) s2) (fun _ _ => False) s1) (fun _ _ => False) s1) (fun _ _ => False) s)
    (n : Nat) (h : I n s) : codeAny (model prog w) A (.compLoop (.ListComp elt [⟨target, iter, ifs, 0⟩] scope pos) 0 it acc env) R s := by
  refine codeAny_loop rfl I (fun n s hI => ?_) n h
  show wpAny _ A ((compTurn (.ListComp elt [⟨target, iter, ifs, 0⟩] scope pos) 0 it acc env).onRaise (fun x => do noteFrame x env; theTreesLotGoes x)) _ _ s
  refine wpAny_noted ?_
  rw [compTurn_list]
  refine wpAny_bind (wpAny_standAt (wpAny_bind (wpAny_mono (turn n s hI) (fun r s1 h1 => ?_) fun _ _ z => z.elim)))
  cases r with
  | none => exact wpAny_pure h1
  | some v =>
    refine wpAny_bind (wpAny_mono h1 (fun _ s1 h1 => wpAny_bind (wpAny_mono h1 (fun _ s2 h2 => wpAny_bind (wpAny_mono h2 (fun ok s3 h3 => ?_) fun _ _ z => z.elim)) fun _ _ z => z.elim)) fun _ _ z => z.elim)
    cases ok with
    | false => exact wpAny_pure ⟨rfl, h3⟩
    | true =>
      exact wpAny_bind (wpAny_bind (wpAny_mono h3 (fun x s4 h4 => wpAny_bind (wpAny_mono h4 (fun _ s5 h5 => wpAny_pure (wpAny_pure ⟨rfl, h5⟩)) fun _ _ z => z.elim)) fun _ _ z => z.elim))
end
noncomputable def wj1 (pick : List (Option Nat)) (wi : TI) (g : TG) (tt : TT) (te : TE) (σ : St) (H : Hp) (Q : Addr -> Hp -> Prop) : Prop := wi σ H fun J H1 => ∀ D, H1 D = none ->
  ∃ W : Nat -> Nat -> St -> Hp -> Prop, (∃ m, W 0 m (zy5 pick σ) (upd H1 D (.lst []))) /\ ∀ i m σ' H', W i m σ' H' ->
    (J.stop i H' /\ Q D H') \/ (J.go i H' /\ ∀ x H2, J.yld i H' x H2 -> g x σ' H2 fun σ3 H3 => tt σ3 H3 fun b H4 =>
      if b = true then te σ3 H4 fun y H5 => ∃ ys, H5 D = some (.lst ys) /\ ys.length < sizeLine /\ ∃ m', m' < m /\ W (i + 1) m' σ3 (upd H5 D (.lst (ys ++ [y]))) else ∃ m', m' < m /\ W (i + 1) m' σ3 H4)
noncomputable def wl7 (pick : List (Option Nat)) (wi : TI) (g : TG) (tt : TT) (te : TE) : TE := fun σ H Q => wj1 pick wi g tt te σ H fun D H' => Q (.ref D) H'
section
variable {X : Cx} {sc : Scope} {NX N : List Str} {pick : List (Option Nat)} {elt tg iter : Expr} {ifs : List Expr} {scope : Scope} {pos : Pos} {wi : TI} {g : TG} {tt : TT} {te : TE}
theorem zn9 {env : Env} : ∀ {names : List (Str × NameKind)} {x : Str} {k : NameKind}, (∀ y ∈ names, y.2 ≠ .cell) ->
    (names.map fun (n, k) => if (k == NameKind.free && env.scope.kind == .function && env.kindOf n == some .cell) then (n, NameKind.cell) else (n, k)).lookup x = some k -> (k = .cell \/ k = .free) -> (x, NameKind.free) ∈ names
  | [], _, _, _, h, _ => by simp at h
  | (n, k0) :: r, x, k, hn, h, hk => by
    have hr : ∀ y ∈ r, y.2 ≠ .cell := fun y hy => hn y (List.mem_cons_of_mem _ hy)
    have h' : List.lookup x ((if (k0 == NameKind.free && env.scope.kind == .function && env.kindOf n == some .cell) = true then (n, NameKind.cell) else (n, k0)) :: (r.map fun (n, k) => if (k == NameKind.free && env.scope.kind == .function && env.kindOf n == some .cell) then (n, NameKind.cell) else (n, k))) = some k := h
    by_cases hc : (k0 == NameKind.free && env.scope.kind == .function && env.kindOf n == some .cell) = true
    . rw [if_pos hc, List.lookup_cons] at h'
      cases hx : x == n with
      | true =>
        have e1 : x = n := by simpa using hx
        have e2 : k0 = .free := by
          simp only [Bool.and_eq_true, beq_iff_eq] at hc
          exact hc.1.1
        rw [e1, e2]; exact List.mem_cons_self
      | false => rw [hx] at h'; exact List.mem_cons_of_mem _ (zn9 hr h' hk)
    . rw [if_neg hc, List.lookup_cons] at h'
      cases hx : x == n with
      | true =>
        rw [hx] at h'
        have e1 : x = n := by simpa using hx
        have e2 : k0 = k := Option.some.inj h'
        have e3 : k0 = .free := by
          rcases hk with z | z
          . exact absurd (e2.trans z) (hn (n, k0) List.mem_cons_self)
          . exact e2.trans z
        rw [e1, e3]; exact List.mem_cons_self
      | false => rw [hx] at h'; exact List.mem_cons_of_mem _ (zn9 hr h' hk)
theorem yb9 {env : Env} : ∀ {names : List (Str × NameKind)} {x : Str}, names.lookup x = some .free ->
    (names.map fun (n, k) => if (k == NameKind.free && env.scope.kind == .function && env.kindOf n == some .cell) then (n, NameKind.cell) else (n, k)).lookup x = some .cell \/
    (names.map fun (n, k) => if (k == NameKind.free && env.scope.kind == .function && env.kindOf n == some .cell) then (n, NameKind.cell) else (n, k)).lookup x = some .free
  | [], _, h => by simp at h
  | (n, k0) :: r, x, h => by
    have ih := @yb9 env r x
    show List.lookup x ((if (k0 == NameKind.free && env.scope.kind == .function && env.kindOf n == some .cell) = true then (n, NameKind.cell) else (n, k0)) :: _) = _ \/ List.lookup x ((if (k0 == NameKind.free && env.scope.kind == .function && env.kindOf n == some .cell) = true then (n, NameKind.cell) else (n, k0)) :: _) = _
    rw [List.lookup_cons] at h
    cases hx : x == n with
    | true =>
      rw [hx] at h
      have e : k0 = .free := Option.some.inj h
      subst e
      by_cases hc : (NameKind.free == NameKind.free && env.scope.kind == .function && env.kindOf n == some .cell) = true
      . rw [if_pos hc]; left; rw [List.lookup_cons, hx]
      . rw [if_neg hc]; right; rw [List.lookup_cons, hx]
    | false =>
      rw [hx] at h
      rcases ih h with z | z
      . left
        by_cases hc : (k0 == NameKind.free && env.scope.kind == .function && env.kindOf n == some .cell) = true
        . rw [if_pos hc, List.lookup_cons, hx]; exact z
        . rw [if_neg hc, List.lookup_cons, hx]; exact z
      . right
        by_cases hc : (k0 == NameKind.free && env.scope.kind == .function && env.kindOf n == some .cell) = true
        . rw [if_pos hc, List.lookup_cons, hx]; exact z
        . rw [if_neg hc, List.lookup_cons, hx]; exact z
theorem xq2 {pins : List (Addr × Obj)} {σ : St} {H : Hp} {s : Shared} {cl : List (Str × Addr)} {fp : List Addr} {h' : Heap} {tk : Nat} (S : CScope sc NX N pick scope) (hsc : X.env.scope = sc) (hNX : X.N = NX)
    (I : Inv X pins σ H s) (hf : ∀ b ∈ fp, yb3 X pins H b) (ho : ∀ b ∈ fp, ∃ o, s.heap.get? b = some o)
    (c1 : ∀ x c, cl.lookup x = some c -> X.env.cells.lookup x = some c) (c2 : ∀ y ∈ scope.names, y.2 = .free -> ∃ c, cl.lookup y.1 = some c)
    (hns : h'.Ns s.heap.objs.size fun _ => none) (hk : ∀ b o, s.heap.get? b = some o -> h'.get? b = some o) :
    Inv (cxB X N scope cl fp s H) [] (zy5 pick σ) H { s with heap := h', toks := tk } := by
  have lt : ∀ b ∈ fp, b < s.heap.objs.size := fun b hb => by obtain ⟨o, e⟩ := ho b hb; exact Heap.lt_size e
  refine ⟨⟨I.ok.mod, S.kind, I.ok.glob, I.ok.blt, Nat.le_refl _, fun x y c h1 h2 => I.ok.inj x y c (c1 x c h1) (c1 y c h2), fun x hx => ?_, fun x c z => absurd z (by simp [cxB]), I.ok.hd, I.ok.frames, .inl rfl,
    fun b hb => ⟨Nat.ne_of_lt (lt b hb), fun x c e => (hf b hb).2.2.2.2.1 x c (c1 x c e)⟩, I.bs, Nat.le_trans I.ok.bsz I.sz, fun b o e hb => ?_, fun b hb z => ?_, I.stack, I.stkFree⟩,
    rfl, I.bare, Un.kept hk, ⟨_, hns, fun i x v h1 h2 h3 => ?_⟩, fun x c e => ?_, I.hok.fresh (Nat.le_refl _), fun x c e => I.freeC x c (c1 x c e), fun p hp => absurd (show p ∈ ([] : List (Addr × Obj)) from hp) (by simp), I.hok.kept hk, ?_⟩
  . have hx' : (relabel scope X.env).names.lookup x = some .cell \/ (relabel scope X.env).names.lookup x = some .free := hx
    have hm : (x, NameKind.free) ∈ scope.names := by
      rcases hx' with z | z
      . exact zn9 S.nocell z (.inl rfl)
      . exact zn9 S.nocell z (.inr rfl)
    exact c2 _ hm rfl
  . rcases (hf b hb).2.2.2.1 with z | z
    . exact I.ok.noex b o e z
    . exact absurd (Nat.lt_of_lt_of_le (Heap.lt_size e) (Nat.le_trans I.ok.bsz z)) (Nat.lt_irrefl _)
  . rcases List.mem_cons.mp (I.stkSub b z) with z | z
    . exact (hf b hb).2.1 z
    . exact (hf b hb).2.2.1 z
  ·
    have hN' : N[i]? = some x := h1
    have h2' : (zy5 pick σ)[i]? = some (some v) := h2
    unfold zy5 at h2'
    rw [List.getElem?_map] at h2'
    cases ep : pick[i]? with
    | none => rw [ep] at h2'; cases h2'
    | some o =>
      rw [ep] at h2'
      cases o with
      | none => cases h2'
      | some j =>
        have h4 : (σ[j]?).join = some v := Option.some.inj h2'
        have h5 : σ[j]? = some (some v) := by
          cases e : σ[j]? with
          | none => rw [e] at h4; cases h4
          | some q => rw [e] at h4; exact congrArg some h4
        have hz : (x, some j) ∈ N.zip pick := by
          refine List.mem_of_getElem? (i := i) ?_
          rw [List.getElem?_zip_eq_some]; exact ⟨hN', ep⟩
        obtain ⟨h6, h7⟩ := S.pk _ hz j rfl
        have hfr : (x, NameKind.free) ∈ scope.names := PySem.mem_of_lookup h7
        have hcf := S.frees _ hfr rfl
        have hcf' : X.env.kindOf x = some .cell \/ X.env.kindOf x = some .free := by
          show X.env.scope.names.lookup x = _ \/ X.env.scope.names.lookup x = _
          rw [hsc]; exact hcf
        obtain ⟨m, hn, hl⟩ := I.loc
        obtain ⟨u, ru, lk⟩ := hl j x v (by rw [hNX]; exact h6) h5 (.inr hcf')
        refine ⟨u, ru, .inr ⟨yb9 h7, ?_⟩⟩
        obtain ⟨c, ec⟩ := c2 _ hfr rfl
        refine ⟨c, ec, ?_⟩
        rcases lk with ⟨k1, _⟩ | ⟨_, c', ec', hcell⟩
        . rcases hcf' with z | z
          . rw [k1] at z; cases z
          . rw [k1] at z; cases z
        . have e' := c1 x c ec
          rw [ec'] at e'
          cases e'
          obtain ⟨o, e1, e2⟩ := hcell
          exact ⟨o, hk _ _ e1, e2⟩
  . obtain ⟨v, o, e1, e2⟩ := I.cell x c (c1 x c e)
    exact ⟨v, o, hk _ _ e1, e2⟩
  . show (zy5 pick σ).length = N.length
    unfold zy5
    rw [List.length_map]; exact S.len
theorem xk5 {pins : List (Addr × Obj)} {σ σ' : St} {H H' : Hp} {s s' : Shared} {cl : List (Str × Addr)} {fp : List Addr} (I : Inv X pins σ H s) (hf : ∀ b ∈ fp, yb3 X pins H b)
    (J : Inv (cxB X N scope cl fp s H) [] σ' H' s') : Inv X pins σ H' s' :=
  I.call' (ch := fp) J.os J.base J.hok J.bare fun b hb => ⟨(hf b hb).2.2.2.1, (hf b hb).2.1, (hf b hb).2.2.2.2.1, (hf b hb).2.2.2.2.2⟩
theorem xk6 {pins : List (Addr × Obj)} {σ : St} {H2 : Hp} {s2 : Shared} {cl : List (Str × Addr)} {J : It} {fp : List Addr} {it : Addr} {tn : Nat -> Heap -> Prop} {RR : Value -> Addr -> Result -> Shared -> Prop} {E : Value -> Shared -> Prop} {Q : Addr -> Hp -> Prop}
    (S : CScope sc NX N pick scope) (hsc : X.env.scope = sc) (hNX : X.N = NX) (hc : X.calm = true)
    (hg : ∀ cl fp s H, PG (cxB X N scope cl fp s H) tg g) (ht : ∀ cl fp s H, PTs (cxB X N scope cl fp s H) ifs tt) (he : ∀ cl fp s H, PE (cxB X N scope cl fp s H) elt te)
    (I2 : Inv X pins σ H2 s2) (T : Turn X.prog X.w X.K tg J fp it tn) (st2 : tn 0 s2.heap) (f2 : ∀ b ∈ fp, yb3 X pins H2 b)
    (c1 : ∀ x c, cl.lookup x = some c -> X.env.cells.lookup x = some c) (c2 : ∀ y ∈ scope.names, y.2 = .free -> ∃ c, cl.lookup y.1 = some c)
    (q : ∀ D, H2 D = none -> ∃ W : Nat -> Nat -> St -> Hp -> Prop, (∃ m, W 0 m (zy5 pick σ) (upd H2 D (.lst []))) /\ ∀ i m σ' H', W i m σ' H' ->
      (J.stop i H' /\ Q D H') \/ (J.go i H' /\ ∀ x H2, J.yld i H' x H2 -> g x σ' H2 fun σ3 H3 => tt σ3 H3 fun b H4 =>
        if b = true then te σ3 H4 fun y H5 => ∃ ys, H5 D = some (.lst ys) /\ ys.length < sizeLine /\ ∃ m', m' < m /\ W (i + 1) m' σ3 (upd H5 D (.lst (ys ++ [y]))) else ∃ m', m' < m /\ W (i + 1) m' σ3 H4))
    (fin : ∀ D C H' s', Inv X pins σ H' s' -> H' C = none -> X.s₀.heap.objs.size <= C -> C ≠ X.env.locals -> (∀ x c, X.env.cells.lookup x = some c -> c ≠ C) -> (∀ p ∈ X.pn ++ pins, p.1 ≠ C) -> (∃ m, s'.heap.Ns C m) -> Q D H' -> RR (.ref D) C (.ok .next) s') :
    wpAny (model X.prog X.w) X.A (newList []) (fun acc s3 => wpAny (model X.prog X.w) X.A (newFunctionEnv scope X.env.globals cl [] X.env.qual none .none (some X.env)) (fun cenv s4 =>
      codeAny (model X.prog X.w) X.A (.compStart (.ListComp elt [⟨tg, iter, ifs, 0⟩] scope pos) 0 (.ref it) acc { cenv with scope := relabel scope X.env }) (RR acc cenv.locals) s4) E s3) E s2 := by
  have hD : H2 s2.heap.objs.size = none := I2.hok.fresh (Nat.le_refl _)
  obtain ⟨W, ⟨m0, w0⟩, turn⟩ := q _ hD
  refine wpAny_newObj_type (wpAny_newFunctionEnv S.nocell (by intro y hy; simp at hy) (fun h1 hns hsb => ?_) S.kind)
  have I3 : Inv X pins σ (upd H2 s2.heap.objs.size (.lst [])) { s2 with heap := s2.heap.push { cls := .type "list", dict := none, data := .seq ([] : List Value).toArray } } :=
    I2.lnew (t' := s2.toks) (its := []) (ys := []) .nil (Nat.zero_le _)
  have ne : ∀ b ∈ fp, b ≠ s2.heap.objs.size := fun b hb z => by
    obtain ⟨o, e, _⟩ := T.obj _ _ st2 b hb
    exact absurd (Heap.lt_size e) (by rw [z]; exact Nat.lt_irrefl _)
  have f3 : ∀ b ∈ fp, yb3 X pins (upd H2 s2.heap.objs.size (.lst [])) b := fun b hb => ⟨by rw [zc6 (ne b hb)]; exact (f2 b hb).1, (f2 b hb).2⟩
  have ho3 : ∀ b ∈ fp, ∀ o, s2.heap.get? b = some o -> (s2.heap.push { cls := .type "list", dict := none, data := .seq ([] : List Value).toArray }).get? b = some o := fun b _ o e => Heap.get?_push_of_some _ e
  have st3 := T.keep _ _ _ st2 ho3
  generalize hH3 : s2.heap.push { cls := .type "list", dict := none, data := .seq ([] : List Value).toArray } = H3 at hns hsb I3 ho3 st3 |-
  dsimp only at hns hsb |-
  have hk : ∀ b o, H3.get? b = some o -> h1.get? b = some o := fun b o e => hsb.extBut b o (Nat.ne_of_lt (Heap.lt_size e)) (Heap.get?_push_of_some _ e)
  have B0 : Inv (cxB X N scope cl fp { s2 with heap := H3 } (upd H2 s2.heap.objs.size (.lst []))) [] (zy5 pick σ) (upd H2 s2.heap.objs.size (.lst [])) { s2 with heap := h1, toks := s2.toks + ([] : List (Str × Value)).length } :=
    xq2 (s := { s2 with heap := H3 }) S hsc hNX I3 f3 (fun b hb => by obtain ⟨o, e, _⟩ := T.obj _ _ st3 b hb; exact ⟨o, e⟩) c1 c2 hns hk
  have st4 : tn 0 h1 := T.keep _ _ _ st3 fun b _ o e => hk b o e
  have fpY : ∀ {H' : Hp}, (∀ b ∈ fp, H' b = none) -> ∀ b ∈ fp, yb3 (cxB X N scope cl fp { s2 with heap := H3 } (upd H2 s2.heap.objs.size (.lst []))) [] H' b := fun hn b hb =>
    ⟨hn b hb, (B0.ok.exf b hb).1, B0.ok.exfs b hb, .inl hb, (B0.ok.exf b hb).2, fun p hp => absurd (show p ∈ ([] : List (Addr × Obj)) from hp) (by simp)⟩
  have loop : ∀ s4 : Shared, s4 = { s2 with heap := h1, toks := s2.toks + ([] : List (Str × Value)).length } ->
      codeAny (model X.prog X.w) X.A (.compLoop (.ListComp elt [⟨tg, iter, ifs, 0⟩] scope pos) 0 (.ref it) (.ref s2.heap.objs.size) (compEnvC scope cl H3.objs.size X.env)) (RR (.ref s2.heap.objs.size) H3.objs.size) s4 := by
    rintro s4 rfl
    refine xq1 (fun n s' => ∃ i σ' H', Inv (cxB X N scope cl fp { s2 with heap := H3 } (upd H2 s2.heap.objs.size (.lst []))) [] σ' H' s' /\ tn i s'.heap /\ (∀ b ∈ fp, H' b = none) /\ W i n σ' H') ?_ m0
      ⟨0, _, _, B0, st4, fun b hb => (f3 b hb).1, w0⟩
    rintro n s5 ⟨i, σ5, H5, I5, st5, fr5, w5⟩
    rcases turn i n σ5 H5 w5 with ⟨stop, qn⟩ | ⟨go, step⟩
    . refine thn (T.done (cxB X N scope cl fp { s2 with heap := H3 } (upd H2 s2.heap.objs.size (.lst []))) rfl rfl rfl hc i [] s5 σ5 H5 _ I5 (fpY fr5) st5 stop) fun r s6 ⟨hr, I6⟩ => ?_
      subst hr
      obtain ⟨m, hm, _⟩ := I6.loc
      have sz : X.s₀.heap.objs.size <= H3.objs.size := I3.sz
      refine fin _ _ H5 s6 (xk5 I3 f3 I6) I6.free sz (Nat.ne_of_gt I3.lt) (fun x c e z => ?_) (fun p hp z => ?_) ⟨m, hm⟩ qn
      . obtain ⟨v, z2⟩ := I3.cell x c e
        exact absurd z2.lt (by rw [z]; exact Nat.lt_irrefl _)
      . exact absurd (Heap.lt_size (I3.pin p hp).1) (by rw [z]; exact Nat.lt_irrefl _)
    . refine thn (T.item (cxB X N scope cl fp { s2 with heap := H3 } (upd H2 s2.heap.objs.size (.lst []))) rfl rfl rfl hc i [] s5 σ5 H5 _ I5 (fpY fr5) st5 go) fun r s6 ⟨u, hr, h6⟩ => ?_
      subst hr
      refine thn h6 fun _ s7 ⟨x, H7, I7, r7, y7, st7, fr7⟩ => ?_
      have I7' := I7.pinned (fpY fr7) (T.obj _ _ st7)
      have back : ∀ {σ8 : St} {H8 : Hp} {s8 : Shared}, Inv (cxB X N scope cl fp { s2 with heap := H3 } (upd H2 s2.heap.objs.size (.lst []))) ([] ++ ye7 fp s7.heap) σ8 H8 s8 ->
          tn (i + 1) s8.heap /\ ∀ b ∈ fp, H8 b = none := fun {σ8 H8 s8} I8 => by
        refine ⟨T.keep _ _ _ st7 fun b hb o e => (I8.pin (b, o) (List.mem_append_right _ (List.mem_append_right _ (zz0 hb e)))).1, fun b hb => ?_⟩
        obtain ⟨o, e, d⟩ := T.obj _ _ st7 b hb
        exact (I8.pin (b, o) (List.mem_append_right _ (List.mem_append_right _ (zz0 hb e)))).2.1
      refine thn (hg _ _ _ _ _ s7 σ5 H7 x u _ I7' r7 (step x H7 y7)) fun _ s8 ⟨σ8, H8, I8, q8⟩ => ?_
      refine thn (ht _ _ _ _ _ s8 σ8 H8 _ I8 q8) fun ok s9 ⟨H9, I9, q9⟩ => ?_
      cases ok with
      | false =>
        rw [if_neg (by decide)] at q9 |-
        obtain ⟨m', hm, w9⟩ := q9
        obtain ⟨b1, b2⟩ := back I9
        exact ⟨m', hm, i + 1, σ8, H9, I9.unpinned, b1, b2, w9⟩
      | true =>
        rw [if_pos rfl] at q9 |-
        refine thn (he _ _ _ _ _ s9 σ8 H9 _ I9 q9) fun v s10 ⟨y, H10, I10, ry, ys, hys, hlen, m', hm, w10⟩ => ?_
        have ap := yi2 (X := cxB X N scope cl fp { s2 with heap := H3 } (upd H2 s2.heap.objs.size (.lst []))) ([] ++ ye7 fp s7.heap) s10 σ8 H10 (.ref s2.heap.objs.size) [y] (.ref s2.heap.objs.size) [v]
          (fun z H' => z = .non /\ H' = upd H10 s2.heap.objs.size (.lst (ys ++ [y]))) I10 rfl (.cons ry .nil) ⟨_, ys, y, rfl, rfl, hys, hlen, rfl, rfl⟩
        refine thn ap fun z s11 ⟨z', H11, I11, _, _, e11⟩ => ?_
        subst e11
        obtain ⟨b1, b2⟩ := back I11
        exact ⟨m', hm, i + 1, σ8, _, I11.unpinned, b1, b2, w10⟩
  exact codeAny_compStart_list (loop _ rfl) (T.self _ _ _ _ _ st4 (loop _ rfl))
theorem wb2 (S : CScope sc NX N pick scope) (hsc : X.env.scope = sc) (hNX : X.N = NX) (hc : X.calm = true) (hi : PI X tg iter wi)
    (hg : ∀ cl fp s H, PG (cxB X N scope cl fp s H) tg g) (ht : ∀ cl fp s H, PTs (cxB X N scope cl fp s H) ifs tt) (he : ∀ cl fp s H, PE (cxB X N scope cl fp s H) elt te)
    (hs : ∀ x, foldedSetIterable iter X.env x = pure x := by intro _; rfl) : PE X (.ListComp elt [⟨tg, iter, ifs, 0⟩] scope pos) (wl7 pick wi g tt te) := by
  intro pins s σ H Q I h
  rw [eval_ListComp]
  have hfr : ∀ y ∈ scope.names, y.2 = .free -> ∃ c, X.env.cells.lookup y.1 = some c := fun y hy hf => I.ok.has y.1 (by
    show X.env.scope.names.lookup y.1 = _ \/ X.env.scope.names.lookup y.1 = _
    rw [hsc]; exact S.frees y hy hf)
  obtain ⟨cl, hcl, c1, c2⟩ := xk4 hfr
  refine wpAny_comprehension_free (use := none) rfl hs hcl S.kind S.names (thn (hi pins s σ H _ I h) fun v s1 h1 => thn h1 fun itv s2 h2 => ?_)
  obtain ⟨it, fp, tn, J, H2, e, I2, T, st2, f2, q⟩ := h2
  subst e
  refine xk6 (RR := fun acc C => compPost (model X.prog X.w) X.A X.xe none (EP X pins σ Q) acc C) (Q := fun D H' => Q (.ref D) H') S hsc hNX hc hg ht he I2 T st2 f2 c1 c2 q ?_
  intro D C H' s' I' n1 n2 n3 n4 n5 ⟨m, hm⟩ q'
  exact ⟨m, hm, fun h' hb => ⟨.ref D, H', I'.turned (t' := s'.toks) (it := C) (fun b o hbc e => (hb.2 b hbc).trans e) n1 n3 (.inr n2) n4 n5, rfl, q'⟩⟩
end
end L2
namespace L2
open PySem PySem.Spec PyProof.Rows
section
variable {X : Cx} {tg : Expr}
theorem xc1 : ∀ {ys : List Str} {us : List Value}, zc3 (ys.map V.str) us -> StrsAre us ys
  | [], _, .nil => .nil
  | y :: ys, _, .cons r t => by
    obtain ⟨k, rfl⟩ := r
    exact .cons y k (xc1 t)
theorem wb3 : MtR X "str.join" (fun x xs H Q => ∃ (z : Str) (a : Addr) (ys : List Str), x = .str z /\ xs = [.ref a] /\ SqL X.K H a (ys.map V.str) /\ z.length <= 16 /\ (ys.map (·.length)).sum + ys.length <= 1048576 /\ Q (.str (Txt.join z ys)) H) := by
  intro pins s σ H x xs v us Q I rx r h
  obtain ⟨z, a, ys, rfl, rfl, hq, hz, hw, q⟩ := h
  obtain ⟨t, rfl⟩ := rx
  obtain ⟨u, rfl, ru⟩ := yf3 r
  cases (show u = Value.ref a from ru)
  obtain ⟨its, rv, p, hl⟩ := I.list hq
  exact join_listW p.isList (by simpa using xc1 rv) hz hw fun t' k => ⟨.str _, H, I.tok k, ⟨_, rfl⟩, q⟩
end
end L2
namespace L2
open PySem PySem.Spec PyProof.Rows
section
variable {X : Cx}
theorem wg7 : SlR X (fun x lo hi H Q => ∃ z : Str, x = .str z /\ z.length <= sizeLine /\ Q (.str (Txt.slice z lo hi)) H) := by
  intro pins s σ H x v vl vu lo hi sl Q I rx hs pl pu h
  obtain ⟨z, rfl, hz, q⟩ := h
  obtain ⟨t, rfl⟩ := rx
  refine ⟨"str", _, F.slot_str_getitem.lookup, typeIs_str _ _ _, ?_⟩
  have fin : ∀ t' k, EP X pins σ Q (.str (Txt.slice z lo hi) t') { s with toks := k } := fun t' k => ⟨.str _, H, I.tok k, ⟨_, rfl⟩, q⟩
  cases pl with
  | none =>
    cases pu with
    | none => exact wpAny_getItem_str_slice (l := none) (u := none) (st := none) hs rfl (post_val_or_str ⟨Nat.le_trans (Txt.slice_le z _ _) hz, fun t' k => fin t' k⟩)
    | int j u => exact wpAny_getItem_str_slice (l := none) (u := some (j, u)) (st := none) hs rfl (post_val_or_str ⟨Nat.le_trans (Txt.slice_le z _ _) hz, fun t' k => fin t' k⟩)
  | int i u' =>
    cases pu with
    | none => exact wpAny_getItem_str_slice (l := some (i, u')) (u := none) (st := none) hs rfl (post_val_or_str ⟨Nat.le_trans (Txt.slice_le z _ _) hz, fun t' k => fin t' k⟩)
    | int j u => exact wpAny_getItem_str_slice (l := some (i, u')) (u := some (j, u)) (st := none) hs rfl (post_val_or_str ⟨Nat.le_trans (Txt.slice_le z _ _) hz, fun t' k => fin t' k⟩)
end
end L2
namespace L2
open PySem PySem.Spec PyProof.Rows
mutual
inductive Dp (K : PySem.W.Frag) (H : Hp) : V -> PyData -> Prop
  | non : Dp K H .non .none
  | bl (b : Bool) : Dp K H (.bl b) (.bool b)
  | int (i : Int) : Dp K H (.int i) (.int i)
  | str (x : Str) : Dp K H (.str x) (.str x)
  | lst {a : Addr} {xs : List V} {ds : List PyData} : SqL K H a xs -> DpAll K H xs ds -> Dp K H (.ref a) (.list ds)
  | tup {a : Addr} {xs : List V} {ds : List PyData} : SqT K H a xs -> DpAll K H xs ds -> Dp K H (.ref a) (.tuple ds)
inductive DpAll (K : PySem.W.Frag) (H : Hp) : List V -> List PyData -> Prop
  | nil : DpAll K H [] []
  | cons {v : V} {vs : List V} {d : PyData} {ds : List PyData} : Dp K H v d -> DpAll K H vs ds -> DpAll K H (v :: vs) (d :: ds)
end
section
variable {X : Cx} {pins : List (Addr × Obj)} {σ : St} {H : Hp} {s : Shared}
mutual
theorem Dp.reads (I : Inv X pins σ H s) : ∀ {v : V} {d : PyData} {u : Value}, Dp X.K H v d -> ze0 v u -> ∃ as, Reads s.heap u d as
  | _, _, u, .non, r => by cases (show u = Value.none from r); exact ⟨_, .none⟩
  | _, _, u, .bl b, r => by cases (show u = Value.bool b from r); exact ⟨_, .bool b⟩
  | _, _, u, .int i, r => by obtain ⟨t, rfl⟩ := r; exact ⟨_, .int i t⟩
  | _, _, u, .str x, r => by obtain ⟨t, rfl⟩ := r; exact ⟨_, .str x t⟩
  | _, _, u, .lst (a := a) h hs, r => by
    cases (show u = Value.ref a from r)
    obtain ⟨its, rv, p, hz⟩ := I.list h
    obtain ⟨as, ra⟩ := DpAll.reads I hs rv
    obtain ⟨o, e, c, n, d⟩ := p.isList
    exact ⟨_, .list e c d (by simpa using ra)⟩
  | _, _, u, .tup (a := a) h hs, r => by
    cases (show u = Value.ref a from r)
    obtain ⟨its, rv, p, hz⟩ := I.tuple h
    obtain ⟨as, ra⟩ := DpAll.reads I hs rv
    obtain ⟨o, e, c, n, d⟩ := p
    exact ⟨_, .tuple e c d (by simpa using ra)⟩
theorem DpAll.reads (I : Inv X pins σ H s) : ∀ {vs : List V} {ds : List PyData} {us : List Value}, DpAll X.K H vs ds -> zc3 vs us -> ∃ as, ReadsAll s.heap us ds as
  | _, _, _, .nil, .nil => ⟨_, .nil⟩
  | _, _, _, .cons h hs, .cons r rs => by
    obtain ⟨as, ra⟩ := Dp.reads I h r
    obtain ⟨bs, rb⟩ := DpAll.reads I hs rs
    exact ⟨_, .cons ra rb⟩
end
end
section
variable {X : Cx}
noncomputable def wo7 (K : PySem.W.Frag) (neg : Bool) : R2 := fun x y H Q => ∃ d e, Dp K H x d /\ Dp K H y e /\ d.canLay0 = true /\ e.canLay0 = true /\ d.depth <= 60 /\ Q (.bl (if neg then !PyData.eqv d e else PyData.eqv d e)) H
theorem wg8 (hu : X.A.units + 64 < cLine) : OpR X (compareOp .Eq) (wo7 X.K false) := by
  intro pins s σ H x y v u Q I rx ry h
  obtain ⟨d, e, hx, hy, cx, cy, dz, q⟩ := h
  obtain ⟨as, ra⟩ := hx.reads I rx
  obtain ⟨bs, rb⟩ := hy.reads I ry
  exact SeqAt.compareEq_reads ra rb cx cy (by have := Nat.min_le_left d.depth e.depth; omega) ⟨.bl _, H, I, rfl, q⟩
end
mutual
theorem Dp.same {K : PySem.W.Frag} {H H' : Hp} (e : zs1 H H') : ∀ {v : V} {d : PyData}, Dp K H v d -> Dp K H' v d
  | _, _, .non => .non
  | _, _, .bl b => .bl b
  | _, _, .int i => .int i
  | _, _, .str x => .str x
  | _, _, .lst h hs => .lst (e.seq h) (DpAll.same e hs)
  | _, _, .tup h hs => .tup (zs1.seqT e h) (DpAll.same e hs)
theorem DpAll.same {K : PySem.W.Frag} {H H' : Hp} (e : zs1 H H') : ∀ {vs : List V} {ds : List PyData}, DpAll K H vs ds -> DpAll K H' vs ds
  | _, _, .nil => .nil
  | _, _, .cons h hs => .cons (Dp.same e h) (DpAll.same e hs)
end
end L2
namespace L2
open PySem PySem.Spec PyProof.Rows
section
variable {prog : Program} {w : World} {A : Around} {E : Value -> Shared -> Prop} {s : Shared} {env : Env}
theorem xg3 {l : Addr} {items : Array Value} {elts : List Expr} {k : Nat} {pos : Pos} {Q : Unit -> Shared -> Prop} (hh : A.handled = none) (hl : s.heap.IsList l items) (hn : (assignEach elts env).length = items.size)
    (hstar : (assignEach elts env).findIdx? (·.1) = none) (h : ∀ h', Heap.ExtBut s.heap.objs.size s.heap h' -> wpAny (model prog w) A (assignInOrder ((assignEach elts env).map (·.2)) items.toList) Q E { s with heap := h' }) :
    wpAny (model prog w) A (assign (.Tuple elts k pos) env (.ref l)) Q E s := by
  rw [assign_Tuple]
  refine wpAny_bind (wpAny_standAt ?_)
  unfold unpack
  rw [hn, hstar]
  exact wpAny_bind (wpAny_holding (PySem.W.kun_itemsOf hh hl h))
end
section
variable {X : Cx} {pos : Pos}
noncomputable def xn6 (K : PySem.W.Frag) (n : Nat) (t : TGs) : TG := fun v σ H Q => ∃ a xs, v = .ref a /\ SqL K H a xs /\ xs.length = n /\ t xs σ H Q
theorem wg9 {es : List Expr} {k : Nat} {t : TGs} {n : Nat} (hc : X.calm = true) (h : PGs X es t)
    (hn : (assignEach es X.env).length = n := by rfl) (hst : (assignEach es X.env).findIdx? (·.1) = none := by rfl) : PG X (.Tuple es k pos) (xn6 X.K n t) := by
  intro pins s σ H v u Q I r hw
  obtain ⟨a, xs, e1, hq, hl, hw⟩ := hw
  subst e1
  cases r
  obtain ⟨its, rv, ht, hz⟩ := I.list hq
  refine xg3 (I.ok.hd hc) ht.isList (by simp [hn, <- hl, rv.length]) hst fun h' hx => ?_
  have I1 : Inv X pins σ H { s with heap := h' } := I.kept (t' := s.toks) fun b o e => hx b o (Nat.ne_of_lt (Heap.lt_size e)) e
  exact h pins _ σ H xs _ Q I1 (by simpa using rv) hw
end
end L2
namespace L2
open PySem PySem.Spec PyProof.Rows
inductive AreC : List Expr -> List V -> Prop
  | nil : AreC [] []
  | int {i : Int} {j : Nat} {pos : Pos} {es : List Expr} {vs : List V} : AreC es vs -> AreC (.Constant (.int i) j pos :: es) (.int i :: vs)
  | str {x : Str} {j : Nat} {pos : Pos} {es : List Expr} {vs : List V} : AreC es vs -> AreC (.Constant (.str x) j pos :: es) (.str x :: vs)
  | bl {b : Bool} {j : Nat} {pos : Pos} {es : List Expr} {vs : List V} : AreC es vs -> AreC (.Constant (.bool b) j pos :: es) (.bl b :: vs)
  | non {j : Nat} {pos : Pos} {es : List Expr} {vs : List V} : AreC es vs -> AreC (.Constant .none j pos :: es) (.non :: vs)
end L2
namespace L2
open PySem PySem.Spec PyProof.Rows
inductive D where
  | non | bl (b : Bool) | int (i : Int) | str (x : Str) | ty (n : String)
  | tup (xs : List D) | con (xs : List D) | lst (o : Bool) (xs : List D) | dic (o : Bool) (ks : List Key) (vs : List D) | obj (o : Bool) (C : Str) (ns : List Str) (vs : List D)
mutual
noncomputable def D.imm : D -> Bool
  | .tup xs => D.imms xs
  | .con xs => D.imms xs
  | .lst o xs => !o && D.imms xs
  | .dic o _ vs => !o && D.imms vs
  | .obj o _ _ vs => !o && D.imms vs
  | _ => true
noncomputable def D.imms : List D -> Bool
  | [] => true
  | d :: ds => d.imm && D.imms ds
end
noncomputable def kd : HO -> Bool
  | .lst _ => true
  | .tup _ => true
  | .dK _ => true
  | .ins _ _ _ => true
  | .frz _ _ => true
  | _ => false
noncomputable def tf : HO -> Bool
  | .tup _ => true
  | .frz _ _ => true
  | _ => false
theorem zu2 {o : HO} (h : tf o = true) : kd o = true := by cases o <;> first | rfl | cases h
noncomputable def SqF (K : PySem.W.Frag) (H : Hp) (a : Addr) (xs : List V) : Prop := (∃ o, H a = some (.frz o (.lst xs))) \/
  ∃ (o : Obj) (its : Array Value) (n : Nat), K.lookup a = some o /\ o.cls = .type "list" /\ o.dict = none /\ o.data = .seq its n /\ its.size <= sizeLine /\ zc3 xs its.toList
mutual
inductive Rep (K : PySem.W.Frag) (κ : Str -> Addr) (H : Hp) : V -> D -> List Addr -> Prop
  | non : Rep K κ H .non .non []
  | bl (b : Bool) : Rep K κ H (.bl b) (.bl b) []
  | int (i : Int) : Rep K κ H (.int i) (.int i) []
  | str (x : Str) : Rep K κ H (.str x) (.str x) []
  | ty (n : String) : Rep K κ H (.ty n) (.ty n) []
  | tup {a : Addr} {vs : List V} {ds : List D} : SqT K H a vs -> Reps K κ H vs ds [] -> Rep K κ H (.ref a) (.tup ds) []
  | con {a : Addr} {vs : List V} {ds : List D} : SqF K H a vs -> Reps K κ H vs ds [] -> Rep K κ H (.ref a) (.con ds) []
  | lst {a : Addr} {vs : List V} {ds : List D} {fp : List Addr} : H a = some (.lst vs) -> Reps K κ H vs ds fp -> Rep K κ H (.ref a) (.lst true ds) (a :: fp)
  | lstF {a : Addr} {o : Obj} {vs : List V} {ds : List D} : H a = some (.frz o (.lst vs)) -> Reps K κ H vs ds [] -> Rep K κ H (.ref a) (.lst false ds) []
  | dic {a : Addr} {kvs : List (Key × V)} {ks : List Key} {ds : List D} {fp : List Addr} : H a = some (.dK kvs) -> kvs.map (·.1) = ks -> Reps K κ H (kvs.map (·.2)) ds fp -> Rep K κ H (.ref a) (.dic true ks ds) (a :: fp)
  | dicF {a : Addr} {o : Obj} {kvs : List (Key × V)} {ks : List Key} {ds : List D} : H a = some (.frz o (.dK kvs)) -> kvs.map (·.1) = ks -> Reps K κ H (kvs.map (·.2)) ds [] -> Rep K κ H (.ref a) (.dic false ks ds) []
  | obj {a dx : Addr} {C : Str} {fs : List (Str × V)} {ns : List Str} {ds : List D} {fp : List Addr} : H a = some (.ins (κ C) dx fs) -> fs.map (·.1) = ns -> Reps K κ H (fs.map (·.2)) ds fp -> Rep K κ H (.ref a) (.obj true C ns ds) (a :: fp)
  | objF {a dx : Addr} {o : Obj} {C : Str} {fs : List (Str × V)} {ns : List Str} {ds : List D} : H a = some (.frz o (.ins (κ C) dx fs)) -> fs.map (·.1) = ns -> Reps K κ H (fs.map (·.2)) ds [] -> Rep K κ H (.ref a) (.obj false C ns ds) []
inductive Reps (K : PySem.W.Frag) (κ : Str -> Addr) (H : Hp) : List V -> List D -> List Addr -> Prop
  | nil : Reps K κ H [] [] []
  | cons {v : V} {vs : List V} {d : D} {ds : List D} {f g : List Addr} : Rep K κ H v d f -> Reps K κ H vs ds g -> Reps K κ H (v :: vs) (d :: ds) (f ++ g)
end
section
variable {K : PySem.W.Frag} {κ : Str -> Addr} {H H' : Hp}
theorem SqT.tf (t : ∀ a o, H a = some o -> tf o = true -> H' a = some o) {a : Addr} {xs : List V} (h : SqT K H a xs) : SqT K H' a xs := by
  rcases h with (h | ⟨o, h⟩) | h
  . exact .inl (.inl (t _ _ h rfl))
  . exact .inl (.inr ⟨o, t _ _ h rfl⟩)
  . exact .inr h
theorem SqF.tf (t : ∀ a o, H a = some o -> tf o = true -> H' a = some o) {a : Addr} {xs : List V} (h : SqF K H a xs) : SqF K H' a xs := h.elim (fun ⟨o, h⟩ => .inl ⟨o, t _ _ h rfl⟩) .inr
theorem SqF.l {a : Addr} {xs : List V} (h : SqF K H a xs) : SqL K H a xs := h.elim (fun ⟨o, h⟩ => .inl (.inr ⟨o, h⟩)) .inr
theorem zm7 {P : Addr -> Prop} : ∀ a ∈ ([] : List Addr), P a := fun _ h => nomatch h
theorem Reps.move (t : ∀ a o, H a = some o -> tf o = true -> H' a = some o) {vs : List V} {ds : List D} {fp : List Addr} (h : Reps K κ H vs ds fp) : (∀ a ∈ fp, H' a = H a) -> Reps K κ H' vs ds fp :=
  Reps.rec (motive_1 := fun v d fp _ => (∀ a ∈ fp, H' a = H a) -> Rep K κ H' v d fp) (motive_2 := fun vs ds fp _ => (∀ a ∈ fp, H' a = H a) -> Reps K κ H' vs ds fp)
    (fun _ => .non) (fun b _ => .bl b) (fun b _ => .int b) (fun b _ => .str b) (fun b _ => .ty b) (fun h _ ih _ => .tup (h.tf t) (ih zm7)) (fun h _ ih _ => .con (h.tf t) (ih zm7))
    (fun h _ ih k => .lst ((k _ List.mem_cons_self).trans h) (ih fun a ha => k a (List.mem_cons_of_mem _ ha))) (fun h _ ih _ => .lstF (t _ _ h rfl) (ih zm7))
    (fun h e _ ih k => .dic ((k _ List.mem_cons_self).trans h) e (ih fun a ha => k a (List.mem_cons_of_mem _ ha))) (fun h e _ ih _ => .dicF (t _ _ h rfl) e (ih zm7))
    (fun h e _ ih k => .obj ((k _ List.mem_cons_self).trans h) e (ih fun a ha => k a (List.mem_cons_of_mem _ ha))) (fun h e _ ih _ => .objF (t _ _ h rfl) e (ih zm7))
    (fun _ => .nil) (fun _ _ i1 i2 k => .cons (i1 fun a ha => k a (List.mem_append_left _ ha)) (i2 fun a ha => k a (List.mem_append_right _ ha))) h
theorem Reps.nil_fp {vs : List V} {fp : List Addr} (h : Reps K κ H vs [] fp) : vs = [] /\ fp = [] := by cases h; exact ⟨rfl, rfl⟩
theorem Reps.one_inv {vs : List V} {d : D} {fp : List Addr} (r : Reps K κ H vs [d] fp) : ∃ v, vs = [v] /\ Rep K κ H v d fp := by
  cases r with
  | cons h hs =>
    obtain ⟨rfl, rfl⟩ := hs.nil_fp
    exact ⟨_, rfl, by rw [List.append_nil]; exact h⟩
theorem Reps.one {v : V} {d : D} {f : List Addr} (h : Rep K κ H v d f) : Reps K κ H [v] [d] f := by have := Reps.cons h (Reps.nil (K := K) (κ := κ) (H := H)); rwa [List.append_nil] at this
theorem Rep.move (t : ∀ a o, H a = some o -> tf o = true -> H' a = some o) {v : V} {d : D} {fp : List Addr} (h : Rep K κ H v d fp) (k : ∀ a ∈ fp, H' a = H a) : Rep K κ H' v d fp := by
  obtain ⟨u, e, r⟩ := ((Reps.one h).move t k).one_inv
  cases e; exact r
theorem Reps.own {vs : List V} {ds : List D} {fp : List Addr} (h : Reps K κ H vs ds fp) : ∀ a ∈ fp, ∃ o, H a = some o /\ kd o = true /\ tf o = false :=
  Reps.rec (motive_1 := fun _ _ fp _ => ∀ a ∈ fp, ∃ o, H a = some o /\ kd o = true /\ tf o = false) (motive_2 := fun _ _ fp _ => ∀ a ∈ fp, ∃ o, H a = some o /\ kd o = true /\ tf o = false)
    zm7 (fun _ => zm7) (fun _ => zm7) (fun _ => zm7) (fun _ => zm7) (fun _ _ _ => zm7) (fun _ _ _ => zm7)
    (fun h _ ih a ha => (List.mem_cons.mp ha).elim (fun e => e ▸ ⟨_, h, rfl, rfl⟩) (ih a)) (fun _ _ _ => zm7)
    (fun h _ _ ih a ha => (List.mem_cons.mp ha).elim (fun e => e ▸ ⟨_, h, rfl, rfl⟩) (ih a)) (fun _ _ _ _ => zm7)
    (fun h _ _ ih a ha => (List.mem_cons.mp ha).elim (fun e => e ▸ ⟨_, h, rfl, rfl⟩) (ih a)) (fun _ _ _ _ => zm7)
    zm7 (fun _ _ i1 i2 a ha => (List.mem_append.mp ha).elim (i1 a) (i2 a)) h
theorem Rep.own {v : V} {d : D} {fp : List Addr} (h : Rep K κ H v d fp) : ∀ a ∈ fp, ∃ o, H a = some o /\ kd o = true /\ tf o = false := (Reps.one h).own
theorem Rep.imm {v : V} {d : D} {fp : List Addr} (h : Rep K κ H v d fp) (e : d.imm = true) : fp = [] := by
  cases h <;> first | rfl | exact nomatch e
theorem Reps.imm : ∀ {vs : List V} {ds : List D} {fp : List Addr}, Reps K κ H vs ds fp -> D.imms ds = true -> fp = []
  | _, _, _, .nil, _ => rfl
  | _, _, _, .cons h hs, e => by
    rw [D.imms, Bool.and_eq_true] at e
    rw [h.imm e.1, Reps.imm hs e.2]; rfl
theorem Reps.length : ∀ {vs : List V} {ds : List D} {fp : List Addr}, Reps K κ H vs ds fp -> vs.length = ds.length
  | _, _, _, .nil => rfl
  | _, _, _, .cons _ hs => by rw [List.length_cons, List.length_cons, Reps.length hs]
theorem Reps.get : ∀ {vs : List V} {ds : List D} {fp : List Addr} {i : Nat} {d : D}, Reps K κ H vs ds fp -> ds[i]? = some d -> ∃ v f, vs[i]? = some v /\ Rep K κ H v d f /\ ∀ a ∈ f, a ∈ fp
  | _, _, _, _, _, .nil, e => by simp at e
  | _, _, _, 0, _, .cons h _, e => by simp at e; subst e; exact ⟨_, _, rfl, h, fun a ha => List.mem_append_left _ ha⟩
  | _, _, _, i + 1, _, .cons _ hs, e => by
    obtain ⟨v, f, h1, h2, h3⟩ := Reps.get (i := i) hs (by simpa using e)
    exact ⟨v, f, by simpa using h1, h2, fun a ha => List.mem_append_right _ (h3 a ha)⟩
theorem Reps.append : ∀ {vs : List V} {ds : List D} {f : List Addr} {us : List V} {es : List D} {g : List Addr}, Reps K κ H vs ds f -> Reps K κ H us es g -> Reps K κ H (vs ++ us) (ds ++ es) (f ++ g)
  | _, _, _, _, _, _, .nil, r => r
  | _, _, _, _, _, _, .cons h hs, r => by rw [List.append_assoc]; exact .cons h (Reps.append hs r)
theorem Reps.split : ∀ {vs : List V} {d : D} {ds : List D} {fp : List Addr}, Reps K κ H vs (d :: ds) fp -> ∃ v us f g, vs = v :: us /\ Rep K κ H v d f /\ Reps K κ H us ds g /\ fp = f ++ g
  | _, _, _, _, .cons h hs => ⟨_, _, _, _, rfl, h, hs, rfl⟩
theorem Reps.nilp : ∀ {vs : List V} {ds : List D}, Reps K κ H vs ds [] -> Paired (fun v d => Rep K κ H v d []) vs ds := by
  intro vs ds h
  generalize e : ([] : List Addr) = fp at h
  induction h using Reps.rec (motive_1 := fun _ _ _ _ => True) with
  | nil => exact .nil
  | cons h hs _ ih =>
    obtain ⟨e1, e2⟩ := List.append_eq_nil_iff.mp e.symm
    subst e1; subst e2
    exact .cons h (ih rfl)
  | _ => trivial
theorem Reps.ofp : ∀ {vs : List V} {ds : List D}, Paired (fun v d => Rep K κ H v d []) vs ds -> Reps K κ H vs ds []
  | _, _, .nil => .nil
  | _, _, .cons h hs => .cons (f := []) (g := []) h (Reps.ofp hs)
end
theorem Paired.app {α β : Type} {R : α -> β -> Prop} : ∀ {l₁ : List α} {l₂ : List β} {m₁ : List α} {m₂ : List β}, Paired R l₁ l₂ -> Paired R m₁ m₂ -> Paired R (l₁ ++ m₁) (l₂ ++ m₂)
  | _, _, _, _, .nil, r => r
  | _, _, _, _, .cons h t, r => .cons h (Paired.app t r)
theorem Paired.repl {α β : Type} {R : α -> β -> Prop} {l₁ : List α} {l₂ : List β} (r : Paired R l₁ l₂) : ∀ k : Nat, Paired R (List.replicate k l₁).flatten (List.replicate k l₂).flatten
  | 0 => .nil
  | k + 1 => by rw [List.replicate_succ, List.replicate_succ, List.flatten_cons, List.flatten_cons]; exact Paired.app r (Paired.repl r k)
structure SameK (H H' : Hp) : Prop where
  keep : ∀ a o, H a = some o -> kd o = true -> H' a = some o
  grow : ∀ a, H' a = none -> H a = none
theorem SameK.refl (H : Hp) : SameK H H := ⟨fun _ _ h _ => h, fun _ h => h⟩
theorem SameK.trans {H H1 H2 : Hp} (a : SameK H H1) (b : SameK H1 H2) : SameK H H2 := ⟨fun c o h k => b.keep c o (a.keep c o h k) k, fun c h => a.grow c (b.grow c h)⟩
theorem SameK.of {H H' : Hp} (h : zs1 H H') : SameK H H' := ⟨fun a o e _ => h a o e, fun a e => h.free e⟩
theorem SameK.new {H : Hp} {p : Addr} (h : H p = none) (o : HO) : SameK H (upd H p o) := .of (xu7 h o)
section
variable {K : PySem.W.Frag} {κ : Str -> Addr} {H H' : Hp}
theorem Rep.same (e : SameK H H') {v : V} {d : D} {fp : List Addr} (r : Rep K κ H v d fp) : Rep K κ H' v d fp :=
  r.move (fun a o h t => e.keep a o h (zu2 t)) fun a ha => by obtain ⟨o, h, k, _⟩ := r.own a ha; rw [h]; exact e.keep a o h k
theorem Reps.same (e : SameK H H') {v : List V} {d : List D} {fp : List Addr} (r : Reps K κ H v d fp) : Reps K κ H' v d fp :=
  r.move (fun a o h t => e.keep a o h (zu2 t)) fun a ha => by obtain ⟨o, h, k, _⟩ := r.own a ha; rw [h]; exact e.keep a o h k
end
theorem PE.imp {X : Cx} {e : Expr} {t t' : TE} (h : PE X e t) (k : ∀ σ H Q, t' σ H Q -> t σ H Q) : PE X e t' := fun pins s σ H Q I q => h pins s σ H Q I (k σ H Q q)
theorem PT.imp {X : Cx} {e : Expr} {t t' : TT} (h : PT X e t) (k : ∀ σ H Q, t' σ H Q -> t σ H Q) : PT X e t' := fun pins s σ H Q I q => h pins s σ H Q I (k σ H Q q)
theorem PW.imp {X : Cx} {e : Expr} {t t' : TT} (h : PW X e t) (k : ∀ σ H Q, t' σ H Q -> t σ H Q) : PW X e t' := fun wh pins s σ H Q I q => h wh pins s σ H Q I (k σ H Q q)
theorem PA.imp {X : Cx} {e : List Expr} {t t' : TA} (h : PA X e t) (k : ∀ σ H Q, t' σ H Q -> t σ H Q) : PA X e t' := fun pos pins s σ H Q I q => h pos pins s σ H Q I (k σ H Q q)
theorem PS.imp {X : Cx} {st : Stmt} {t t' : TS} (h : PS X st t) (k : ∀ D σ H, t' D σ H -> t D σ H) : PS X st t' := fun pins s σ H D I q => h pins s σ H D I (k D σ H q)
theorem PSs.imp {X : Cx} {st : List Stmt} {t t' : TS} (h : PSs X st t) (k : ∀ D σ H, t' D σ H -> t D σ H) : PSs X st t' := fun pins s σ H D I q => h pins s σ H D I (k D σ H q)
noncomputable abbrev PSt := List (Option D)
noncomputable def WS (K : PySem.W.Frag) (κ : Str -> Addr) (H : Hp) (σ : St) (ps : PSt) : Prop := ∀ (i : Nat) (d : D), ps[i]? = some (some d) -> ∃ v fp, σ[i]? = some (some v) /\ Rep K κ H v d fp
theorem WS.same {K : PySem.W.Frag} {κ : Str -> Addr} {H H' : Hp} {σ : St} {ps : PSt} (w : WS K κ H σ ps) (e : SameK H H') : WS K κ H' σ ps := fun i d h => by
  obtain ⟨v, fp, h1, h2⟩ := w i d h
  exact ⟨v, fp, h1, h2.same e⟩
noncomputable def zr0 (K : PySem.W.Frag) (κ : Str -> Addr) (H : Hp) (d : D) (Q : VK) : Prop := ∀ v H' fv, SameK H H' -> (∀ a ∈ fv, H a = none) -> fv.Nodup -> Rep K κ H' v d fv -> Q v H'
noncomputable def xf4 (K : PySem.W.Frag) (κ : Str -> Addr) (H : Hp) (d : D) (Q : VK) : Prop := ∀ v H' fp, SameK H H' -> Rep K κ H' v d fp -> Q v H'
noncomputable def tV (K : PySem.W.Frag) (κ : Str -> Addr) (f : PSt -> Option D) : TE := fun σ H Q => ∃ ps d, WS K κ H σ ps /\ f ps = some d /\ xf4 K κ H d Q
noncomputable def tP (K : PySem.W.Frag) (κ : Str -> Addr) (f : PSt -> Option D) : TE := fun σ H Q => ∃ ps d, WS K κ H σ ps /\ f ps = some d /\ zr0 K κ H d Q
noncomputable def tQ (K : PySem.W.Frag) (κ : Str -> Addr) (f : PSt -> Option Bool) : TT := fun σ H Q => ∃ ps b, WS K κ H σ ps /\ f ps = some b /\ ∀ H', SameK H H' -> Q b H'
noncomputable def tVA (K : PySem.W.Frag) (κ : Str -> Addr) (f : PSt -> Option (List D)) : TA := fun σ H Q => ∃ ps ds, WS K κ H σ ps /\ f ps = some ds /\ ∀ vs H' fp, SameK H H' -> Reps K κ H' vs ds fp -> Q vs H'
noncomputable def tPA (K : PySem.W.Frag) (κ : Str -> Addr) (f : PSt -> Option (List D)) : TA := fun σ H Q => ∃ ps ds, WS K κ H σ ps /\ f ps = some ds /\ ∀ vs H' fv, SameK H H' -> (∀ a ∈ fv, H a = none) -> fv.Nodup -> Reps K κ H' vs ds fv -> Q vs H'
noncomputable abbrev QV (X : Cx) (κ : Str -> Addr) (e : Expr) (f : PSt -> Option D) : Prop := PE X e (tV X.K κ f)
noncomputable abbrev QP (X : Cx) (κ : Str -> Addr) (e : Expr) (f : PSt -> Option D) : Prop := PE X e (tP X.K κ f)
noncomputable abbrev QT (X : Cx) (κ : Str -> Addr) (e : Expr) (f : PSt -> Option Bool) : Prop := PT X e (tQ X.K κ f)
noncomputable abbrev QW (X : Cx) (κ : Str -> Addr) (e : Expr) (f : PSt -> Option Bool) : Prop := PW X e (tQ X.K κ f)
noncomputable abbrev QVA (X : Cx) (κ : Str -> Addr) (es : List Expr) (f : PSt -> Option (List D)) : Prop := PA X es (tVA X.K κ f)
noncomputable abbrev QPA (X : Cx) (κ : Str -> Addr) (es : List Expr) (f : PSt -> Option (List D)) : Prop := PA X es (tPA X.K κ f)
theorem zr0.see {K : PySem.W.Frag} {κ : Str -> Addr} {H : Hp} {d : D} {Q : VK} (h : xf4 K κ H d Q) : zr0 K κ H d Q := fun v H' fv s _ _ r => h v H' fv s r
theorem zr0.after {K : PySem.W.Frag} {κ : Str -> Addr} {H H1 : Hp} {d : D} {Q : VK} (h : zr0 K κ H d Q) (s : SameK H H1) : zr0 K κ H1 d Q :=
  fun v H' fv s' n nd r => h v H' fv (s.trans s') (fun a ha => s.grow a (n a ha)) nd r
theorem zr0.now {K : PySem.W.Frag} {κ : Str -> Addr} {H : Hp} {d : D} {Q : VK} {v : V} (h : zr0 K κ H d Q) (r : Rep K κ H v d []) : Q v H := h v H [] (.refl H) (fun _ h => absurd h (by simp)) List.nodup_nil r
theorem zr0.at {K : PySem.W.Frag} {κ : Str -> Addr} {H : Hp} {d : D} {Q : VK} {p : Addr} {o : HO} {fv : List Addr} (h : zr0 K κ H d Q) (hp : H p = none) (hn : ∀ a ∈ fv, H a = none) (nd : fv.Nodup) (r : Rep K κ (upd H p o) (.ref p) d fv) : Q (.ref p) (upd H p o) :=
  h _ _ fv (.new hp o) hn nd r
theorem xf4.after {K : PySem.W.Frag} {κ : Str -> Addr} {H H1 : Hp} {d : D} {Q : VK} (h : xf4 K κ H d Q) (s : SameK H H1) : xf4 K κ H1 d Q := fun v H' fp s' r => h v H' fp (s.trans s') r
section
variable {X : Cx} {κ : Str -> Addr} {e a b : Expr} {f fa fb : PSt -> Option D}
theorem QP.v (h : QP X κ e f) : QV X κ e f := h.imp fun _ _ _ ⟨ps, d, w, e, q⟩ => ⟨ps, d, w, e, .see q⟩
noncomputable def za9 (f : PSt -> Option D) : PSt -> Option D := fun ps => (f ps).bind fun d => if d.imm = true then some d else none
theorem QV.p (h : QV X κ e f) : QP X κ e (za9 f) := h.imp fun σ H Q hh_ => by
  obtain ⟨ps, d, w, e, q⟩ := hh_
  unfold za9 at e
  cases e1 : f ps with
  | none => rw [e1] at e; cases e
  | some d1 =>
    rw [e1] at e
    by_cases hi : d1.imm = true
    . have e2 : d1 = d := by simpa [hi] using e
      subst e2
      refine ⟨ps, d1, w, e1, fun v H' fp s r => ?_⟩
      have := r.imm hi; subst this
      exact q v H' [] s (fun _ h => absurd h (by simp)) List.nodup_nil r
    . simp [hi] at e
noncomputable def za0 (i : Nat) : PSt -> Option D := fun ps => (ps[i]?).join
theorem za3 (i : Nat) {x : Str} {pos : Pos} (hN : X.N[i]? = some x := by rfl) (hv : Vis X.env.scope x := by first | exact Or.inl rfl | exact Or.inr (Or.inl rfl) | exact Or.inr (Or.inr rfl)) (hd : (x == ("__debug__" : Str)) = false := by decide)
    (hcd : (x == ("__classdict__" : Str)) = false := by decide) : QV X κ (.Name x pos) (za0 i) := (zx6 hN hv hd hcd).imp fun σ H Q hh_ => by
  obtain ⟨ps, d, w, e, q⟩ := hh_
  have e' : ps[i]? = some (some d) := by
    unfold za0 at e
    cases q : ps[i]? with
    | none => rw [q] at e; cases e
    | some o => rw [q] at e; exact congrArg some e
  obtain ⟨v, fp, h1, h2⟩ := w i d e'
  exact ⟨v, h1, q v H fp (.refl H) h2⟩
noncomputable def fC (d : D) : PSt -> Option D := fun _ => some d
theorem zb1 {i j pos} : QP X κ (.Constant (.int i) j pos) (fC (.int i)) := zo4.imp fun σ H Q ⟨ps, d, w, e, q⟩ => by cases e; exact q _ H [] (.refl H) (fun _ h => absurd h (by simp)) List.nodup_nil (.int i)
theorem zf7 {x j pos} : QP X κ (.Constant (.str x) j pos) (fC (.str x)) := we4.imp fun σ H Q ⟨ps, d, w, e, q⟩ => by cases e; exact q _ H [] (.refl H) (fun _ h => absurd h (by simp)) List.nodup_nil (.str x)
theorem xa7 {b j pos} : QP X κ (.Constant (.bool b) j pos) (fC (.bl b)) := wj6.imp fun σ H Q ⟨ps, d, w, e, q⟩ => by cases e; exact q _ H [] (.refl H) (fun _ h => absurd h (by simp)) List.nodup_nil (.bl b)
theorem yq1 {j pos} : QP X κ (.Constant .none j pos) (fC .non) := we3.imp fun σ H Q ⟨ps, d, w, e, q⟩ => by cases e; exact q _ H [] (.refl H) (fun _ h => absurd h (by simp)) List.nodup_nil .non
theorem yu6 {x : Str} {v : V} {u : Value} {d : D} {pos : Pos} (hg : Gl X x) (hm : X.mg x = some u) (r : ze0 v u) (hd : ∀ H, Rep X.K κ H v d []) (hdb : (x == ("__debug__" : Str)) = false := by decide) : QP X κ (.Name x pos) (fC d) :=
  (xz7 hg hm r hdb).imp fun σ H Q ⟨ps, d, w, e, q⟩ => by cases e; exact q _ H [] (.refl H) (fun _ h => absurd h (by simp)) List.nodup_nil (hd H)
theorem xk7 {x : Str} {n : String} {pos : Pos} (hg : Gl X x) (hm : X.mg x = none) (hv : bootBuiltins x = some (.type n)) (hn : x ≠ "__name__" := by decide) (hd : (x == ("__debug__" : Str)) = false := by decide) : QP X κ (.Name x pos) (fC (.ty n)) :=
  (xz8 (v := .ty n) hg hm hv rfl hn hd).imp fun σ H Q ⟨ps, d, w, e, q⟩ => by cases e; exact q _ H [] (.refl H) (fun _ h => absurd h (by simp)) List.nodup_nil (.ty n)
noncomputable def f2 (g : D -> D -> Option D) (fa fb : PSt -> Option D) : PSt -> Option D := fun ps => (fa ps).bind fun x => (fb ps).bind fun y => g x y
noncomputable def POp (K : PySem.W.Frag) (κ : Str -> Addr) (g : D -> D -> Option D) : R2 := fun x y H Q => ∃ dx dy d fx fy, Rep K κ H x dx fx /\ Rep K κ H y dy fy /\ g dx dy = some d /\ zr0 K κ H d Q
theorem yu7 {g : D -> D -> Option D} {fa fb : PSt -> Option D} {ps : PSt} {d : D} (h : f2 g fa fb ps = some d) : ∃ x y, fa ps = some x /\ fb ps = some y /\ g x y = some d := by
  unfold f2 at h
  cases e1 : fa ps with
  | none => rw [e1] at h; cases h
  | some x =>
    rw [e1] at h
    cases e2 : fb ps with
    | none => rw [e2] at h; cases h
    | some y => rw [e2] at h; exact ⟨x, y, rfl, rfl, h⟩
theorem xc2 {r : R2} {g : D -> D -> Option D} {σ : St} {H : Hp} {Q : VK} (hr : ∀ x y H Q, POp X.K κ g x y H Q -> r x y H Q) (h : tP X.K κ (f2 g fa fb) σ H Q) : tOp r (tV X.K κ fa) (tV X.K κ fb) σ H Q := by
  obtain ⟨ps, d, w, e, q⟩ := h
  obtain ⟨x, y, e1, e2, e3⟩ := yu7 e
  exact ⟨ps, x, w, e1, fun v H1 fp s1 r1 => ⟨ps, y, w.same s1, e2, fun u H2 fq s2 r2 => hr _ _ _ _ ⟨x, y, d, fp, fq, r1.same s2, r2, e3, q.after (s1.trans s2)⟩⟩⟩
theorem zg3 {op : Operator} {g : D -> D -> Option D} {pos : Pos} (ho : OpR X (binaryOp op) (POp X.K κ g)) (ha : QV X κ a fa) (hb : QV X κ b fb) : QP X κ (.BinOp a op b pos) (f2 g fa fb) :=
  (zl2 ho ha hb).imp fun _ _ _ h => xc2 (fun _ _ _ _ h => h) h
theorem ye0 {op : CmpOp} {g : D -> D -> Option D} {pos : Pos} (ho : OpR X (compareOp op) (POp X.K κ g)) (ha : QV X κ a fa) (hb : QV X κ b fb) (hm : behindInMarks op b = false) : QP X κ (.Compare a [op] [b] pos) (f2 g fa fb) :=
  (wa4 ho ha hb hm).imp fun _ _ _ h => xc2 (fun _ _ _ _ h => h) h
noncomputable def dB : D -> Option Bool
  | .bl b => some b
  | _ => none
noncomputable def fB (f : PSt -> Option D) : PSt -> Option Bool := fun ps => (f ps).bind dB
theorem wb4 {f : PSt -> Option D} {ps : PSt} {b : Bool} (h : fB f ps = some b) : f ps = some (.bl b) := by
  unfold fB at h
  cases e : f ps with
  | none => rw [e] at h; cases h
  | some d => rw [e] at h; cases d <;> first | (cases h; rfl) | cases h
theorem Rep.is_bl {K : PySem.W.Frag} {H : Hp} {v : V} {b : Bool} {fp : List Addr} (r : Rep K κ H v (.bl b) fp) : v = .bl b := by cases r; rfl
theorem Rep.is_int {K : PySem.W.Frag} {H : Hp} {v : V} {b : Int} {fp : List Addr} (r : Rep K κ H v (.int b) fp) : v = .int b := by cases r; rfl
theorem Rep.is_str {K : PySem.W.Frag} {H : Hp} {v : V} {b : Str} {fp : List Addr} (r : Rep K κ H v (.str b) fp) : v = .str b := by cases r; rfl
theorem zg4 {op : CmpOp} {g : D -> D -> Option D} {pos : Pos} (ho : OpR X (compareOp op) (POp X.K κ g)) (ha : QV X κ a fa) (hb : QV X κ b fb) (hm : behindInMarks op b = false) : QT X κ (.Compare a [op] [b] pos) (fB (f2 g fa fb)) :=
  (xh1 ho ha hb hm).imp fun σ H Q ⟨ps, c, w, e, q⟩ => xc2 (Q := fun x H' => ∃ k, x = .bl k /\ Q k H') (fun _ _ _ _ h => h) ⟨ps, _, w, wb4 e, fun v H' fv s _ _ r => ⟨c, r.is_bl, q H' s⟩⟩
noncomputable def f3 (g g' : D -> D -> Option D) (fa fb fc : PSt -> Option D) : PSt -> Option D := fun ps => (fa ps).bind fun x => (fb ps).bind fun y => (g x y).bind fun k => match k with
  | .bl true => (fc ps).bind fun z => g' y z
  | .bl false => some (.bl false)
  | _ => none
noncomputable def zc7 : D -> Option Bool
  | .non => some false
  | .bl b => some b
  | .int i => some (i != 0)
  | .str y => if y.length <= sizeLine then some ((y.length : Int) != 0) else none
  | .lst _ xs => some (!xs.isEmpty)
  | .tup xs => some (!xs.isEmpty)
  | .con xs => some (!xs.isEmpty)
  | _ => none
theorem zu9 {K : PySem.W.Frag} {H : Hp} {vs : List V} {ds : List D} {fp : List Addr} (r : Reps K κ H vs ds fp) : ds.isEmpty = vs.isEmpty := by cases r <;> rfl
theorem wb5 {K : PySem.W.Frag} {H : Hp} {v : V} {d : D} {fp : List Addr} {b : Bool} (r : Rep K κ H v d fp) (h : zc7 d = some b) : xx7 K v H b := by
  cases r with
  | non => cases h; rfl
  | bl b => cases h; rfl
  | int i => cases h; rfl
  | str x =>
    rw [zc7] at h
    split at h
    . cases h; exact ⟨by assumption, rfl⟩
    . cases h
  | tup s rs => cases h; exact .inr (.inl ⟨_, s, by rw [zu9 rs]⟩)
  | con s rs => cases h; exact .inl ⟨_, s.l, by rw [zu9 rs]⟩
  | lst s rs => cases h; exact .inl ⟨_, .inl (.inl s), by rw [zu9 rs]⟩
  | lstF s rs => cases h; exact .inl ⟨_, .inl (.inr ⟨_, s⟩), by rw [zu9 rs]⟩
  | _ => cases h
noncomputable def fT (f : PSt -> Option D) : PSt -> Option Bool := fun ps => (f ps).bind zc7
theorem wb6 {f : PSt -> Option D} {ps : PSt} {b : Bool} (h : fT f ps = some b) : ∃ d, f ps = some d /\ zc7 d = some b := by
  unfold fT at h
  cases e : f ps with
  | none => rw [e] at h; cases h
  | some d => rw [e] at h; exact ⟨d, rfl, h⟩
theorem zx7 (ha : QV X κ a fa) (he : ∀ whole, isTrue a X.env whole = (do let v <- whole; standAt a.pos; holding [v] (truthy v)) := by intro _; rfl) : QT X κ a (fT fa) :=
  (xt8 ha he).imp fun σ H Q hh_ => by
    obtain ⟨ps, c, w, e, q⟩ := hh_
    obtain ⟨d, e1, e2⟩ := wb6 e
    exact ⟨ps, d, w, e1, fun v H' fp s r => ⟨c, wb5 r e2, q H' s⟩⟩
noncomputable def zl9 (f g : PSt -> Option Bool) : PSt -> Option Bool := fun ps => (f ps).bind fun c => if c = true then g ps else some false
noncomputable def zj6 (f g : PSt -> Option Bool) : PSt -> Option Bool := fun ps => (f ps).bind fun c => if c = true then some true else g ps
noncomputable def zu0 (f : PSt -> Option Bool) : PSt -> Option Bool := fun ps => (f ps).map (!·)
variable {pos : Pos} {zb9 : List Expr} {ta tb : PSt -> Option Bool}
theorem ya1 (ha : QT X κ a ta) : QW X κ (.BoolOp .And [a] pos) ta := xz9 ha
theorem yq2 (ha : QT X κ a ta) : QW X κ (.BoolOp .Or [a] pos) ta := we5 ha
theorem ye1 (ha : QT X κ a ta) (hb : QW X κ (.BoolOp .And (b :: zb9) pos) tb) : QW X κ (.BoolOp .And (a :: b :: zb9) pos) (zl9 ta tb) :=
  (we6 ha hb).imp fun σ H Q hh_ => by
    obtain ⟨ps, c, w, e, q⟩ := hh_
    unfold zl9 at e
    cases e1 : ta ps with
    | none => rw [e1] at e; cases e
    | some k =>
      rw [e1] at e
      refine ⟨ps, k, w, e1, fun H1 s1 => ?_⟩
      cases k with
      | true => rw [if_pos rfl]; exact ⟨ps, c, w.same s1, by simpa using e, fun H2 s2 => q H2 (s1.trans s2)⟩
      | false =>
        rw [if_neg Bool.false_ne_true]
        have : c = false := by simpa using e.symm
        subst this; exact q H1 s1
theorem xa8 (ha : QT X κ a ta) (hb : QW X κ (.BoolOp .Or (b :: zb9) pos) tb) : QW X κ (.BoolOp .Or (a :: b :: zb9) pos) (zj6 ta tb) :=
  (wj7 ha hb).imp fun σ H Q hh_ => by
    obtain ⟨ps, c, w, e, q⟩ := hh_
    unfold zj6 at e
    cases e1 : ta ps with
    | none => rw [e1] at e; cases e
    | some k =>
      rw [e1] at e
      refine ⟨ps, k, w, e1, fun H1 s1 => ?_⟩
      cases k with
      | true =>
        rw [if_pos rfl]
        have : c = true := by simpa using e.symm
        subst this; exact q H1 s1
      | false => rw [if_neg Bool.false_ne_true]; exact ⟨ps, c, w.same s1, by simpa using e, fun H2 s2 => q H2 (s1.trans s2)⟩
theorem yi3 (h : QW X κ a ta) : QT X κ a ta := PW.pt h
theorem yq3 (ha : QT X κ a ta) : QT X κ (.UnaryOp .Not a pos) (zu0 ta) :=
  (we7 ha).imp fun σ H Q hh_ => by
    obtain ⟨ps, c, w, e, q⟩ := hh_
    unfold zu0 at e
    cases e1 : ta ps with
    | none => rw [e1] at e; cases e
    | some k =>
      rw [e1] at e
      have : c = !k := by simpa using e.symm
      subst this
      exact ⟨ps, k, w, e1, fun H1 s1 => q H1 s1⟩
noncomputable def zy6 (f g : PSt -> Option D) : PSt -> Option D := fun ps => (f ps).bind fun c => match c with
  | .bl true => g ps
  | .bl false => some (.bl false)
  | _ => none
noncomputable def fOr (f g : PSt -> Option D) : PSt -> Option D := fun ps => (f ps).bind fun c => match c with
  | .bl true => some (.bl true)
  | .bl false => g ps
  | _ => none
theorem xy4 {d : D} {α : Type} {x y : Option α} {z : α} (h : (match d with | .bl true => x | .bl false => y | _ => none) = some z) : ∃ b, d = .bl b /\ (if b = true then x else y) = some z := by
  cases d with
  | bl b => cases b <;> exact ⟨_, rfl, h⟩
  | _ => cases h
theorem yi4 {op} (h : QP X κ a fa) : QP X κ (.BoolOp op [a] pos) fa := we8 h
theorem yq4 (ha : QP X κ a fa) (hb : QP X κ (.BoolOp .And (b :: zb9) pos) fb) : QP X κ (.BoolOp .And (a :: b :: zb9) pos) (zy6 fa fb) :=
  (we9 ha hb).imp fun σ H Q hh_ => by
    obtain ⟨ps, d, w, e, q⟩ := hh_
    unfold zy6 at e
    cases e1 : fa ps with
    | none => rw [e1] at e; cases e
    | some k =>
      rw [e1] at e
      obtain ⟨c, rfl, e2⟩ := xy4 (x := fb ps) (y := some (.bl false)) e
      refine ⟨ps, _, w, e1, fun v H1 fv s1 _ _ r1 => ⟨c, r1.is_bl, ?_⟩⟩
      cases c with
      | true => rw [if_pos rfl] at e2 |-; exact ⟨ps, d, w.same s1, e2, q.after s1⟩
      | false =>
        rw [if_neg Bool.false_ne_true] at e2 |-
        cases e2; exact (q.after s1).now (.bl false)
theorem xk8 (ha : QP X κ a fa) (hb : QP X κ (.BoolOp .Or (b :: zb9) pos) fb) : QP X κ (.BoolOp .Or (a :: b :: zb9) pos) (fOr fa fb) :=
  (wj8 ha hb).imp fun σ H Q hh_ => by
    obtain ⟨ps, d, w, e, q⟩ := hh_
    unfold fOr at e
    cases e1 : fa ps with
    | none => rw [e1] at e; cases e
    | some k =>
      rw [e1] at e
      obtain ⟨c, rfl, e2⟩ := xy4 (d := k) (x := some (D.bl true)) (y := fb ps) (z := d) e
      refine ⟨ps, _, w, e1, fun v H1 fv s1 _ _ r1 => ⟨c, r1.is_bl, ?_⟩⟩
      cases c with
      | true => rw [if_pos rfl] at e2 |-; cases e2; exact (q.after s1).now (.bl true)
      | false => rw [if_neg Bool.false_ne_true] at e2 |-; exact ⟨ps, d, w.same s1, e2, q.after s1⟩
noncomputable def zo2 (f : PSt -> Option D) : PSt -> Option D := fun ps => (f ps).bind fun c => match c with
  | .int i => some (.int (-i))
  | _ => none
theorem zt5 (ha : QV X κ a fa) : QP X κ (.UnaryOp .USub a pos) (zo2 fa) :=
  (wj9 wf5 ha).imp fun σ H Q hh_ => by
    obtain ⟨ps, d, w, e, q⟩ := hh_
    unfold zo2 at e
    cases e1 : fa ps with
    | none => rw [e1] at e; cases e
    | some k =>
      rw [e1] at e
      cases k with
      | int i => cases e; exact ⟨ps, _, w, e1, fun v H1 fp s1 r1 => ⟨i, r1.is_int, (q.after s1).now (.int _)⟩⟩
      | _ => cases e
end
end L2
namespace L2
open PySem PySem.Spec PyProof.Rows
section
variable {X : Cx} {κ : Str -> Addr}
theorem Inv.lstR {pins : List (Addr × Obj)} {σ : St} {H : Hp} {s : Shared} {l : Addr} {xs : List V} (I : Inv X pins σ H s) (h : Rd H l (.lst xs)) :
    xs.length <= sizeLine /\ ∃ (its : List Value) (n : Nat), zc3 xs its /\ xs.length = its.length /\ s.heap.get? l = some { cls := .type "list", data := .seq its.toArray n } := by
  obtain ⟨z, its, n, r, e⟩ := h.ok I.hok
  exact ⟨z, its, n, r, r.length, e⟩
theorem wb7 : OpR X (binaryOp .Add) (fun x y H Q => ∃ l b xs zs, x = .ref l /\ y = .ref b /\ Rd H l (.lst xs) /\ Rd H b (.lst zs) /\ xs.length + zs.length <= sizeLine /\ ∀ p, H p = none -> Q (.ref p) (upd H p (.lst (xs ++ zs)))) := by
  intro pins s σ H x y v u Q I rx ry h
  obtain ⟨l, b, xs, zs, rfl, rfl, hH, hB, hz, q⟩ := h
  cases rx
  cases ry
  obtain ⟨z, its, n, r, hl, e⟩ := I.lstR hH
  obtain ⟨z2, its2, n2, r2, hl2, e2⟩ := I.lstR hB
  refine PySem.P.add_list e e2 ?_ (by rw [List.size_toArray, List.size_toArray]; omega)
  have ea : its.toArray ++ its2.toArray = (its ++ its2).toArray := by simp
  rw [ea]
  exact ⟨.ref _, _, I.lnew (t' := s.toks) (r.append r2) (by rw [List.length_append]; omega), rfl, q _ I.fresh⟩
theorem Rep.lst_inv {K : PySem.W.Frag} {H : Hp} {v : V} {o : Bool} {ds : List D} {fp : List Addr} (r : Rep K κ H v (.lst o ds) fp) : ∃ a vs g, v = .ref a /\ Rd H a (.lst vs) /\ Reps K κ H vs ds g /\ g.Sublist fp := by
  cases r with
  | lst h hs => exact ⟨_, _, _, rfl, .inl h, hs, List.sublist_cons_self _ _⟩
  | lstF h hs => exact ⟨_, _, _, rfl, .inr ⟨_, h⟩, hs, .refl _⟩
theorem Rep.lstT_inv {K : PySem.W.Frag} {H : Hp} {v : V} {ds : List D} {fp : List Addr} (r : Rep K κ H v (.lst true ds) fp) : ∃ a vs g, v = .ref a /\ H a = some (.lst vs) /\ Reps K κ H vs ds g /\ fp = a :: g := by
  cases r with
  | lst h hs => exact ⟨_, _, _, rfl, h, hs, rfl⟩
theorem Rep.objT_inv {K : PySem.W.Frag} {H : Hp} {v : V} {C : Str} {ns : List Str} {ds : List D} {fp : List Addr} (r : Rep K κ H v (.obj true C ns ds) fp) : ∃ a dx fs g, v = .ref a /\ H a = some (.ins (κ C) dx fs) /\ fs.map (·.1) = ns /\ Reps K κ H (fs.map (·.2)) ds g /\ fp = a :: g := by
  cases r with
  | obj h e hs => exact ⟨_, _, _, _, rfl, h, e, hs, rfl⟩
theorem Rep.tup_inv {K : PySem.W.Frag} {H : Hp} {v : V} {ds : List D} {fp : List Addr} (r : Rep K κ H v (.tup ds) fp) : ∃ a vs, v = .ref a /\ SqT K H a vs /\ Reps K κ H vs ds [] := by
  cases r with
  | tup h hs => exact ⟨_, _, rfl, h, hs⟩
theorem Reps.pair {K : PySem.W.Frag} {H : Hp} {vs : List V} {ds : List D} {fp : List Addr} (r : Reps K κ H vs ds fp) (h : D.imms ds = true) : Paired (fun v d => Rep K κ H v d []) vs ds := by
  have e := r.imm h
  subst e
  exact r.nilp
theorem Rep.con_inv {K : PySem.W.Frag} {H : Hp} {v : V} {ds : List D} {fp : List Addr} (r : Rep K κ H v (.con ds) fp) : ∃ a vs, v = .ref a /\ SqF K H a vs /\ Reps K κ H vs ds [] := by
  cases r with
  | con h hs => exact ⟨_, _, rfl, h, hs⟩
theorem wb8 {K : PySem.W.Frag} {H : Hp} {vs : List V} {ds : List D} {Q : VK} {p : Addr} (hp : H p = none) (r : Paired (fun v d => Rep K κ H v d []) vs ds) (q : zr0 K κ H (.lst true ds) Q) : Q (.ref p) (upd H p (.lst vs)) :=
  q.at hp (fv := [p]) (fun a ha => by simp at ha; subst ha; exact hp) (by simp) (.lst zf3 ((Reps.ofp r).same (.new hp _)))
theorem xh4 {K : PySem.W.Frag} {H : Hp} {vs : List V} {ds : List D} {Q : VK} {p : Addr} (hp : H p = none) (r : Paired (fun v d => Rep K κ H v d []) vs ds) (q : zr0 K κ H (.tup ds) Q) : Q (.ref p) (upd H p (.tup vs)) :=
  q.at hp (fv := []) (fun a ha => by simp at ha) (by simp) (.tup (.inl (.inl zf3)) ((Reps.ofp r).same (.new hp _)))
noncomputable def zh2 : D -> D -> Option D
  | .int i, .int j => some (.int (i + j))
  | .str x, .str y => if x.length + y.length <= sizeLine then some (.str (x ++ y)) else none
  | .lst _ xs, .lst _ ys => if (D.imms xs && D.imms ys && decide (xs.length + ys.length <= sizeLine)) = true then some (.lst true (xs ++ ys)) else none
  | _, _ => none
theorem bind_some {α β : Type} {o : Option α} {g : α -> Option β} {z : β} (h : o.bind g = some z) : ∃ x, o = some x /\ g x = some z := by
  cases o with
  | none => cases h
  | some x => exact ⟨x, rfl, h⟩
theorem zd8 {α : Type} {c : Prop} [Decidable c] {x : Option α} {z : α} (h : (if c then x else none) = some z) : c /\ x = some z := by
  by_cases k : c
  . rw [if_pos k] at h; exact ⟨k, h⟩
  . rw [if_neg k] at h; cases h
theorem zx3 : OpR X (binaryOp .Add) (POp X.K κ zh2) := by
  rintro pins s σ H x y v u Q I rx ry ⟨dx, dy, d, fx, fy, r1, r2, e, q⟩
  unfold zh2 at e
  split at e
  . rename_i i j
    cases e; exact yd9 pins s σ H x y v u Q I rx ry ⟨i, j, r1.is_int, r2.is_int, q.now (.int _)⟩
  . rename_i i j
    obtain ⟨hc, e⟩ := zd8 e
    cases e; exact xj5 pins s σ H x y v u Q I rx ry ⟨i, j, r1.is_str, r2.is_str, hc, q.now (.str _)⟩
  . rename_i o xs o' ys
    obtain ⟨hc, e⟩ := zd8 e
    simp only [Bool.and_eq_true, decide_eq_true_eq] at hc
    cases e
    obtain ⟨a, vs, g, rfl, h1, s1, _⟩ := r1.lst_inv
    obtain ⟨b, us, g', rfl, h2, s2, _⟩ := r2.lst_inv
    exact wb7 pins s σ H _ _ v u Q I rx ry ⟨a, b, vs, us, rfl, rfl, h1, h2, by rw [s1.length, s2.length]; exact hc.2, fun p hp => wb8 hp (Paired.app (s1.pair hc.1.1) (s2.pair hc.1.2)) q⟩
  . cases e
noncomputable def dII (C : Int -> Int -> Bool) (g : Int -> Int -> D) : D -> D -> Option D
  | .int i, .int j => if C i j = true then some (g i j) else none
  | _, _ => none
theorem xc3 {C : Int -> Int -> Bool} {g : Int -> Int -> D} {x y d : D} (h : dII C g x y = some d) : ∃ i j, x = .int i /\ y = .int j /\ C i j = true /\ d = g i j := by
  unfold dII at h
  split at h
  . obtain ⟨hc, h⟩ := zd8 h
    cases h; exact ⟨_, _, rfl, rfl, hc, rfl⟩
  . cases h
noncomputable def zl6 : D -> D -> Option D
  | .int i, .int j => some (.int (i - j))
  | _, _ => none
theorem yq5 : OpR X (binaryOp .Sub) (POp X.K κ zl6) := by
  rintro pins s σ H x y v u Q I rx ry ⟨dx, dy, d, fx, fy, r1, r2, e, q⟩
  unfold zl6 at e
  split at e
  . rename_i i j
    cases e; exact wf3 pins s σ H x y v u Q I rx ry ⟨i, j, r1.is_int, r2.is_int, q.now (.int _)⟩
  . cases e
noncomputable def xs9 (i j : Int) : Bool := (decide (-(2 ^ 64) < i) && decide (i < 2 ^ 64)) || (decide (-(2 ^ 64) < j) && decide (j < 2 ^ 64))
noncomputable def yd5 : D -> D -> Option D
  | .int i, .int j => if xs9 i j = true then some (.int (i * j)) else none
  | .str x, .int n => if (decide (x.length <= 1) && decide (-(2 ^ 63) <= n) && decide (n <= 16777216)) = true then some (.str (Txt.mul x n)) else none
  | _, _ => none
theorem xk9 : OpR X (binaryOp .Mult) (fun x y H Q => ∃ z n, x = .str z /\ y = .int n /\ MulOk z n /\ Q (.str (Txt.mul z n)) H) := by
  rintro pins s σ H x y v u Q I rx ry ⟨z, n, e1, e2, ok, q⟩
  subst e1 e2
  obtain ⟨t, rfl⟩ := rx
  obtain ⟨t', rfl⟩ := ry
  exact SB.mul ok fun t' k => ⟨.str _, H, I.tok k, ⟨_, rfl⟩, q⟩
theorem yq6 : OpR X (binaryOp .Mult) (POp X.K κ yd5) := by
  rintro pins s σ H x y v u Q I rx ry ⟨dx, dy, d, fx, fy, r1, r2, e, q⟩
  unfold yd5 at e
  split at e
  . rename_i i j
    obtain ⟨hc, e⟩ := zd8 e
    cases e
    refine zu8 pins s σ H x y v u Q I rx ry ⟨i, j, r1.is_int, r2.is_int, ?_, q.now (.int _)⟩
    unfold xs9 at hc
    simp only [Bool.or_eq_true, Bool.and_eq_true, decide_eq_true_eq] at hc
    exact hc
  . rename_i z n
    obtain ⟨hc, e⟩ := zd8 e
    simp only [Bool.and_eq_true, decide_eq_true_eq] at hc
    cases e
    exact xk9 pins s σ H _ _ v u Q I rx ry ⟨z, n, r1.is_str, r2.is_int, mulOk_of 1 16777216 hc.1.1 (by omega) hc.1.2 (by decide) (by decide), q.now (.str _)⟩
  . cases e
noncomputable def zm2 : D -> D -> Option D := dII (fun _ j => decide (0 < j)) fun i j => .int (i % j)
theorem zt9 : OpR X (binaryOp .Mod) (POp X.K κ zm2) := by
  rintro pins s σ H x y v u Q I rx ry ⟨dx, dy, d, fx, fy, r1, r2, e, q⟩
  obtain ⟨i, j, rfl, rfl, hc, rfl⟩ := xc3 e
  exact yp5 pins s σ H x y v u Q I rx ry ⟨i, j, r1.is_int, r2.is_int, of_decide_eq_true hc, q.now (.int _)⟩
noncomputable def zr1 : D -> D -> Option D := dII (fun _ j => decide (0 < j) && decide (j < 1073741824)) fun i j => .int (i / j)
theorem zz1 : OpR X (binaryOp .FloorDiv) (POp X.K κ zr1) := by
  rintro pins s σ H x y v u Q I rx ry ⟨dx, dy, d, fx, fy, r1, r2, e, q⟩
  obtain ⟨i, j, rfl, rfl, hc, rfl⟩ := xc3 e
  simp only [Bool.and_eq_true, decide_eq_true_eq] at hc
  exact xh0 pins s σ H x y v u Q I rx ry ⟨i, j, r1.is_int, r2.is_int, hc, q.now (.int _)⟩
noncomputable def D.ints : List D -> Option (List Int)
  | [] => some []
  | .int i :: ds => (D.ints ds).map (i :: ·)
  | _ :: _ => none
theorem yu8 {K : PySem.W.Frag} {H : Hp} : ∀ {vs : List V} {ds : List D} {fp : List Addr} {ns : List Int}, Reps K κ H vs ds fp -> D.ints ds = some ns -> vs = ns.map V.int
  | _, _, _, _, .nil, e => by cases e; rfl
  | _, d :: ds, _, ns, .cons h hs, e => by
    cases d with
    | int i =>
      rw [D.ints] at e
      cases e1 : D.ints ds with
      | none => rw [e1] at e; cases e
      | some ms => rw [e1] at e; cases e; rw [h.is_int, yu8 hs e1]; rfl
    | _ => cases e
noncomputable def dLt : D -> D -> Option D
  | .int i, .int j => some (.bl (decide (i < j)))
  | _, _ => none
theorem yn6 (hu : X.A.units < cLine) : OpR X (compareOp .Lt) (POp X.K κ dLt) := by
  rintro pins s σ H x y v u Q I rx ry ⟨dx, dy, d, fx, fy, r1, r2, e, q⟩
  unfold dLt at e
  split at e
  . rename_i i j
    cases e; exact wk0 pins s σ H x y v u Q I rx ry ⟨i, j, r1.is_int, r2.is_int, q.now (.bl _)⟩
  . cases e
noncomputable def dLe : D -> D -> Option D
  | .int i, .int j => some (.bl (decide (i <= j)))
  | _, _ => none
theorem xu9 : OpR X (compareOp .LtE) (POp X.K κ dLe) := by
  rintro pins s σ H x y v u Q I rx ry ⟨dx, dy, d, fx, fy, r1, r2, e, q⟩
  unfold dLe at e
  split at e
  . rename_i i j
    cases e; exact wk1 pins s σ H x y v u Q I rx ry ⟨i, j, r1.is_int, r2.is_int, q.now (.bl _)⟩
  . cases e
noncomputable def dGt : D -> D -> Option D
  | .int i, .int j => some (.bl (decide (j < i)))
  | _, _ => none
theorem xc4 : OpR X (compareOp .Gt) (POp X.K κ dGt) := by
  rintro pins s σ H x y v u Q I rx ry ⟨dx, dy, d, fx, fy, r1, r2, e, q⟩
  unfold dGt at e
  split at e
  . rename_i i j
    cases e; exact wk2 pins s σ H x y v u Q I rx ry ⟨i, j, r1.is_int, r2.is_int, q.now (.bl _)⟩
  . cases e
noncomputable def dGe : D -> D -> Option D
  | .int i, .int j => some (.bl (decide (j <= i)))
  | _, _ => none
theorem xl0 : OpR X (compareOp .GtE) (POp X.K κ dGe) := by
  rintro pins s σ H x y v u Q I rx ry ⟨dx, dy, d, fx, fy, r1, r2, e, q⟩
  unfold dGe at e
  split at e
  . rename_i i j
    cases e; exact wk3 pins s σ H x y v u Q I rx ry ⟨i, j, r1.is_int, r2.is_int, q.now (.bl _)⟩
  . cases e
mutual
noncomputable def D.data : D -> Option PyData
  | .non => some .none
  | .bl b => some (.bool b)
  | .int i => some (.int i)
  | .str x => some (.str x)
  | .tup xs => (D.datas xs).map .tuple
  | .lst _ xs => (D.datas xs).map .list
  | _ => none
noncomputable def D.datas : List D -> Option (List PyData)
  | [] => some []
  | d :: ds => d.data.bind fun p => (D.datas ds).map (p :: ·)
end
theorem Reps.dps {K : PySem.W.Frag} {H : Hp} {vs : List V} {ds : List D} {fp : List Addr} (h : Reps K κ H vs ds fp) : ∀ {p : List PyData}, D.datas ds = some p -> DpAll K H vs p :=
  Reps.rec (motive_1 := fun v d _ _ => ∀ {p : PyData}, d.data = some p -> Dp K H v p) (motive_2 := fun vs ds _ _ => ∀ {p : List PyData}, D.datas ds = some p -> DpAll K H vs p)
    (fun e => by cases e; exact .non) (fun b _ e => by cases e; exact .bl b) (fun b _ e => by cases e; exact .int b) (fun b _ e => by cases e; exact .str b) (fun b _ e => nomatch e)
    (fun h _ ih _ e => by obtain ⟨ps, e1, e⟩ := Option.map_eq_some_iff.mp e; subst e; exact .tup h (ih e1)) (fun _ _ _ _ e => nomatch e)
    (fun h _ ih _ e => by obtain ⟨ps, e1, e⟩ := Option.map_eq_some_iff.mp e; subst e; exact .lst (.inl (.inl h)) (ih e1))
    (fun h _ ih _ e => by obtain ⟨ps, e1, e⟩ := Option.map_eq_some_iff.mp e; subst e; exact .lst (.inl (.inr ⟨_, h⟩)) (ih e1))
    (fun _ _ _ _ _ e => nomatch e) (fun _ _ _ _ _ e => nomatch e) (fun _ _ _ _ _ e => nomatch e) (fun _ _ _ _ _ e => nomatch e)
    (fun e => by cases e; exact .nil)
    (fun _ _ i1 i2 _ e => by
      obtain ⟨q, e1, e⟩ := bind_some e
      obtain ⟨qs, e2, e⟩ := Option.map_eq_some_iff.mp e
      subst e
      exact .cons (i1 e1) (i2 e2)) h
theorem Rep.dp {K : PySem.W.Frag} {H : Hp} {v : V} {d : D} {fp : List Addr} {p : PyData} (h : Rep K κ H v d fp) (e : d.data = some p) : Dp K H v p := by
  have := (Reps.one h).dps (p := [p]) (by show (d.data.bind _) = _; rw [e]; rfl)
  cases this; assumption
noncomputable def xf5 (x y : D) : Option Bool := x.data.bind fun a => y.data.bind fun b => if (a.canLay0 && b.canLay0 && decide (a.depth <= 60)) = true then some (PyData.eqv a b) else none
noncomputable def eqB (x y : D) : Option Bool := match x, y with
  | .int i, .int j => some (decide (i = j))
  | .str i, .str j => some (decide (i = j))
  | x, y => xf5 x y
noncomputable def dEq (x y : D) : Option D := (eqB x y).map .bl
noncomputable def dNe (x y : D) : Option D := (eqB x y).map fun b => .bl (!b)
theorem xq3 {x y : D} {b : Bool} (h : eqB x y = some b) : (∃ i j, x = .int i /\ y = .int j /\ b = decide (i = j)) \/ (∃ i j, x = .str i /\ y = .str j /\ b = decide (i = j)) \/
    ∃ p q, x.data = some p /\ y.data = some q /\ p.canLay0 = true /\ q.canLay0 = true /\ p.depth <= 60 /\ b = PyData.eqv p q := by
  have gen : xf5 x y = some b -> ∃ p q, x.data = some p /\ y.data = some q /\ p.canLay0 = true /\ q.canLay0 = true /\ p.depth <= 60 /\ b = PyData.eqv p q := fun h => by
    unfold xf5 at h
    cases e1 : x.data with
    | none => rw [e1] at h; cases h
    | some p =>
      rw [e1] at h
      cases e2 : y.data with
      | none => rw [e2] at h; cases h
      | some q =>
        rw [e2] at h
        have h' : (if (p.canLay0 && q.canLay0 && decide (p.depth <= 60)) = true then some (PyData.eqv p q) else none) = some b := h
        split at h'
        . rename_i hc
          simp only [Bool.and_eq_true, decide_eq_true_eq] at hc
          exact ⟨p, q, rfl, rfl, hc.1.1, hc.1.2, hc.2, (Option.some.inj h').symm⟩
        . cases h'
  unfold eqB at h
  split at h
  . cases h; exact .inl ⟨_, _, rfl, rfl, rfl⟩
  . cases h; exact .inr (.inl ⟨_, _, rfl, rfl, rfl⟩)
  . exact .inr (.inr (gen h))
theorem zq8 (hu : X.A.units + 64 < cLine) : OpR X (compareOp .Eq) (POp X.K κ dEq) := by
  rintro pins s σ H x y v u Q I rx ry ⟨dx, dy, d, fx, fy, r1, r2, e, q⟩
  unfold dEq at e
  cases e1 : eqB dx dy with
  | none => rw [e1] at e; cases e
  | some b =>
    rw [e1] at e
    cases e
    rcases xq3 e1 with ⟨i, j, rfl, rfl, rfl⟩ | ⟨i, j, rfl, rfl, rfl⟩ | ⟨p, p', h1, h2, h3, h4, h5, rfl⟩
    . rw [r1.is_int] at rx; rw [r2.is_int] at ry
      exact xj3 pins s σ H _ _ v u Q I rx ry ⟨rfl, by rw [show decide (V.int i = V.int j) = decide (i = j) by simp]; exact q.now (.bl _)⟩
    . rw [r1.is_str] at rx; rw [r2.is_str] at ry
      exact xj3 pins s σ H _ _ v u Q I rx ry ⟨rfl, by rw [show decide (V.str i = V.str j) = decide (i = j) by simp]; exact q.now (.bl _)⟩
    . exact wg8 hu pins s σ H _ _ v u Q I rx ry ⟨p, p', r1.dp h1, r2.dp h2, h3, h4, h5, q.now (.bl _)⟩
noncomputable def zk0 : D -> Bool
  | .non => true
  | _ => false
theorem xv0 {K : PySem.W.Frag} {H : Hp} {v : V} {d : D} {fp : List Addr} (r : Rep K κ H v d fp) : decide (v = .non) = zk0 d := by cases r <;> first | rfl | simp [zk0]
noncomputable def dIs : D -> D -> Option D
  | x, .non => some (.bl (zk0 x))
  | _, _ => none
theorem xv1 : OpR X (compareOp .Is) (POp X.K κ dIs) := by
  rintro pins s σ H x y v u Q I rx ry ⟨dx, dy, d, fx, fy, r1, r2, e, q⟩
  cases dy with
  | non =>
    cases e; cases r2
    refine wf7 pins s σ H x _ v u Q I rx ry ⟨rfl, ?_⟩
    rw [xv0 r1]; exact q.now (.bl _)
  | _ => cases e
noncomputable def D.flat : D -> Option V
  | .non => some .non
  | .bl b => some (.bl b)
  | .int i => some (.int i)
  | .str x => some (.str x)
  | _ => none
noncomputable def D.flats : List D -> Option (List V)
  | [] => some []
  | d :: ds => d.flat.bind fun v => (D.flats ds).map (v :: ·)
theorem xh5 {K : PySem.W.Frag} {H : Hp} {v w : V} {d : D} {fp : List Addr} (r : Rep K κ H v d fp) (h : d.flat = some w) : v = w /\ zr5 v = true := by
  cases r <;> first | (cases h; exact ⟨rfl, rfl⟩) | cases h
theorem xc5 {K : PySem.W.Frag} {H : Hp} : ∀ {vs ws : List V} {ds : List D} {fp : List Addr}, Reps K κ H vs ds fp -> D.flats ds = some ws -> vs = ws /\ vs.all zr5 = true
  | _, _, _, _, .nil, e => by cases e; exact ⟨rfl, rfl⟩
  | _, ws, d :: ds, _, .cons h hs, e => by
    rw [D.flats] at e
    cases e1 : d.flat with
    | none => rw [e1] at e; cases e
    | some w =>
      rw [e1] at e
      cases e2 : D.flats ds with
      | none => rw [e2] at e; cases e
      | some us =>
        rw [e2] at e; cases e
        obtain ⟨a1, a2⟩ := xh5 h e1
        obtain ⟨b1, b2⟩ := xc5 hs e2
        exact ⟨by rw [a1, b1], by rw [List.all_cons, a2, b2]; rfl⟩
noncomputable def zz5 (x : D) (ds : List D) : Option Bool := x.flat.bind fun v => (D.flats ds).map fun ws => inV v ws
noncomputable def inB (x : D) : D -> Option Bool
  | .lst _ ds => zz5 x ds
  | .tup ds => zz5 x ds
  | _ => none
noncomputable def dIn (x y : D) : Option D := (inB x y).map .bl
theorem wh0 {H : Hp} {x y : V} {dx dy : D} {fx fy : List Addr} {b : Bool} (r1 : Rep X.K κ H x dx fx) (r2 : Rep X.K κ H y dy fy) (e : inB dx dy = some b) :
    ∃ p xs, y = .ref p /\ (SqL X.K H p xs \/ SqT X.K H p xs) /\ zr5 x = true /\ xs.all zr5 = true /\ b = inV x xs := by
  have gen : ∀ {vs : List V} {ds : List D} {g : List Addr}, Reps X.K κ H vs ds g -> zz5 dx ds = some b -> zr5 x = true /\ vs.all zr5 = true /\ b = inV x vs := fun {vs ds g} rs h => by
    unfold zz5 at h
    cases e1 : dx.flat with
    | none => rw [e1] at h; cases h
    | some w =>
      rw [e1] at h
      cases e2 : D.flats ds with
      | none => rw [e2] at h; cases h
      | some ws =>
        rw [e2] at h
        obtain ⟨a1, a2⟩ := xh5 r1 e1
        obtain ⟨b1, b2⟩ := xc5 rs e2
        subst a1 b1
        exact ⟨a2, b2, (Option.some.inj h).symm⟩
  cases dy with
  | lst o ds =>
    obtain ⟨a, vs, g, rfl, h, hs, _⟩ := r2.lst_inv
    obtain ⟨g1, g2, g3⟩ := gen hs e
    exact ⟨a, vs, rfl, .inl (.inl h), g1, g2, g3⟩
  | tup ds =>
    obtain ⟨a, vs, rfl, h, hs⟩ := r2.tup_inv
    obtain ⟨g1, g2, g3⟩ := gen hs e
    exact ⟨a, vs, rfl, .inr h, g1, g2, g3⟩
  | _ => cases e
theorem xv2 : OpR X (compareOp .In) (POp X.K κ dIn) := by
  rintro pins s σ H x y v u Q I rx ry ⟨dx, dy, d, fx, fy, r1, r2, e, q⟩
  unfold dIn at e
  cases e1 : inB dx dy with
  | none => rw [e1] at e; cases e
  | some b =>
    rw [e1] at e; cases e
    obtain ⟨p, xs, ey, h, f1, f2, rfl⟩ := wh0 r1 r2 e1
    exact xp3 pins s σ H x y v u Q I rx ry ⟨p, xs, ey, h, f1, f2, q.now (.bl _)⟩
end
end L2
namespace L2
open PySem PySem.Spec PyProof.Rows
theorem Reps.getS {K : PySem.W.Frag} {κ : Str -> Addr} {H : Hp} : ∀ {vs : List V} {ds : List D} {fp : List Addr} {i : Nat} {d : D}, Reps K κ H vs ds fp -> ds[i]? = some d -> ∃ v f, vs[i]? = some v /\ Rep K κ H v d f /\ f.Sublist fp
  | _, _, _, _, _, .nil, e => by simp at e
  | _, _, _, 0, _, .cons h _, e => by simp at e; subst e; exact ⟨_, _, rfl, h, List.sublist_append_left _ _⟩
  | _, _, _, i + 1, _, .cons _ hs, e => by
    obtain ⟨v, f, h1, h2, h3⟩ := Reps.getS (i := i) hs (by simpa using e)
    exact ⟨v, f, by simpa using h1, h2, h3.trans (List.sublist_append_right _ _)⟩
theorem Reps.atI {K : PySem.W.Frag} {κ : Str -> Addr} {H : Hp} {vs : List V} {ds : List D} {fp : List Addr} {i : Int} {d : D} (r : Reps K κ H vs ds fp) (h : L2.atI ds i = some d) : ∃ v f, L2.atI vs i = some v /\ Rep K κ H v d f /\ f.Sublist fp := by
  unfold L2.atI at h |-
  rw [r.length]
  cases e : ixN ds.length i with
  | none => rw [e] at h; cases h
  | some j => rw [e] at h; exact r.getS h
section
variable {X : Cx} {κ : Str -> Addr} {e a b : Expr} {es : List Expr} {f fa fb : PSt -> Option D} {g : PSt -> Option (List D)} {pos p2 : Pos}
noncomputable def za2 : PSt -> Option (List D) := fun _ => some []
noncomputable def za1 (f : PSt -> Option D) (g : PSt -> Option (List D)) : PSt -> Option (List D) := fun ps => (f ps).bind fun d => (g ps).bind fun ds => some (d :: ds)
theorem yf5 {ps : PSt} {ds : List D} (h : za1 f g ps = some ds) : ∃ d es, f ps = some d /\ g ps = some es /\ ds = d :: es := by
  unfold za1 at h
  cases e1 : f ps with
  | none => rw [e1] at h; cases h
  | some d =>
    rw [e1] at h
    cases e2 : g ps with
    | none => rw [e2] at h; cases h
    | some es => rw [e2] at h; cases h; exact ⟨d, es, rfl, rfl, rfl⟩
theorem ze3 : QVA X κ [] za2 := zr8.imp fun σ H Q ⟨ps, ds, w, e, q⟩ => by cases e; exact q [] H [] (.refl H) .nil
theorem zc2 (ha : QV X κ e f) (hr : QVA X κ es g) (hs : starEach (e :: es) X.env = (false, eval e X.env) :: starEach es X.env := by rfl) : QVA X κ (e :: es) (za1 f g) :=
  (zk4 ha hr hs).imp fun σ H Q hh_ => by
    obtain ⟨ps, ds, w, e, q⟩ := hh_
    obtain ⟨d, es, e1, e2, rfl⟩ := yf5 e
    exact ⟨ps, d, w, e1, fun v H1 fp s1 r1 => ⟨ps, es, w.same s1, e2, fun vs H2 fq s2 r2 => q _ H2 _ (s1.trans s2) (.cons (r1.same s2) r2)⟩⟩
theorem ze7 : QPA X κ [] za2 := zr8.imp fun σ H Q ⟨ps, ds, w, e, q⟩ => by cases e; exact q [] H [] (.refl H) (fun _ h => absurd h (by simp)) List.nodup_nil .nil
theorem xq4 {K : PySem.W.Frag} {H1 : Hp} {v : V} {d : D} {fv fw : List Addr} (r : Rep K κ H1 v d fv) (n1 : fv.Nodup) (hw : ∀ a ∈ fw, H1 a = none) (n2 : fw.Nodup) : (fv ++ fw).Nodup := by
  rw [List.nodup_append]
  refine ⟨n1, n2, fun a ha b hb e => ?_⟩
  subst e
  obtain ⟨o, h, _⟩ := r.own a ha
  rw [hw a hb] at h; cases h
theorem zc8 (ha : QP X κ e f) (hr : QPA X κ es g) (hs : starEach (e :: es) X.env = (false, eval e X.env) :: starEach es X.env := by rfl) : QPA X κ (e :: es) (za1 f g) :=
  (zk4 ha hr hs).imp fun σ H Q hh_ => by
    obtain ⟨ps, ds, w, e, q⟩ := hh_
    obtain ⟨d, es, e1, e2, rfl⟩ := yf5 e
    refine ⟨ps, d, w, e1, fun v H1 fv s1 n1 nd1 r1 => ⟨ps, es, w.same s1, e2, fun vs H2 fw s2 n2 nd2 r2 => ?_⟩⟩
    refine q _ H2 (fv ++ fw) (s1.trans s2) (fun a ha => ?_) (xq4 r1 nd1 n2 nd2) (.cons (r1.same s2) r2)
    rcases List.mem_append.mp ha with z | z
    . exact n1 a z
    . exact s1.grow a (n2 a z)
noncomputable def zi5 (g : PSt -> Option (List D)) : PSt -> Option D := fun ps => (g ps).bind fun ds => if (D.imms ds && decide (ds.length <= 1000)) = true then some (.tup ds) else none
noncomputable def zi4 (g : PSt -> Option (List D)) : PSt -> Option D := fun ps => (g ps).bind fun ds => if ds.length <= 1000 then some (.lst true ds) else none
theorem zq7 {x1} (h : QPA X κ es g) : QP X κ (.Tuple es x1 pos) (zi5 g) :=
  (xb5 h).imp fun σ H Q hh_ => by
    obtain ⟨ps, d, w, e, q⟩ := hh_
    obtain ⟨ds, e1, e2⟩ := bind_some e
    obtain ⟨hc, e3⟩ := zd8 e2
    cases e3
    rw [Bool.and_eq_true, decide_eq_true_eq] at hc
    refine ⟨ps, ds, w, e1, fun vs H1 fv s1 n1 nd1 r1 => ⟨by rw [r1.length]; exact yk9 hc.2, fun p hp => ?_⟩⟩
    exact xh4 hp (r1.pair hc.1) (q.after s1)
theorem zn3 (h : QPA X κ es g) : QP X κ (.List es pos) (zi4 g) :=
  (wg1 h).imp fun σ H Q hh_ => by
    obtain ⟨ps, d, w, e, q⟩ := hh_
    obtain ⟨ds, e1, e2⟩ := bind_some e
    obtain ⟨hc, e3⟩ := zd8 e2
    cases e3
    refine ⟨ps, ds, w, e1, fun vs H1 fv s1 n1 nd1 r1 => ⟨by rw [r1.length]; exact yk9 hc, fun p hp => ?_⟩⟩
    refine q _ _ (p :: fv) (s1.trans (.new hp _)) (fun a ha => ?_) (List.nodup_cons.mpr ⟨fun hm => ?_, nd1⟩) (.lst zf3 (r1.same (.new hp _)))
    . rcases List.mem_cons.mp ha with z | z
      . rw [z]; exact s1.grow p hp
      . exact n1 a z
    . obtain ⟨o, h, _⟩ := r1.own p hm
      rw [hp] at h; cases h
noncomputable def dIx : D -> D -> Option D
  | .lst _ xs, .int i => atI xs i
  | .tup xs, .int i => atI xs i
  | .con xs, .int i => atI xs i
  | .str z, .int i => if z.length <= sizeLine then (atI z.cps.toList i).map fun c => .str ⟨#[c]⟩ else none
  | _, _ => none
theorem xq5 {K : PySem.W.Frag} {H : Hp} {x y : V} {dx dy d : D} {fx fy : List Addr} {Q : VK} (r1 : Rep K κ H x dx fx) (r2 : Rep K κ H y dy fy) (e : dIx dx dy = some d) (q : ∀ v f, Rep K κ H v d f -> f.Sublist fx -> Q v H) : rIx K x y H Q := by
  unfold dIx at e
  split at e
  . rename_i o xs i
    obtain ⟨a, vs, g, rfl, h, hs, sub⟩ := r1.lst_inv
    obtain ⟨v, f, h1, h2, h3⟩ := hs.atI e
    exact .inl ⟨a, vs, i, v, rfl, r2.is_int, .inl h, h1, q v f h2 (h3.trans sub)⟩
  . rename_i xs i
    obtain ⟨a, vs, rfl, h, hs⟩ := r1.tup_inv
    obtain ⟨v, f, h1, h2, h3⟩ := hs.atI e
    cases List.sublist_nil.mp h3
    exact .inr (.inl ⟨a, vs, i, v, rfl, r2.is_int, h, h1, q v [] h2 (List.nil_sublist _)⟩)
  . rename_i xs i
    obtain ⟨a, vs, rfl, h, hs⟩ := r1.con_inv
    obtain ⟨v, f, h1, h2, h3⟩ := hs.atI e
    cases List.sublist_nil.mp h3
    exact .inl ⟨a, vs, i, v, rfl, r2.is_int, h.l, h1, q v [] h2 (List.nil_sublist _)⟩
  . rename_i z i
    obtain ⟨hz, e⟩ := zd8 e
    obtain ⟨c, e1, e⟩ := Option.map_eq_some_iff.mp e
    subst e
    exact .inr (.inr ⟨z, i, c, r1.is_str, r2.is_int, hz, e1, q _ [] (.str _) (List.nil_sublist _)⟩)
  . cases e
theorem zg1 (ha : QV X κ a fa) (hb : QV X κ b fb) (hs : zw8 b := by exact fun _ _ => rfl) : QV X κ (.Subscript a b pos) (f2 dIx fa fb) :=
  (xa6 xp1 ha hb hs).imp fun σ H Q hh_ => by
    obtain ⟨ps, d, w, e, q⟩ := hh_
    obtain ⟨x, y, e1, e2, e3⟩ := yu7 e
    exact ⟨ps, x, w, e1, fun v H1 fp s1 r1 => ⟨ps, y, w.same s1, e2, fun u H2 fq s2 r2 => xq5 (r1.same s2) r2 e3 fun v f r _ => q v H2 f (s1.trans s2) r⟩⟩
theorem yq7 (ha : QP X κ a fa) (hb : QV X κ b fb) (hs : zw8 b := by exact fun _ _ => rfl) : QP X κ (.Subscript a b pos) (f2 dIx fa fb) :=
  (xa6 xp1 ha hb hs).imp fun σ H Q hh_ => by
    obtain ⟨ps, d, w, e, q⟩ := hh_
    obtain ⟨x, y, e1, e2, e3⟩ := yu7 e
    exact ⟨ps, x, w, e1, fun v H1 fv s1 n1 nd1 r1 => ⟨ps, y, w.same s1, e2, fun u H2 fq s2 r2 => xq5 (r1.same s2) r2 e3 fun v f r sub => q v H2 f (s1.trans s2) (fun c hc => n1 c (sub.subset hc)) (nd1.sublist sub) r⟩⟩
noncomputable def tO (K : PySem.W.Frag) (κ : Str -> Addr) (f : PSt -> Option (Option Int)) : TO := fun σ H Q => ∃ ps o, WS K κ H σ ps /\ f ps = some o /\ ∀ H', SameK H H' -> Q o H'
noncomputable abbrev QO (X : Cx) (κ : Str -> Addr) (e : Option Expr) (f : PSt -> Option (Option Int)) : Prop := PO X e (tO X.K κ f)
noncomputable def ye9 : PSt -> Option (Option Int) := fun _ => some none
noncomputable def ys3 (f : PSt -> Option D) : PSt -> Option (Option Int) := fun ps => (f ps).bind fun d => match d with
  | .int i => some (some i)
  | _ => none
theorem yl0 : QO X κ none ye9 := fun pins s σ H Q I ⟨ps, o, w, e, q⟩ => by cases e; exact wa9 pins s σ H Q I (q H (.refl H))
theorem yl1 (h : QV X κ e f) : QO X κ (some e) (ys3 f) := fun pins s σ H Q I hh_ => by
  obtain ⟨ps, o, w, e, q⟩ := hh_
  obtain ⟨d, e1, e2⟩ := bind_some e
  cases d with
  | int i => cases e2; exact wb0 h pins s σ H Q I ⟨ps, _, w, e1, fun v H1 fp s1 r1 => ⟨i, r1.is_int, q H1 s1⟩⟩
  | _ => cases e2
noncomputable def dSl : D -> Option Int -> Option Int -> Option D
  | .str z, lo, hi => if z.length <= sizeLine then some (.str (Txt.slice z lo hi)) else none
  | _, _, _ => none
noncomputable def PSl (K : PySem.W.Frag) (κ : Str -> Addr) : V -> Option Int -> Option Int -> Hp -> VK -> Prop := fun x lo hi H Q => ∃ dx d fx, Rep K κ H x dx fx /\ dSl dx lo hi = some d /\ zr0 K κ H d Q
theorem wh1 : SlR X (PSl X.K κ) := by
  rintro pins s σ H x v vl vu lo hi sl Q I rx hs pl pu ⟨dx, d, fx, r, e, q⟩
  unfold dSl at e
  split at e
  . obtain ⟨hc, e2⟩ := zd8 e
    cases e2
    exact wg7 pins s σ H _ v vl vu _ _ sl Q I rx hs pl pu ⟨_, r.is_str, hc, q.now (.str _)⟩
  . cases e
noncomputable def fSl (f : PSt -> Option D) (fl fh : PSt -> Option (Option Int)) : PSt -> Option D := fun ps => (f ps).bind fun d => (fl ps).bind fun l => (fh ps).bind fun h => dSl d l h
theorem yf6 {lo hi : Option Expr} {fl fh : PSt -> Option (Option Int)} (he : QV X κ e f) (hl : QO X κ lo fl) (hh : QO X κ hi fh) : QP X κ (.Subscript e (.Slice lo hi none p2) pos) (fSl f fl fh) :=
  (xu4 wh1 he hl hh).imp fun σ H Q hh_ => by
    obtain ⟨ps, d, w, e, q⟩ := hh_
    obtain ⟨d1, e1, e2⟩ := bind_some e
    obtain ⟨l, e3, e4⟩ := bind_some e2
    obtain ⟨h, e5, e6⟩ := bind_some e4
    exact ⟨ps, d1, w, e1, fun v H1 fp s1 r1 => ⟨ps, l, w.same s1, e3, fun H2 s2 => ⟨ps, h, (w.same s1).same s2, e5, fun H3 s3 => ⟨d1, d, fp, (r1.same s2).same s3, e6, q.after ((s1.trans s2).trans s3)⟩⟩⟩⟩
noncomputable def PCl (K : PySem.W.Frag) (κ : Str -> Addr) (g : List D -> Option D) : List V -> Hp -> VK -> Prop := fun vs H Q => ∃ ds fp d, Reps K κ H vs ds fp /\ g ds = some d /\ zr0 K κ H d Q
noncomputable def za5 (h : List D -> Option D) (g : PSt -> Option (List D)) : PSt -> Option D := fun ps => (g ps).bind h
theorem xq6 {h : List D -> Option D} {σ : St} {H : Hp} {Q : VK} (q : tP X.K κ (za5 h g) σ H Q) : tCB (PCl X.K κ h) (tVA X.K κ g) σ H Q := by
  obtain ⟨ps, d, w, e, q⟩ := q
  obtain ⟨ds, e1, e2⟩ := bind_some e
  exact ⟨ps, ds, w, e1, fun vs H1 fp s1 r1 => ⟨ds, fp, d, r1, e2, q.after s1⟩⟩
theorem zk5 {x : Str} {id : String} {p : Pos} {h : List D -> Option D} (hc : zi0 X (.builtin id) (PCl X.K κ h)) (hg : Gl X x) (hm : X.mg x = none) (hv : bootBuiltins x = some (.builtin id)) (ha : QVA X κ (e :: es) g) (hn : x ≠ "__name__" := by decide) (hdb : (x == ("__debug__" : Str)) = false := by decide)
    (hs : starEach (e :: es) X.env = (false, eval e X.env) :: starEach es X.env := by rfl) (hpl : (backTo pos (starEach es X.env)).any (·.1) = false := by rfl) : QP X κ (.Call (.Name x p) (e :: es) [] pos) (za5 h g) :=
  (ya4 hc hg hm hv ha hn hdb hs hpl).imp fun _ _ _ q => xq6 q
theorem yi5 {x : Str} {T : String} {p : Pos} {h : List D -> Option D} (hc : zi0 X (.type T) (PCl X.K κ h)) (hg : Gl X x) (hm : X.mg x = none) (hv : bootBuiltins x = some (.type T)) (ha : QVA X κ (e :: es) g) (hn : x ≠ "__name__" := by decide) (hdb : (x == ("__debug__" : Str)) = false := by decide)
    (hs : starEach (e :: es) X.env = (false, eval e X.env) :: starEach es X.env := by rfl) (hpl : (backTo pos (starEach es X.env)).any (·.1) = false := by rfl) : QP X κ (.Call (.Name x p) (e :: es) [] pos) (za5 h g) :=
  (yy1 hc hg hm hv ha hn hdb hs hpl).imp fun _ _ _ q => xq6 q
theorem Reps.two_inv {K : PySem.W.Frag} {H : Hp} {vs : List V} {d e : D} {fp : List Addr} (r : Reps K κ H vs [d, e] fp) : ∃ v u f g, vs = [v, u] /\ Rep K κ H v d f /\ Rep K κ H u e g := by
  obtain ⟨v, us, f, g, rfl, h, t, rfl⟩ := r.split
  obtain ⟨u, rfl, h2⟩ := t.one_inv
  exact ⟨v, u, f, g, rfl, h, h2⟩
noncomputable def zh0 : List D -> Option D
  | [.lst _ xs] => some (.int xs.length)
  | [.tup xs] => some (.int xs.length)
  | [.con xs] => some (.int xs.length)
  | [.str z] => if z.length <= sizeLine then some (.int z.length) else none
  | _ => none
theorem zv0 : zi0 X (.builtin "len") (PCl X.K κ zh0) := by
  rintro pins s σ H vs us Q I r ⟨ds, fp, d, rs, e, q⟩
  unfold zh0 at e
  split at e
  . cases e
    obtain ⟨v, rfl, r1⟩ := rs.one_inv
    obtain ⟨a, ws, g, rfl, h, hs, _⟩ := r1.lst_inv
    exact zp6 pins s σ H _ us Q I r ⟨a, ws, rfl, .inl (.inl h), by rw [hs.length]; exact q.now (.int _)⟩
  . cases e
    obtain ⟨v, rfl, r1⟩ := rs.one_inv
    obtain ⟨a, ws, rfl, h, hs⟩ := r1.tup_inv
    exact zp6 pins s σ H _ us Q I r ⟨a, ws, rfl, .inr h, by rw [hs.length]; exact q.now (.int _)⟩
  . cases e
    obtain ⟨v, rfl, r1⟩ := rs.one_inv
    obtain ⟨a, ws, rfl, h, hs⟩ := r1.con_inv
    exact zp6 pins s σ H _ us Q I r ⟨a, ws, rfl, .inl h.l, by rw [hs.length]; exact q.now (.int _)⟩
  . obtain ⟨hz, e⟩ := zd8 e
    cases e
    obtain ⟨v, rfl, r1⟩ := rs.one_inv
    exact xb7 pins s σ H _ us Q I r ⟨_, by rw [r1.is_str], hz, q.now (.int _)⟩
  . cases e
noncomputable def dTy : D -> Option String
  | .non => some "NoneType"
  | .bl _ => some "bool"
  | .int _ => some "int"
  | .str _ => some "str"
  | .lst _ _ => some "list"
  | .tup _ => some "tuple"
  | .dic true _ _ => some "dict"
  | _ => none
noncomputable def yj9 : List D -> Option D
  | [x, .ty c] => (dTy x).bind fun t => if c ∈ ["bool", "int", "str", "list", "tuple", "dict"] then some (.bl (ys2 t c)) else none
  | _ => none
theorem wh2 {K : PySem.W.Frag} {H : Hp} {v : V} {d : D} {fp : List Addr} {t : String} (r : Rep K κ H v d fp) (h : dTy d = some t) : (ye8 H v = some t \/ (t = "tuple" /\ ∃ a xs, v = .ref a /\ SqT K H a xs)) := by
  cases r with
  | non => cases h; exact .inl rfl
  | bl _ => cases h; exact .inl rfl
  | int _ => cases h; exact .inl rfl
  | str _ => cases h; exact .inl rfl
  | tup s _ => cases h; exact .inr ⟨rfl, _, _, rfl, s⟩
  | lst s _ => cases h; exact .inl (by simp [ye8, s])
  | lstF s _ => cases h; exact .inl (by simp [ye8, s])
  | dic s _ _ => cases h; exact .inl (by simp [ye8, s])
  | _ => cases h
theorem xl1 : zi0 X (.builtin "isinstance") (PCl X.K κ yj9) := by
  rintro pins s σ H vs us Q I r ⟨ds, fp, d, rs, e, q⟩
  unfold yj9 at e
  split at e
  . obtain ⟨t, e1, e2⟩ := bind_some e
    obtain ⟨hc, e3⟩ := zd8 e2
    cases e3
    obtain ⟨v, u, f, g, rfl, r1, r2⟩ := rs.two_inv
    cases r2
    rcases wh2 r1 e1 with h | ⟨rfl, a, xs, rfl, h⟩
    . exact xu8 pins s σ H _ us Q I r ⟨_, _, t, rfl, h, hc, q.now (.bl _)⟩
    . obtain ⟨u1, u2, rfl, rx, rc⟩ := xj6 r
      cases (show u2 = Value.type _ from rc)
      cases (show u1 = Value.ref a from rx)
      obtain ⟨its, rv, ⟨o, h1, h2, _⟩, _⟩ := I.tuple h
      exact PySem.W.kia_one PySem.W.kitx_tuple I.kIn ⟨o, h1, h2⟩ (xb9 X.K "tuple" (by decide) _ hc) (fun z => nomatch z) fun tk => ⟨.bl _, H, I.tok tk, rfl, q.now (.bl _)⟩
  . cases e
noncomputable def zs2 : List D -> Option D
  | [.lst _ xs] => if D.imms xs = true then some (.tup xs) else none
  | [.tup xs] => some (.tup xs)
  | _ => none
theorem ye2 : zi0 X (.type "tuple") (PCl X.K κ zs2) := by
  rintro pins s σ H vs us Q I r ⟨ds, fp, d, rs, e, q⟩
  unfold zs2 at e
  split at e
  . obtain ⟨hc, e⟩ := zd8 e
    cases e
    obtain ⟨v, rfl, r1⟩ := rs.one_inv
    obtain ⟨a, ws, g, rfl, h, hs, _⟩ := r1.lst_inv
    exact yh6 pins s σ H _ us Q I r ⟨a, ws, rfl, .inl ⟨.inl h, fun p hp => xh4 hp (hs.pair hc) q⟩⟩
  . cases e
    obtain ⟨v, rfl, r1⟩ := rs.one_inv
    obtain ⟨a, ws, rfl, h, hs⟩ := r1.tup_inv
    exact yh6 pins s σ H _ us Q I r ⟨a, ws, rfl, .inr ⟨h, q.now (.tup h hs)⟩⟩
  . cases e
noncomputable def yp1 : List D -> Option D
  | [.lst _ xs] => (D.ints xs).map fun ns => .int ns.sum
  | _ => none
theorem xl2 (hc : X.calm = true) : zi0 X (.builtin "sum") (PCl X.K κ yp1) := by
  rintro pins s σ H vs us Q I r ⟨ds, fp, d, rs, e, q⟩
  unfold yp1 at e
  split at e
  . rename_i xs
    cases e1 : D.ints xs with
    | none => rw [e1] at e; cases e
    | some bs =>
      rw [e1] at e; cases e
      obtain ⟨v, rfl, r1⟩ := rs.one_inv
      obtain ⟨a, ws, g, rfl, h, hs, _⟩ := r1.lst_inv
      rw [yu8 hs e1] at h
      exact xq0 hc pins s σ H _ us Q I r ⟨a, bs, rfl, .inl h, q.now (.int _)⟩
  . cases e
noncomputable def PMt (K : PySem.W.Frag) (κ : Str -> Addr) (g : D -> List D -> Option D) : V -> List V -> Hp -> VK -> Prop := fun x vs H Q => ∃ dx ds fx fp d, Rep K κ H x dx fx /\ Reps K κ H vs ds fp /\ g dx ds = some d /\ zr0 K κ H d Q
noncomputable def xn7 : D -> Bool
  | .str _ => true
  | _ => false
noncomputable def fMt (h : D -> List D -> Option D) (f : PSt -> Option D) (g : PSt -> Option (List D)) : PSt -> Option D := fun ps => (f ps).bind fun x => (g ps).bind fun ds => if xn7 x = true then h x ds else none
theorem yl2 {name : Str} {id : String} {apos : Pos} {h : D -> List D -> Option D} (slot : Slot "str" name id) (hty : typeOf (.builtin id) = pure (.type "method_descriptor")) (hm : MtR X id (PMt X.K κ h)) (ho : QV X κ a fa) (ha : QVA X κ (e :: es) g)
    (hbase : attributeBase a name X.env (eval a X.env) = eval a X.env := by rfl)
    (hfew : ((backTo pos (starEach (e :: es) X.env)).all (fun x => !x.1) && (backToKw pos (keywordEach [] X.env)).all (fun x => x.1.isSome)
      && decide ((e :: es).length + ([] : List Keyword).length + (if ([] : List Keyword).isEmpty then 0 else 1) < 30)) = true := by rfl)
    (hline : (apos.endLine == pos.line) = true := by rfl) (hs : starEach (e :: es) X.env = (false, eval e X.env) :: starEach es X.env := by rfl) (hplain : (backTo pos (starEach es X.env)).any (·.1) = false := by rfl) :
    QP X κ (.Call (.Attribute a name apos) (e :: es) [] pos) (fMt h fa g) :=
  (xk2 PySem.F.plainAttrs_str slot hty hm ho ha hbase hfew hline hs hplain).imp fun σ H Q hh_ => by
    obtain ⟨ps, d, w, e, q⟩ := hh_
    obtain ⟨x, e1, e2⟩ := bind_some e
    obtain ⟨ds, e3, e4⟩ := bind_some e2
    obtain ⟨hc, e5⟩ := zd8 e4
    refine ⟨ps, x, w, e1, fun v H1 fp s1 r1 => ⟨?_, ps, ds, w.same s1, e3, fun vs H2 fq s2 r2 => ⟨x, ds, fp, fq, d, r1.same s2, r2, e5, q.after (s1.trans s2)⟩⟩⟩
    cases x with
    | str z => rw [r1.is_str]; rfl
    | _ => cases hc
noncomputable def zd5 (l : List Str) : List D := l.map .str
noncomputable def D.strs : List D -> Option (List Str)
  | [] => some []
  | .str b :: ds => (D.strs ds).map (b :: ·)
  | _ :: _ => none
theorem ye3 {K : PySem.W.Frag} {H : Hp} : ∀ {vs : List V} {ds : List D} {fp : List Addr} {ns : List Str}, Reps K κ H vs ds fp -> D.strs ds = some ns -> vs = ns.map V.str
  | _, _, _, _, .nil, e => by cases e; rfl
  | _, d :: ds, _, ns, .cons h hs, e => by
    cases d with
    | str i =>
      rw [D.strs] at e
      cases e1 : D.strs ds with
      | none => rw [e1] at e; cases e
      | some ms => rw [e1] at e; cases e; rw [h.is_str, ye3 hs e1]; rfl
    | _ => cases e
noncomputable def zx5 : D -> List D -> Option D
  | .str z, [.lst _ xs] => (D.strs xs).bind fun ys => if (z.length <= 16 /\ (ys.map (·.length)).sum + ys.length <= 1048576) then some (.str (Txt.join z ys)) else none
  | _, _ => none
theorem yq8 : MtR X "str.join" (PMt X.K κ zx5) := by
  rintro pins s σ H x vs v us Q I rx r ⟨dx, ds, fx, fp, d, r1, rs, e, q⟩
  unfold zx5 at e
  split at e
  . obtain ⟨ys, e1, e2⟩ := bind_some e
    obtain ⟨hc, e⟩ := zd8 e2
    cases e
    obtain ⟨w, rfl, r2⟩ := rs.one_inv
    obtain ⟨a, ws, g, rfl, h, hs, _⟩ := r2.lst_inv
    rw [ye3 hs e1] at h
    exact wb3 pins s σ H x _ v us Q I rx r ⟨_, a, ys, r1.is_str, rfl, .inl h, hc.1, hc.2, q.now (.str _)⟩
  . cases e
end
end L2
namespace L2
open PySem PySem.Spec PyProof.Rows
structure Fx where
  K : PySem.W.Frag
  κ : Str -> Addr
  bor : Nat -> Bool
  M : Nat -> Bool
  B : Nat -> Addr -> Prop
structure RS (φ : Fx) (H : Hp) (σ : St) (ps : PSt) (F : Nat -> List Addr) : Prop where
  rep : ∀ (i : Nat) (d : D), ps[i]? = some (some d) -> ∃ v fp, σ[i]? = some (some v) /\ Rep φ.K φ.κ H v d fp /\ (φ.bor i = false -> fp = F i) /\ (φ.bor i = true -> ∀ a ∈ fp, φ.B i a)
  emp : ∀ i a, a ∈ F i -> φ.bor i = false /\ ∃ d, ps[i]? = some (some d)
  dis : ∀ i j a, a ∈ F i -> a ∈ F j -> i = j
  nd : ∀ i, (F i).Nodup
  nb : ∀ i a, a ∈ F i -> ∀ k, ¬ φ.B k a
  bt : ∀ k a, φ.B k a -> H a ≠ none
  len : ps.length <= σ.length
structure Frm (F : Nat -> List Addr) (H H' : Hp) : Prop where
  keep : ∀ a o, H a = some o -> kd o = true -> (∀ i, a ∉ F i) -> H' a = some o
  grow : ∀ a, H' a = none -> H a = none
structure Stp (φ : Fx) (σ : St) (H : Hp) (F : Nat -> List Addr) (σ' : St) (H' : Hp) (ps' : PSt) (F' : Nat -> List Addr) : Prop where
  fr : Frm F H H'
  nw : ∀ i a, a ∈ F' i -> (∃ j, a ∈ F j) \/ H a = none
  rs : RS φ H' σ' ps' F'
  msk : ∀ i, φ.M i = true -> σ'[i]? = σ[i]?
structure OwnV (F : Nat -> List Addr) (H : Hp) (F' : Nat -> List Addr) (fv : List Addr) : Prop where
  nw : ∀ a ∈ fv, (∃ j, a ∈ F j) \/ H a = none
  nd : fv.Nodup
  dis : ∀ i, ∀ a ∈ F' i, a ∉ fv
section
variable {φ : Fx} {H H' H1 H2 : Hp} {σ σ1 σ2 : St} {ps ps1 ps2 : PSt} {F F1 F2 : Nat -> List Addr}
theorem RS.own (R : RS φ H σ ps F) {i : Nat} {a : Addr} (h : a ∈ F i) : ∃ o, H a = some o /\ kd o = true /\ tf o = false := by
  obtain ⟨b, d, e⟩ := R.emp i a h
  obtain ⟨v, fp, _, r, q, _⟩ := R.rep i d e
  rw [<- q b] at h
  exact r.own a h
theorem RS.ws (R : RS φ H σ ps F) : WS φ.K φ.κ H σ ps := fun i d h => by
  obtain ⟨v, fp, h1, h2, _⟩ := R.rep i d h
  exact ⟨v, fp, h1, h2⟩
theorem RS.same (R : RS φ H σ ps F) (s : SameK H H') : RS φ H' σ ps F :=
  ⟨fun i d h => by obtain ⟨v, fp, h1, h2, h3⟩ := R.rep i d h; exact ⟨v, fp, h1, h2.same s, h3⟩, R.emp, R.dis, R.nd, R.nb, fun k a h z => R.bt k a h (s.grow a z), R.len⟩
theorem RS.notB (R : RS φ H σ ps F) {a : Addr} (h : (∃ j, a ∈ F j) \/ H a = none) : ∀ k, ¬ φ.B k a := fun k hb => h.elim (fun ⟨j, hj⟩ => R.nb j a hj k hb) fun z => R.bt k a hb z
theorem Stp.same (R : RS φ H σ ps F) (s : SameK H H') : Stp φ σ H F σ H' ps F :=
  ⟨⟨fun a o h k _ => s.keep a o h k, s.grow⟩, fun i a h => .inl ⟨i, h⟩, R.same s, fun _ _ => rfl⟩
theorem Stp.refl (R : RS φ H σ ps F) : Stp φ σ H F σ H ps F := .same R (.refl H)
theorem Stp.trans (s1 : Stp φ σ H F σ1 H1 ps1 F1) (s2 : Stp φ σ1 H1 F1 σ2 H2 ps2 F2) : Stp φ σ H F σ2 H2 ps2 F2 := by
  refine ⟨⟨fun a o h k n => s2.fr.keep a o (s1.fr.keep a o h k n) k fun i hi => ?_, fun a h => s1.fr.grow a (s2.fr.grow a h)⟩, fun i a h => ?_, s2.rs, fun i h => (s2.msk i h).trans (s1.msk i h)⟩
  . rcases s1.nw i a hi with ⟨j, hj⟩ | z
    . exact n j hj
    . rw [h] at z; cases z
  . rcases s2.nw i a h with ⟨j, hj⟩ | z
    . exact s1.nw j a hj
    . exact .inr (s1.fr.grow a z)
theorem OwnV.after {fv : List Addr} (s1 : Stp φ σ H F σ1 H1 ps1 F1) (o : OwnV F1 H1 F2 fv) : OwnV F H F2 fv :=
  ⟨fun a ha => (o.nw a ha).elim (fun ⟨j, hj⟩ => s1.nw j a hj) fun z => .inr (s1.fr.grow a z), o.nd, o.dis⟩
theorem OwnV.new {fv : List Addr} (R : RS φ H σ ps F) (n : ∀ a ∈ fv, H a = none) (nd : fv.Nodup) : OwnV F H F fv :=
  ⟨fun a ha => .inr (n a ha), nd, fun i a ha hb => by obtain ⟨o, h, _⟩ := R.own ha; rw [n a hb] at h; cases h⟩
noncomputable def zu5 (F : Nat -> List Addr) (i : Nat) (fv : List Addr) : Nat -> List Addr := fun j => if j = i then fv else F j
theorem zh1 {i : Nat} {fv : List Addr} : zu5 F i fv i = fv := by simp [zu5]
theorem zg5 {i j : Nat} {fv : List Addr} (h : j ≠ i) : zu5 F i fv j = F j := by simp [zu5, h]
theorem zq1 {i : Nat} {fv : List Addr} {j : Nat} {a : Addr} (h : a ∈ zu5 F i fv j) : a ∈ fv \/ a ∈ F j := by
  by_cases e : j = i
  . subst e; rw [zh1] at h; exact .inl h
  . rw [zg5 e] at h; exact .inr h
theorem RS.drop (R : RS φ H σ ps F) (i : Nat) : RS φ H σ (ps.set i none) (zu5 F i []) := by
  have eF : ∀ j a, a ∈ zu5 F i [] j -> j ≠ i /\ a ∈ F j := fun j a h => by
    by_cases e : j = i
    . subst e; rw [zh1] at h; exact absurd h (by simp)
    . rw [zg5 e] at h; exact ⟨e, h⟩
  refine ⟨fun j d h => ?_, fun j a h => ?_, fun j k a h1 h2 => R.dis j k a (eF j a h1).2 (eF k a h2).2, fun j => ?_, fun j a h => R.nb j a (eF j a h).2, R.bt, by simpa using R.len⟩
  . have e : j ≠ i := by
      rintro rfl
      by_cases hj : j < ps.length
      . rw [List.getElem?_set_self hj] at h; cases h
      . rw [List.getElem?_eq_none (by simpa using hj)] at h; cases h
    rw [List.getElem?_set_ne (fun z => e z.symm)] at h
    rw [zg5 e]
    exact R.rep j d h
  . obtain ⟨e, h⟩ := eF j a h
    obtain ⟨b, d, q⟩ := R.emp j a h
    exact ⟨b, d, by rw [List.getElem?_set_ne (fun z => e z.symm)]; exact q⟩
  . by_cases e : j = i
    . subst e; rw [zh1]; exact List.nodup_nil
    . rw [zg5 e]; exact R.nd j
theorem RS.set (R : RS φ H σ ps F) {i : Nat} {v : V} {d : D} {fv : List Addr} (r : Rep φ.K φ.κ H v d fv) (hb : φ.bor i = false \/ fv = []) (hd : ∀ j, j ≠ i -> ∀ a ∈ F j, a ∉ fv) (hn : fv.Nodup) (hB : ∀ a ∈ fv, ∀ k, ¬ φ.B k a) :
    RS φ H (σ.set i (some v)) (ps.set i (some d)) (zu5 F i (if i < ps.length then fv else [])) := by
  by_cases hi : i < ps.length
  . rw [if_pos hi]
    have hl := R.len
    refine ⟨fun j d' h => ?_, fun j a h => ?_, fun j k a h1 h2 => ?_, fun j => ?_, fun j a h => ?_, R.bt, by simpa using R.len⟩
    . by_cases e : j = i
      . subst e
        rw [List.getElem?_set_self hi] at h
        cases h
        refine ⟨v, fv, by rw [List.getElem?_set_self (by omega)], r, fun _ => zh1.symm, fun z => ?_⟩
        rcases hb with q | q
        . rw [q] at z; cases z
        . subst q; intro a ha; exact absurd ha (by simp)
      . rw [List.getElem?_set_ne (fun z => e z.symm)] at h |-
        rw [zg5 e]
        exact R.rep j d' h
    . by_cases e : j = i
      . subst e
        rw [zh1] at h
        refine ⟨?_, d, by rw [List.getElem?_set_self hi]⟩
        rcases hb with q | q
        . exact q
        . subst q; exact absurd h (by simp)
      . rw [zg5 e] at h
        obtain ⟨b, d', q⟩ := R.emp j a h
        exact ⟨b, d', by rw [List.getElem?_set_ne (fun z => e z.symm)]; exact q⟩
    . by_cases e1 : j = i
      . by_cases e2 : k = i
        . rw [e1, e2]
        . subst e1; rw [zh1] at h1; rw [zg5 e2] at h2; exact absurd h1 (hd k e2 a h2)
      . by_cases e2 : k = i
        . subst e2; rw [zh1] at h2; rw [zg5 e1] at h1; exact absurd h2 (hd j e1 a h1)
        . rw [zg5 e1] at h1; rw [zg5 e2] at h2; exact R.dis j k a h1 h2
    . by_cases e : j = i
      . subst e; rw [zh1]; exact hn
      . rw [zg5 e]; exact R.nd j
    . rcases zq1 h with z | z
      . exact hB a z
      . exact R.nb j a z
  . rw [if_neg hi]
    have e0 : ps.set i (some d) = ps := List.set_eq_of_length_le (by omega)
    rw [e0]
    have R' := R.drop i
    rw [List.set_eq_of_length_le (by omega)] at R'
    refine ⟨fun j d' h => ?_, R'.emp, R'.dis, R'.nd, R'.nb, R'.bt, by simpa using R.len⟩
    have hj : j ≠ i := by
      rintro rfl
      have := (List.getElem?_eq_some_iff.mp h).1
      omega
    rw [List.getElem?_set_ne (fun z => hj z.symm)]
    exact R'.rep j d' h
theorem Stp.set {fv : List Addr} {i : Nat} {v : V} {d : D} (s1 : Stp φ σ H F σ1 H1 ps1 F1) (o : OwnV F H F1 fv) (R : RS φ H σ ps F) (r : Rep φ.K φ.κ H1 v d fv) (hb : φ.bor i = false \/ fv = []) (hm : φ.M i = false) :
    ∃ F', Stp φ σ H F (σ1.set i (some v)) H1 (ps1.set i (some d)) F' := by
  refine ⟨_, s1.fr, fun j a h => ?_, s1.rs.set r hb (fun j _ => o.dis j) o.nd fun a ha => R.notB (o.nw a ha), fun j h => ?_⟩
  . rcases zq1 h with z | z
    . by_cases k : i < ps1.length
      . rw [if_pos k] at z; exact o.nw a z
      . rw [if_neg k] at z; exact absurd z (by simp)
    . exact s1.nw j a z
  . rw [List.getElem?_set_ne (fun z => by subst z; rw [hm] at h; cases h)]
    exact s1.msk j h
end
inductive Fl where
  | nx | bk | ct | ret (d : D)
noncomputable def yh2 (φ : Fx) (E : Ends) (σ : St) (H : Hp) (F : Nat -> List Addr) (fl : Fl) (ps' : PSt) : Prop := match fl with
  | .nx => ∀ σ' H' F', Stp φ σ H F σ' H' ps' F' -> E.nx σ' H'
  | .bk => ∀ σ' H' F', Stp φ σ H F σ' H' ps' F' -> E.bk σ' H'
  | .ct => ∀ σ' H' F', Stp φ σ H F σ' H' ps' F' -> E.ct σ' H'
  | .ret d => ∀ v σ' H' F' fv, Stp φ σ H F σ' H' ps' F' -> OwnV F H F' fv -> Rep φ.K φ.κ H' v d fv -> E.rt v H'
noncomputable def tS (φ : Fx) (f : PSt -> Option (Fl × PSt)) : TS := fun E σ H => ∃ ps F fl ps', RS φ H σ ps F /\ f ps = some (fl, ps') /\ yh2 φ E σ H F fl ps'
noncomputable def tE (φ : Fx) (f : PSt -> Option (D × PSt)) : TE := fun σ H Q => ∃ ps F d ps', RS φ H σ ps F /\ f ps = some (d, ps') /\ ∀ v H' F' fv, Stp φ σ H F σ H' ps' F' -> OwnV F H F' fv -> Rep φ.K φ.κ H' v d fv -> Q v H'
noncomputable def tTE (φ : Fx) (f : PSt -> Option (Bool × PSt)) : TT := fun σ H Q => ∃ ps F b ps', RS φ H σ ps F /\ f ps = some (b, ps') /\ ∀ H' F', Stp φ σ H F σ H' ps' F' -> Q b H'
structure F0 where
  bor : Nat -> Bool
  M : Nat -> Bool
  B : Nat -> Addr -> Prop
noncomputable def F0.fx (φ : F0) (K : PySem.W.Frag) (κ : Str -> Addr) : Fx := ⟨K, κ, φ.bor, φ.M, φ.B⟩
noncomputable abbrev QS (X : Cx) (κ : Str -> Addr) (φ : F0) (st : Stmt) (f : PSt -> Option (Fl × PSt)) : Prop := PS X st (tS (φ.fx X.K κ) f)
noncomputable abbrev QSs (X : Cx) (κ : Str -> Addr) (φ : F0) (st : List Stmt) (f : PSt -> Option (Fl × PSt)) : Prop := PSs X st (tS (φ.fx X.K κ) f)
noncomputable abbrev QE (X : Cx) (κ : Str -> Addr) (φ : F0) (e : Expr) (f : PSt -> Option (D × PSt)) : Prop := PE X e (tE (φ.fx X.K κ) f)
noncomputable abbrev QTE (X : Cx) (κ : Str -> Addr) (φ : F0) (e : Expr) (f : PSt -> Option (Bool × PSt)) : Prop := PT X e (tTE (φ.fx X.K κ) f)
theorem yn7 {φ : Fx} {f : PSt -> Option (Fl × PSt)} {E : Ends} {σ σ1 : St} {H H1 : Hp} {F F1 : Nat -> List Addr} {ps1 ps2 : PSt} {fl : Fl} (s1 : Stp φ σ H F σ1 H1 ps1 F1) (e : f ps1 = some (fl, ps2)) (q : yh2 φ E σ H F fl ps2) : tS φ f E σ1 H1 := by
  refine ⟨ps1, F1, fl, ps2, s1.rs, e, ?_⟩
  cases fl with
  | nx => exact fun σ' H' F' s => q σ' H' F' (s1.trans s)
  | bk => exact fun σ' H' F' s => q σ' H' F' (s1.trans s)
  | ct => exact fun σ' H' F' s => q σ' H' F' (s1.trans s)
  | ret d => exact fun v σ' H' F' fv s o r => q v σ' H' F' fv (s1.trans s) (o.after s1) r
noncomputable def zd7 : PSt -> Option (Fl × PSt) := fun ps => some (.nx, ps)
noncomputable def zb8 (f g : PSt -> Option (Fl × PSt)) : PSt -> Option (Fl × PSt) := fun ps => (f ps).bind fun r => match r with
  | (.nx, ps') => g ps'
  | (.bk, ps') => some (.bk, ps')
  | (.ct, ps') => some (.ct, ps')
  | (.ret d, ps') => some (.ret d, ps')
noncomputable def yf0 : PSt -> Option (Fl × PSt) := fun _ => none
section
variable {X : Cx} {κ : Str -> Addr} {φ : F0} {st : Stmt} {zb9 : List Stmt} {f g : PSt -> Option (Fl × PSt)} {pos : Pos}
theorem zg6 : QSs X κ φ [] zd7 := xg9.imp fun E σ H ⟨ps, F, fl, ps', R, e, q⟩ => by cases e; exact q σ H F (.refl R)
theorem zc1 (h : QS X κ φ st f) : QSs X κ φ [st] f := yk6 h
theorem zb2 (h1 : QS X κ φ st f) (h2 : QSs X κ φ zb9 g) : QSs X κ φ (st :: zb9) (zb8 f g) :=
  (zu1 h1 h2).imp fun E σ H hh_ => by
    obtain ⟨ps, F, fl, ps', R, e, q⟩ := hh_
    obtain ⟨⟨fl1, ps1⟩, e1, e2⟩ := bind_some e
    refine ⟨ps, F, fl1, ps1, R, e1, ?_⟩
    cases fl1 with
    | nx => exact fun σ' H' F' s => yn7 s e2 q
    | bk => cases e2; exact q
    | ct => cases e2; exact q
    | ret d => cases e2; exact q
theorem zw3 : QS X κ φ st yf0 := xt3.imp fun E σ H ⟨ps, F, fl, ps', R, e, q⟩ => by cases e
noncomputable def za4 (f : PSt -> Option D) : PSt -> Option (D × PSt) := fun ps => (f ps).bind fun d => some (d, ps)
theorem QP.e {e : Expr} {f : PSt -> Option D} (h : PE X e (tP X.K κ f)) : QE X κ φ e (za4 f) := h.imp fun σ H Q hh_ => by
  obtain ⟨ps, F, d, ps', R, e, q⟩ := hh_
  obtain ⟨d1, e1, e2⟩ := bind_some e
  cases e2
  exact ⟨ps, _, R.ws, e1, fun v H' fv s n nd r => q v H' F fv (.same R s) (.new R n nd) r⟩
noncomputable def za6 (f : PSt -> Option Bool) : PSt -> Option (Bool × PSt) := fun ps => (f ps).bind fun d => some (d, ps)
theorem QT.e {e : Expr} {f : PSt -> Option Bool} (h : PT X e (tQ X.K κ f)) : QTE X κ φ e (za6 f) := h.imp fun σ H Q hh_ => by
  obtain ⟨ps, F, d, ps', R, e, q⟩ := hh_
  obtain ⟨d1, e1, e2⟩ := bind_some e
  cases e2
  exact ⟨ps, _, R.ws, e1, fun H' s => q H' F (.same R s)⟩
noncomputable def zd1 (i : Nat) (f : PSt -> Option (D × PSt)) : PSt -> Option (Fl × PSt) := fun ps => (f ps).bind fun r => some (.nx, r.2.set i (some r.1))
theorem zh9 (i : Nat) {x : Str} {e : Expr} {pos' : Pos} {f : PSt -> Option (D × PSt)} (hN : X.N.Nodup) (hi : X.N[i]? = some x) (hx : Loc X.env.scope x) (hb : φ.bor i = false) (hm : φ.M i = false) (he : QE X κ φ e f) (hs : swapsWith e (some (.Name x pos')) pos.line X.env = pure false := by rfl) (hf : X.fn x = true \/ X.env.scope.names.lookup x = some .local := by first | exact .inl rfl | exact .inr rfl | assumption) :
    QS X κ φ (.Assign [.Name x pos'] e pos) (zd1 i f) := (yd8 hN hi hx he hs hf).imp fun E σ H hh_ => by
  obtain ⟨ps, F, fl, ps', R, e, q⟩ := hh_
  obtain ⟨⟨d, ps1⟩, e1, e2⟩ := bind_some e
  cases e2
  refine ⟨ps, F, d, ps1, R, e1, fun v H' F' fv s o r => ?_⟩
  obtain ⟨F2, s2⟩ := s.set o R r (.inl hb) hm (i := i)
  exact q _ _ F2 s2
noncomputable def zb4 (f : PSt -> Option (D × PSt)) : PSt -> Option (Fl × PSt) := fun ps => (f ps).bind fun r => some (.nx, r.2)
theorem zk6 {e : Expr} {f : PSt -> Option (D × PSt)} (he : QE X κ φ e f) (hs : swapsWith e none pos.line X.env = pure false := by rfl) : QS X κ φ (.Expr e pos) (zb4 f) := (wa0 he hs).imp fun E σ H hh_ => by
  obtain ⟨ps, F, fl, ps', R, e, q⟩ := hh_
  obtain ⟨⟨d, ps1⟩, e1, e2⟩ := bind_some e
  cases e2
  exact ⟨ps, F, d, ps1, R, e1, fun v H' F' fv s o r => q _ _ F' s⟩
noncomputable def ze4 (f : PSt -> Option (D × PSt)) : PSt -> Option (Fl × PSt) := fun ps => (f ps).bind fun r => some (.ret r.1, r.2)
theorem zg2 {e : Expr} {f : PSt -> Option (D × PSt)} (he : QE X κ φ e f) : QS X κ φ (.Return (some e) pos) (ze4 f) := (yi0 he).imp fun E σ H hh_ => by
  obtain ⟨ps, F, fl, ps', R, e, q⟩ := hh_
  obtain ⟨⟨d, ps1⟩, e1, e2⟩ := bind_some e
  cases e2
  exact ⟨ps, F, d, ps1, R, e1, fun v H' F' fv s o r => q v σ H' F' fv s o r⟩
noncomputable def zo6 (i : Nat) : PSt -> Option (Fl × PSt) := fun ps => ((ps[i]?).join).bind fun d => some (.ret d, ps.set i none)
theorem join_some {ps : PSt} {i : Nat} {d : D} (h : (ps[i]?).join = some d) : ps[i]? = some (some d) := by
  cases q : ps[i]? with
  | none => rw [q] at h; cases h
  | some o => rw [q] at h; exact congrArg some h
theorem yu9 (i : Nat) {x : Str} {p : Pos} (hb : φ.bor i = false) (hN : X.N[i]? = some x := by rfl) (hv : Vis X.env.scope x := by first | exact Or.inl rfl | exact Or.inr (Or.inl rfl) | exact Or.inr (Or.inr rfl)) (hd : (x == ("__debug__" : Str)) = false := by decide)
    (hcd : (x == ("__classdict__" : Str)) = false := by decide) : QS X κ φ (.Return (some (.Name x p)) pos) (zo6 i) := (yi0 (zx6 hN hv hd hcd)).imp fun E σ H hh_ => by
  obtain ⟨ps, F, fl, ps', R, e, q⟩ := hh_
  obtain ⟨d, e1, e2⟩ := bind_some e
  cases e2
  obtain ⟨v, fp, h1, h2, h3, _⟩ := R.rep i d (join_some e1)
  have h3 := h3 hb
  subst h3
  refine ⟨v, h1, q v σ H (zu5 F i []) (F i) ⟨⟨fun a o h _ _ => h, fun a h => h⟩, fun j a h => ?_, R.drop i, fun _ _ => rfl⟩ ⟨fun a h => .inl ⟨i, h⟩, R.nd i, fun j a h1 h2 => ?_⟩ h2⟩
  . rcases zq1 h with z | z
    . exact absurd z (by simp)
    . exact .inl ⟨j, z⟩
  . rcases zq1 h1 with z | z
    . exact absurd z (by simp)
    . have := R.dis j i a z h2
      subst this
      rw [zh1] at h1; exact absurd h1 (by simp)
noncomputable def fIf (c : PSt -> Option (Bool × PSt)) (f g : PSt -> Option (Fl × PSt)) : PSt -> Option (Fl × PSt) := fun ps => (c ps).bind fun r => if r.1 = true then f r.2 else g r.2
theorem zi7 {c : Expr} {a b : List Stmt} {tc : PSt -> Option (Bool × PSt)} (hc : QTE X κ φ c tc) (ha : QSs X κ φ a f) (hb : QSs X κ φ b g) : QS X κ φ (.If c a b pos) (fIf tc f g) := (xy2 hc ha hb).imp fun E σ H hh_ => by
  obtain ⟨ps, F, fl, ps', R, e, q⟩ := hh_
  obtain ⟨⟨k, ps1⟩, e1, e2⟩ := bind_some e
  refine ⟨ps, F, k, ps1, R, e1, fun H' F' s => ?_⟩
  cases k with
  | true => rw [if_pos rfl] at e2 |-; exact yn7 s e2 q
  | false => rw [if_neg Bool.false_ne_true] at e2 |-; exact yn7 s e2 q
end
end L2
namespace L2
open PySem PySem.Spec PyProof.Rows
noncomputable def zs3 (c : PSt -> Option (Bool × PSt)) (f : PSt -> Option (Fl × PSt)) : Nat -> PSt -> Option (Fl × PSt)
  | 0, _ => none
  | n + 1, ps => (c ps).bind fun r => if r.1 = true then (f r.2).bind fun q => match q with
      | (.nx, p) => zs3 c f n p
      | (.ct, p) => zs3 c f n p
      | (.bk, p) => some (.nx, p)
      | (.ret d, p) => some (.ret d, p)
    else some (.nx, r.2)
section
variable {X : Cx} {φ : Fx} {pos : Pos} {body : List Stmt} {f : PSt -> Option (Fl × PSt)}
theorem yh2.back {E : Ends} {σ σ1 : St} {H H1 : Hp} {F F1 : Nat -> List Addr} {ps1 ps2 : PSt} {fl : Fl} (s1 : Stp φ σ H F σ1 H1 ps1 F1) (q : yh2 φ E σ H F fl ps2) : yh2 φ E σ1 H1 F1 fl ps2 := by
  cases fl with
  | nx => exact fun σ' H' F' s => q σ' H' F' (s1.trans s)
  | bk => exact fun σ' H' F' s => q σ' H' F' (s1.trans s)
  | ct => exact fun σ' H' F' s => q σ' H' F' (s1.trans s)
  | ret d => exact fun v σ' H' F' fv s o r => q v σ' H' F' fv (s1.trans s) (o.after s1) r
theorem yn8 {κ : Str -> Addr} {φ : F0} (n : Nat) {c : Expr} {tc : PSt -> Option (Bool × PSt)} (hp : PassesOwn (model X.prog X.w) X.A X.env X.xe) (hc : QTE X κ φ c tc) (hb : QSs X κ φ body f) : QS X κ φ (.While c body [] pos) (zs3 tc f n) :=
  (xt4 hp hc hb).imp fun E σ H hh_ => by
    obtain ⟨ps, F, fl, ps', R, e, q⟩ := hh_
    refine ⟨fun m σ1 H1 => ∃ ps1 F1, Stp (φ.fx X.K κ) σ H F σ1 H1 ps1 F1 /\ zs3 tc f m ps1 = some (fl, ps'), ⟨n, ps, F, .refl R, e⟩, ?_⟩
    rintro m σ1 H1 ⟨ps1, F1, s1, e1⟩
    cases m with
    | zero => cases e1
    | succ m =>
      rw [zs3] at e1
      obtain ⟨⟨k, ps2⟩, e2, e3⟩ := bind_some e1
      refine ⟨ps1, F1, k, ps2, s1.rs, e2, fun H2 F2 s2 => ?_⟩
      have s12 := s1.trans s2
      cases k with
      | true =>
        dsimp only at e3 |-
        rw [if_pos rfl] at e3 |-
        obtain ⟨⟨fl3, ps3⟩, e4, e5⟩ := bind_some e3
        refine ⟨fun σ' H' => ∃ F', Stp (φ.fx X.K κ) σ1 H2 F2 σ' H' ps3 F' /\ zs3 tc f m ps3 = some (fl, ps'), fun σ' H' ⟨F', s, e⟩ => ⟨m, Nat.lt_succ_self m, ps3, F', s12.trans s, e⟩, ?_⟩
        refine ⟨ps2, F2, fl3, ps3, s2.rs, e4, ?_⟩
        cases fl3 with
        | nx => exact fun σ' H' F' s => ⟨F', s, e5⟩
        | ct => exact fun σ' H' F' s => ⟨F', s, e5⟩
        | bk => cases e5; exact fun σ' H' F' s => q σ' H' F' (s12.trans s)
        | ret d => cases e5; exact fun v σ' H' F' fv s o r => q v σ' H' F' fv (s12.trans s) (o.after s12) r
      | false =>
        dsimp only at e3 |-
        rw [if_neg Bool.false_ne_true] at e3 |-
        cases e3
        exact q _ _ F2 s12
end
noncomputable def yd6 (Z : List Addr) (H H' : Hp) : Prop := ∀ a o, H a = some o -> (tf o = true \/ (kd o = true /\ a ∈ Z)) -> H' a = some o
structure Walk (K : PySem.W.Frag) (κ : Str -> Addr) (J : It) (Z : List Addr) (H1 : Hp) (ds : List D) : Prop where
  go : ∀ H', yd6 Z H1 H' -> ∀ (i : Nat) d, ds[i]? = some d -> J.go i H' /\ ∀ x H2, J.yld i H' x H2 -> H2 = H' /\ Rep K κ H' x d []
  stop : ∀ H', yd6 Z H1 H' -> J.stop ds.length H'
noncomputable def tIV (K : PySem.W.Frag) (κ : Str -> Addr) (f : PSt -> Option (List D)) : TI := fun σ H R => ∃ ps ds, WS K κ H σ ps /\ f ps = some ds /\ ∀ J H1 Z, SameK H H1 -> Walk K κ J Z H1 ds -> R J H1
noncomputable def tIP (K : PySem.W.Frag) (κ : Str -> Addr) (f : PSt -> Option (List D)) : TI := fun σ H R => ∃ ps ds, WS K κ H σ ps /\ f ps = some ds /\ ∀ J H1 Z, SameK H H1 -> (∀ a ∈ Z, H a = none /\ H1 a ≠ none) -> Walk K κ J Z H1 ds -> R J H1
theorem yd6.sq {K : PySem.W.Frag} {Z : List Addr} {H H' : Hp} {a : Addr} {vs : List V} (k : yd6 Z H H') (h : Rd H a (.lst vs)) (hz : H a = some (.lst vs) -> a ∈ Z) : SqL K H' a vs := by
  rcases h with h | ⟨o, h⟩
  . exact .inl (.inl (k a _ h (.inr ⟨rfl, hz h⟩)))
  . exact .inl (.inr ⟨o, k a _ h (.inl rfl)⟩)
theorem yd6.rep {K : PySem.W.Frag} {κ : Str -> Addr} {Z : List Addr} {H H' : Hp} {v : V} {d : D} (k : yd6 Z H H') (r : Rep K κ H v d []) : Rep K κ H' v d [] := r.move (fun a o h t => k a o h (.inl t)) fun a ha => absurd ha (by simp)
theorem yf7 {α β : Type} {R : α -> β -> Prop} : ∀ {l₁ : List α} {l₂ : List β} {i : Nat} {y : β}, Paired R l₁ l₂ -> l₂[i]? = some y -> ∃ x, l₁[i]? = some x /\ R x y
  | _, _, _, _, .nil, e => by simp at e
  | _, _, 0, _, .cons h _, e => by simp at e; subst e; exact ⟨_, rfl, h⟩
  | _, _, i + 1, _, .cons _ t, e => by obtain ⟨x, h1, h2⟩ := yf7 (i := i) t (by simpa using e); exact ⟨x, by simpa using h1, h2⟩
section
variable {K : PySem.W.Frag} {κ : Str -> Addr} {H1 : Hp} {a : Addr} {vs : List V} {ds : List D} {Z : List Addr}
theorem yy4 (h : Rd H1 a (.lst vs)) (hz : H1 a = some (.lst vs) -> a ∈ Z) (r : Paired (fun v d => Rep K κ H1 v d []) vs ds) : Walk K κ (Itl K a) Z H1 ds where
  go := fun H' k i d e => by
    obtain ⟨x, e1, r1⟩ := yf7 r e
    have sq : SqL K H' a vs := k.sq h hz
    refine ⟨⟨vs, x, sq, e1⟩, fun y H2 hy => ⟨hy.1, ?_⟩⟩
    have e2 := hy.2 vs sq
    rw [e1] at e2; cases e2
    exact k.rep r1
  stop := fun H' k => ⟨vs, k.sq h hz, by rw [Paired.length r]; exact Nat.le_refl _⟩
theorem xv3 (h : SqF K H1 a vs) (r : Paired (fun v d => Rep K κ H1 v d []) vs ds) : Walk K κ (Itl K a) Z H1 ds where
  go := fun H' k i d e => by
    obtain ⟨x, e1, r1⟩ := yf7 r e
    have sq : SqL K H' a vs := (h.tf fun a o e t => k a o e (.inl t)).l
    refine ⟨⟨vs, x, sq, e1⟩, fun y H2 hy => ⟨hy.1, ?_⟩⟩
    have e2 := hy.2 vs sq
    rw [e1] at e2; cases e2
    exact k.rep r1
  stop := fun H' k => ⟨vs, (h.tf fun a o e t => k a o e (.inl t)).l, by rw [Paired.length r]; exact Nat.le_refl _⟩
theorem xv4 (h : SqT K H1 a vs) (r : Paired (fun v d => Rep K κ H1 v d []) vs ds) : Walk K κ (Itt K a) Z H1 ds where
  go := fun H' k i d e => by
    obtain ⟨x, e1, r1⟩ := yf7 r e
    have sq : SqT K H' a vs := h.tf fun a o e t => k a o e (.inl t)
    refine ⟨⟨vs, x, sq, e1⟩, fun y H2 hy => ⟨hy.1, ?_⟩⟩
    have e2 := hy.2 vs sq
    rw [e1] at e2; cases e2
    exact k.rep r1
  stop := fun H' k => ⟨vs, h.tf fun a o e t => k a o e (.inl t), by rw [Paired.length r]; exact Nat.le_refl _⟩
end
noncomputable def zv4 (lo : Int) (n : Nat) : List D := (List.range n).map fun (k : Nat) => .int (lo + (k : Int))
theorem xl3 {K : PySem.W.Frag} {κ : Str -> Addr} {H1 : Hp} {Z : List Addr} (lo : Int) (n : Nat) : Walk K κ (Itr lo n) Z H1 (zv4 lo n) where
  go := fun H' _ i d e => by
    have hi := (List.getElem?_eq_some_iff.mp e).1
    unfold zv4 at hi e
    rw [List.length_map, List.length_range] at hi
    rw [List.getElem?_map, List.getElem?_range hi] at e
    cases e
    exact ⟨hi, fun x H2 ⟨h1, h2⟩ => ⟨h1, by rw [h2]; exact .int _⟩⟩
  stop := fun H' _ => by
    show n <= (zv4 lo n).length
    unfold zv4
    rw [List.length_map, List.length_range]; exact Nat.le_refl _
noncomputable abbrev QIV (X : Cx) (κ : Str -> Addr) (tg iter : Expr) (f : PSt -> Option (List D)) : Prop := PI X tg iter (tIV X.K κ f)
noncomputable abbrev QIP (X : Cx) (κ : Str -> Addr) (tg iter : Expr) (f : PSt -> Option (List D)) : Prop := PI X tg iter (tIP X.K κ f)
theorem PI.imp {X : Cx} {tg e : Expr} {t t' : TI} (h : PI X tg e t) (k : ∀ σ H Q, t' σ H Q -> t σ H Q) : PI X tg e t' := fun pins s σ H Q I q => h pins s σ H Q I (k σ H Q q)
theorem QIP.v {X : Cx} {κ : Str -> Addr} {tg iter : Expr} {f : PSt -> Option (List D)} (h : QIP X κ tg iter f) : QIV X κ tg iter f := PI.imp h fun σ H R ⟨ps, ds, w, e, q⟩ => ⟨ps, ds, w, e, fun J H1 Z s _ k => q J H1 Z s k⟩
section
variable {X : Cx} {κ : Str -> Addr} {tg l a b : Expr} {f : PSt -> Option D} {g : PSt -> Option (List D)} {p pos : Pos}
noncomputable def ys4 : List D -> Option (List D)
  | [.int j] => if (-(2 ^ 62) <= j /\ j < 2 ^ 62) then some (zv4 0 j.toNat) else none
  | _ => none
noncomputable def ys5 (g : PSt -> Option (List D)) : PSt -> Option (List D) := fun ps => (g ps).bind ys4
theorem yi6 (hg : Gl X "range") (hm : X.mg "range" = none) (ha : QVA X κ [a] g) (hs : starEach [a] X.env = [(false, eval a X.env)] := by rfl) : QIP X κ tg (.Call (.Name "range" p) [a] [] pos) (ys5 g) :=
  PI.imp (xo4 hg hm ha hs) fun σ H R hh_ => by
    obtain ⟨ps, ds, w, e, q⟩ := hh_
    obtain ⟨as, e1, e2⟩ := bind_some e
    refine ⟨ps, as, w, e1, fun vs H1 fp s1 r1 => ?_⟩
    unfold ys4 at e2
    split at e2
    . obtain ⟨hc, e3⟩ := zd8 e2
      cases e3
      obtain ⟨v, rfl, r⟩ := r1.one_inv
      exact ⟨_, by rw [r.is_int], hc.1, hc.2, q _ H1 [] s1 (fun _ h => absurd h (by simp)) (xl3 _ _)⟩
    . cases e2
noncomputable def wo8 (K : PySem.W.Frag) (tl : TE) : TI := fun σ H R => tl σ H fun x H1 => ∃ a, x = .ref a /\ (((∃ xs, SqL K H1 a xs) /\ R (Itl K a) H1) \/ ((∃ xs, SqT K H1 a xs) /\ R (Itt K a) H1))
theorem xc6 {tl : TE} (hl : PE X l tl) : PI X tg l (wo8 X.K tl) := by
  intro pins s σ H R I h
  refine thn (hl pins s σ H _ I h) fun v s1 ⟨x, H1, I1, r1, q1⟩ => ?_
  obtain ⟨a, e, q1⟩ := q1
  subst e
  cases r1
  rcases q1 with ⟨⟨xs, hq⟩, q⟩ | ⟨⟨xs, hq⟩, q⟩
  . obtain ⟨its, rv, p, hz⟩ := I1.list hq
    refine wpAny_pyIter_list p.isList ?_
    refine ⟨s1.heap.objs.size, [s1.heap.objs.size], _, _, H1, rfl, I1.kept (t' := s1.toks) fun b o e => Heap.get?_push_of_some _ e, xo3 a _, ⟨_, Heap.get?_push_size _ rfl, rfl, rfl⟩, fun b hb => ?_, q⟩
    have e : b = s1.heap.objs.size := by simpa using hb
    subst e
    exact I1.fpOk (Nat.le_refl _) (I1.hok.fresh (Nat.le_refl _))
  . obtain ⟨its, rv, p, hz⟩ := I1.tuple hq
    refine wpAny_pyIter_tuple (show s1.heap.IsTuple a its.toArray from p) ?_
    refine ⟨s1.heap.objs.size, [s1.heap.objs.size], _, _, H1, rfl, I1.kept (t' := s1.toks) fun b o e => Heap.get?_push_of_some _ e, xi9 a _, ⟨_, Heap.get?_push_size _ rfl, rfl, rfl⟩, fun b hb => ?_, q⟩
    have e : b = s1.heap.objs.size := by simpa using hb
    subst e
    exact I1.fpOk (Nat.le_refl _) (I1.hok.fresh (Nat.le_refl _))
noncomputable def yp2 : D -> Option (List D)
  | .lst _ xs => if D.imms xs = true then some xs else none
  | .tup xs => some xs
  | .con xs => some xs
  | _ => none
theorem yv0 {K : PySem.W.Frag} {H : Hp} {v : V} {d : D} {fp : List Addr} {ds : List D} {R : It -> Hp -> Prop} (r : Rep K κ H v d fp) (e : yp2 d = some ds) (q : ∀ J Z, (∀ a ∈ Z, a ∈ fp) -> Walk K κ J Z H ds -> R J H) :
    ∃ a, v = .ref a /\ (((∃ xs, SqL K H a xs) /\ R (Itl K a) H) \/ ((∃ xs, SqT K H a xs) /\ R (Itt K a) H)) := by
  cases d with
  | lst o xs =>
    obtain ⟨hc, e⟩ := zd8 e
    cases e
    cases r with
    | lst h hs => exact ⟨_, rfl, .inl ⟨⟨_, .inl (.inl h)⟩, q _ [_] (fun a ha => by simp at ha; subst ha; exact List.mem_cons_self) (yy4 (.inl h) (fun _ => by simp) (hs.pair hc))⟩⟩
    | lstF h hs => exact ⟨_, rfl, .inl ⟨⟨_, .inl (.inr ⟨_, h⟩)⟩, q _ [] (fun a ha => absurd ha (by simp)) (yy4 (.inr ⟨_, h⟩) (fun z => by rw [h] at z; cases z) (hs.pair hc))⟩⟩
  | tup xs =>
    cases e
    obtain ⟨a, vs, rfl, h, hs⟩ := r.tup_inv
    exact ⟨a, rfl, .inr ⟨⟨_, h⟩, q _ [] (fun a ha => absurd ha (by simp)) (xv4 h hs.nilp)⟩⟩
  | con xs =>
    cases e
    obtain ⟨a, vs, rfl, h, hs⟩ := r.con_inv
    exact ⟨a, rfl, .inl ⟨⟨_, h.l⟩, q _ [] (fun a ha => absurd ha (by simp)) (xv3 h hs.nilp)⟩⟩
  | _ => cases e
noncomputable def zo0 (f : PSt -> Option D) : PSt -> Option (List D) := fun ps => (f ps).bind yp2
theorem xc7 (h : QV X κ l f) : QIV X κ tg l (zo0 f) := PI.imp (xc6 h) fun σ H R hh_ => by
  obtain ⟨ps, ds, w, e, q⟩ := hh_
  obtain ⟨d, e1, e2⟩ := bind_some e
  exact ⟨ps, d, w, e1, fun v H1 fv s1 r1 => yv0 r1 e2 fun J Z _ k => q J H1 Z s1 k⟩
end
noncomputable def zt0 (i : Nat) (f : PSt -> Option (Fl × PSt)) : List D -> PSt -> Option (Fl × PSt)
  | [], ps => some (.nx, ps)
  | d :: ds, ps => (f (ps.set i (some d))).bind fun q => match q with
      | (.nx, p) => zt0 i f ds p
      | (.ct, p) => zt0 i f ds p
      | (.bk, p) => some (.nx, p)
      | (.ret d, p) => some (.ret d, p)
section
variable {X : Cx} {φ : Fx} {pos : Pos} {body : List Stmt} {f : PSt -> Option (Fl × PSt)}
theorem Frm.kept {F : Nat -> List Addr} {H H' : Hp} {Z : List Addr} {σ : St} {ps : PSt} (R : RS φ H σ ps F) (k : Frm F H H') (hz : ∀ a ∈ Z, ∀ i, a ∉ F i) : yd6 Z H H' := fun a o h t => by
  rcases t with t | ⟨t1, t2⟩
  . refine k.keep a o h (zu2 t) fun i hi => ?_
    obtain ⟨o', h', _, t'⟩ := R.own hi
    rw [h] at h'; cases h'; rw [t] at t'; cases t'
  . exact k.keep a o h t1 (hz a t2)
theorem xc8 {E : Ends} {σ : St} {H : Hp} {F : Nat -> List Addr} {ps ps' : PSt} {fl : Fl} {ds : List D} {J : It} {Z : List Addr} {i : Nat} (R : RS φ H σ ps F) (hz : ∀ a ∈ Z, H a ≠ none /\ ∀ i, a ∉ F i) (W : Walk φ.K φ.κ J Z H ds) (hb : φ.bor i = false) (hm : φ.M i = false)
    (e : zt0 i f ds ps = some (fl, ps')) (q : yh2 φ E σ H F fl ps') : ∃ V : Nat -> Nat -> St -> Hp -> Prop, (∃ m, V 0 m σ H) /\ ∀ k m σ H, V k m σ H ->
  (J.stop k H /\ E.nx σ H) \/ (J.go k H /\ ∃ N : St -> Hp -> Prop, (∀ σ' H', N σ' H' -> ∃ m', m' < m /\ V (k + 1) m' σ' H') /\ ∀ x H', J.yld k H x H' -> zz4 i x σ H' fun σ2 H2 => tS φ f { E with nx := N, ct := N, bk := E.nx } σ2 H2) := by
  refine ⟨fun k m σ1 H1 => k <= ds.length /\ m = ds.length - k /\ ∃ ps1 F1, Stp φ σ H F σ1 H1 ps1 F1 /\ zt0 i f (ds.drop k) ps1 = some (fl, ps'), ⟨_, Nat.zero_le _, rfl, ps, F, .refl R, by rw [List.drop_zero]; exact e⟩, ?_⟩
  rintro k m σ1 H1 ⟨hk, rfl, ps1, F1, s1, e1⟩
  have kp : yd6 Z H H1 := s1.fr.kept R fun a ha => (hz a ha).2
  by_cases hlt : k < ds.length
  . right
    have ed : ds[k]? = some ds[k] := List.getElem?_eq_getElem hlt
    obtain ⟨hgo, hy⟩ := W.go H1 kp k _ ed
    rw [List.drop_eq_getElem_cons hlt, zt0] at e1
    obtain ⟨⟨fl2, ps2⟩, e2, e3⟩ := bind_some e1
    refine ⟨hgo, fun σ' H' => ∃ F', Stp φ σ H F σ' H' ps2 F' /\ zt0 i f (ds.drop (k + 1)) ps2 = some (fl, ps'), fun σ' H' ⟨F', s, e⟩ => ⟨ds.length - (k + 1), by omega, hlt, rfl, ps2, F', s, e⟩, fun x H' y => ?_⟩
    obtain ⟨rfl, rx⟩ := hy x H' y
    obtain ⟨F2, s2⟩ := (Stp.refl s1.rs).set (i := i) (fv := []) (v := x) (d := ds[k]) ⟨fun _ h => absurd h (by simp), List.nodup_nil, fun _ _ _ h => absurd h (by simp)⟩ s1.rs rx (.inl hb) hm
    have s12 := s1.trans s2
    refine ⟨_, F2, fl2, ps2, s2.rs, e2, ?_⟩
    cases fl2 with
    | nx => exact fun σ' H' F' s => ⟨F', s12.trans s, e3⟩
    | ct => exact fun σ' H' F' s => ⟨F', s12.trans s, e3⟩
    | bk => cases e3; exact fun σ' H' F' s => q σ' H' F' (s12.trans s)
    | ret d => cases e3; exact fun v σ' H' F' fv s o r => q v σ' H' F' fv (s12.trans s) (o.after s12) r
  . left
    have ek : k = ds.length := by omega
    subst ek
    rw [List.drop_length, zt0] at e1
    cases e1
    exact ⟨W.stop H1 kp, q _ _ F1 s1⟩
noncomputable def yk0 (i : Nat) (fi : PSt -> Option (List D)) (f : PSt -> Option (Fl × PSt)) : PSt -> Option (Fl × PSt) := fun ps => (fi ps).bind fun ds => zt0 i f ds ps
theorem xc9 {κ : Str -> Addr} {φ : F0} (i : Nat) {x : Str} {px : Pos} {iter : Expr} {fi : PSt -> Option (List D)} (hp : PassesOwn (model X.prog X.w) X.A X.env X.xe) (hc : X.calm = true) (hN : X.N.Nodup) (hi : X.N[i]? = some x) (hx : Loc X.env.scope x) (hb : φ.bor i = false) (hm : φ.M i = false)
    (hit : PI X (.Name x px) iter (tIP X.K κ fi)) (hbd : QSs X κ φ body f) (hs : ∀ x, foldedSetIterable iter X.env x = pure x := by intro _; rfl) (hf : X.fn x = true \/ X.env.scope.names.lookup x = some .local := by first | exact .inl rfl | exact .inr rfl | assumption) :
    QS X κ φ (.For (.Name x px) iter body [] pos) (yk0 i fi f) := (xb4 hp hc hit (zw2 hN hi hx hf) hbd hs).imp fun E σ H hh_ => by
  obtain ⟨ps, F, fl, ps', R, e, q⟩ := hh_
  obtain ⟨ds, e1, e2⟩ := bind_some e
  refine ⟨ps, ds, R.ws, e1, fun J H1 Z s1 hz W => ?_⟩
  have s := Stp.same R s1
  exact xc8 s.rs (fun a ha => ⟨(hz a ha).2, fun j hj => by obtain ⟨o, h, _⟩ := R.own hj; rw [(hz a ha).1] at h; cases h⟩) W hb hm e2 (q.back s)
noncomputable def xx9 (g : TG) (tb : TS) (E : Ends) (σ : St) : It -> Hp -> Prop := fun J H1 => ∃ W : Nat -> Nat -> St -> Hp -> Prop, (∃ m, W 0 m σ H1) /\ ∀ i m σ H, W i m σ H ->
  (J.stop i H /\ E.nx σ H) \/ (J.go i H /\ ∃ N : St -> Hp -> Prop, (∀ σ' H', N σ' H' -> ∃ m', m' < m /\ W (i + 1) m' σ' H') /\ ∀ x H', J.yld i H x H' -> g x σ H' fun σ2 H2 => tb { E with nx := N, ct := N, bk := E.nx } σ2 H2)
theorem yv1 {κ : Str -> Addr} {φ : F0} (i j : Nat) {x y : Str} {px py : Pos} (hp : PassesOwn (model X.prog X.w) X.A X.env X.xe) (hc : X.calm = true) (hN : X.N.Nodup) (hi : X.N[i]? = some x) (hx : Loc X.env.scope x) (hb : φ.bor i = false) (hm : φ.M i = false) (hj : φ.bor j = true)
    (hbd : QSs X κ φ body f) (hNj : X.N[j]? = some y := by rfl) (hv : Vis X.env.scope y := by first | exact Or.inl rfl | exact Or.inr (Or.inl rfl) | exact Or.inr (Or.inr rfl)) (hd : (y == ("__debug__" : Str)) = false := by decide)
    (hcd : (y == ("__classdict__" : Str)) = false := by decide) (hs : ∀ x, foldedSetIterable (.Name y py) X.env x = pure x := by intro _; rfl) (hf : X.fn x = true \/ X.env.scope.names.lookup x = some .local := by first | exact .inl rfl | exact .inr rfl | assumption) :
    QS X κ φ (.For (.Name x px) (.Name y py) body [] pos) (yk0 i (zo0 (za0 j)) f) := (xb4 hp hc (xc6 (zx6 hNj hv hd hcd)) (zw2 hN hi hx hf) hbd hs).imp fun E σ H hh_ => by
  obtain ⟨ps, F, fl, ps', R, e, q⟩ := hh_
  obtain ⟨ds, e1, e2⟩ := bind_some e
  obtain ⟨d, e3, e4⟩ := bind_some e1
  obtain ⟨v, fp, h1, h2, _, h4⟩ := R.rep j d (join_some e3)
  refine ⟨v, h1, ?_⟩
  refine yv0 (R := xx9 (zz4 i) (tS (φ.fx X.K κ) f) E σ) h2 e4 fun J Z hz W => ?_
  exact xc8 R (fun a ha => ⟨R.bt j a (h4 hj a (hz a ha)), fun k hk => R.nb k a hk j (h4 hj a (hz a ha))⟩) W hb hm e2 q
end
end L2
namespace L2
open PySem PySem.Spec PyProof.Rows
noncomputable def gP (np n : Nat) (f : PSt -> Option (Fl × PSt)) : List D -> Option D := fun ds => if ds.length = np then (f (ds.map some ++ List.replicate n none)).bind fun r => match r with
  | (.ret d, _) => some d
  | (.nx, _) => some .non
  | _ => none
  else none
noncomputable def SpP (np : Nat) (K : PySem.W.Frag) (κ : Str -> Addr) (g : List D -> Option D) : Sp := fun vs H Q _ => vs.length = np /\ ∃ ds fp d, Reps K κ H vs ds fp /\ g ds = some d /\ zr0 K κ H d Q
noncomputable def fxP (K : PySem.W.Frag) (κ : Str -> Addr) (np : Nat) (B : Nat -> Addr -> Prop) : Fx := ⟨K, κ, fun i => decide (i < np), fun _ => false, B⟩
noncomputable def f0P (np : Nat) (B : Nat -> Addr -> Prop) : F0 := ⟨fun i => decide (i < np), fun _ => false, B⟩
theorem xq7 {N : List Str} {vs : List V} {i : Nat} {v : V} (h : vs[i]? = some v) : (start N vs)[i]? = some (some v) := by
  unfold start
  have hi := (List.getElem?_eq_some_iff.mp h).1
  rw [List.getElem?_append_left (by simpa using hi), List.getElem?_map, h]; rfl
theorem RS.start {K : PySem.W.Frag} {κ : Str -> Addr} {H : Hp} {N : List Str} {vs : List V} {ds : List D} {fp : List Addr} {np : Nat} (r : Reps K κ H vs ds fp) (hl : vs.length = np) (hn : np <= N.length) :
    RS (fxP K κ np (fun _ a => a ∈ fp)) H (start N vs) (ds.map some ++ List.replicate (N.length - np) none) (fun _ => []) := by
  have el := r.length
  refine ⟨fun i d h => ?_, fun i a h => absurd h (by simp), fun i j a h => absurd h (by simp), fun i => List.nodup_nil, fun i a h => absurd h (by simp), fun k a h z => ?_, ?_⟩
  . by_cases hi : i < ds.length
    . rw [List.getElem?_append_left (by simpa using hi), List.getElem?_map] at h
      cases e : ds[i]? with
      | none => rw [e] at h; cases h
      | some d' =>
        rw [e] at h; cases h
        obtain ⟨v, f, h1, h2, h3⟩ := r.get e
        refine ⟨v, f, xq7 h1, h2, fun z => ?_, fun _ => h3⟩
        exact absurd (of_decide_eq_false z) (by omega)
    . rw [List.getElem?_append_right (by simpa using hi), List.getElem?_replicate] at h
      split at h <;> cases h
  . obtain ⟨o, h, _⟩ := r.own a h
    rw [z] at h; cases h
  . unfold L2.start
    simp only [List.length_append, List.length_map, List.length_replicate]
    omega
section
variable {P : Program} {w : World} {K : PySem.W.Frag} {mg : Str -> Option Value} {base : Heap} {κ : Str -> Addr}
theorem zj8 {x qual : Str} {st : Stmt} {f : Addr} {fd : FuncData} {N ps : List Str} {k : Nat} {fb : PSt -> Option (Fl × PSt)} (F : Fun K x qual st f fd) (S : FnScope N ps (za8 st))
    (hbody : ∀ (cdv : Value) (A : Around) (outer : List Env) (s : Shared) (H : Hp) (E : XK) (B : Nat -> Addr -> Prop), Room k (A.deeper (envOfC qual (za8 st) s.heap.objs.size f cdv)) ->
      QSs (yd4 CX0 P w K mg base N qual (za8 st) f cdv A outer s H E).nox κ (f0P ps.length B) (ze1 st) fb) :
    FnOk P w K mg base CX0 (k + 1) f fd ps (SpP ps.length K κ (gP ps.length (N.length - ps.length) fb)) := by
  refine F.ok S (fun vs H Q E h => h.1) fun cdv A outer s H vs Q E hr ⟨hl, ds, fp, d, r, e, q⟩ => ⟨_, hbody cdv A outer s H E (fun _ a => a ∈ fp) hr, ?_⟩
  have hn : ps.length <= N.length := by have := congrArg List.length S.pre; rw [List.length_take] at this; omega
  unfold gP at e
  obtain ⟨_, e0⟩ := zd8 e
  obtain ⟨⟨fl, ps'⟩, e1, e2⟩ := bind_some e0
  refine ⟨_, fun _ => [], fl, ps', RS.start r hl hn, e1, ?_⟩
  have sm : ∀ {H' : Hp}, Frm (fun _ => []) H H' -> SameK H H' := fun k => ⟨fun a o h kk => k.keep a o h kk (fun _ => by simp), k.grow⟩
  cases fl with
  | ret d' =>
    cases e2
    exact fun v σ' H' F' fv s o rv => q v H' fv (sm s.fr) (fun a ha => (o.nw a ha).elim (fun ⟨j, hj⟩ => absurd hj (by simp)) id) o.nd rv
  | nx =>
    cases e2
    exact fun σ' H' F' s => q .non H' [] (sm s.fr) (fun a ha => absurd ha (by simp)) List.nodup_nil .non
  | bk => cases e2
  | ct => cases e2
end
section
variable {X : Cx} {κ : Str -> Addr} {e : Expr} {es : List Expr} {g : PSt -> Option (List D)} {pos p : Pos}
theorem zp4 {x : Str} {st : Stmt} {ps : List Str} {f : Addr} {fd : FuncData} {k np : Nat} {h : List D -> Option D} (Dd : Dn X.K X.mg x st ps f fd) (G : FnOk X.prog X.w X.K X.mg X.base CX0 k f fd ps (SpP np X.K κ h)) (hr : Room k X.A) (hg : Gl X x) (hnp : (e :: es).length = np) (ha : QVA X κ (e :: es) g)
    (hlen : ∀ ps ds, g ps = some ds -> ds.length = (e :: es).length)
    (hdb : (x == ("__debug__" : Str)) = false := by decide) (he : starEach (e :: es) X.env = (false, eval e X.env) :: starEach es X.env := by rfl) (hpl : (backTo pos (starEach es X.env)).any (·.1) = false := by rfl) :
    QP X κ (.Call (.Name x p) (e :: es) [] pos) (za5 h g) := (xy3 Dd G hr hg ha hdb he hpl).imp fun σ H Q hh_ => by
  obtain ⟨ps, d, w, e, q⟩ := hh_
  obtain ⟨ds, e1, e2⟩ := bind_some e
  refine ⟨ps, ds, w, e1, fun vs H1 fp s1 r1 => ?_⟩
  show SpP np X.K κ h (vs ++ []) H1 Q E0
  rw [List.append_nil]
  exact ⟨by rw [r1.length, hlen ps ds e1, hnp], ds, fp, d, r1, e2, q.after s1⟩
theorem xd0 {x : Str} {st : Stmt} {ps : List Str} {f : Addr} {fd : FuncData} {k : Nat} {h : List D -> Option D} (Dd : Dn X.K X.mg x st ps f fd) (G : FnOk X.prog X.w X.K X.mg X.base CX0 k f fd ps (SpP 0 X.K κ h)) (hr : Room k X.A) (hg : Gl X x)
    (hdb : (x == ("__debug__" : Str)) = false := by decide) : QP X κ (.Call (.Name x p) [] [] pos) (za5 h za2) := (wg5 Dd G hr hg hdb).imp fun σ H Q hh_ => by
  obtain ⟨ps, d, w, e, q⟩ := hh_
  obtain ⟨ds, e1, e2⟩ := bind_some e
  cases e1
  exact ⟨rfl, [], [], d, .nil, e2, q⟩
theorem zl8 : ∀ (ps : PSt) (ds : List D), za2 ps = some ds -> ds.length = ([] : List Expr).length := fun _ _ h => by cases h; rfl
theorem zf4 {f : PSt -> Option D} (h : ∀ ps ds, g ps = some ds -> ds.length = es.length) : ∀ (ps : PSt) (ds : List D), za1 f g ps = some ds -> ds.length = (e :: es).length := fun ps ds q => by
  obtain ⟨d, es', _, e2, rfl⟩ := yf5 q
  rw [List.length_cons, List.length_cons, h ps es' e2]
end
noncomputable def yb4 (pick : List (Option Nat)) (ps : PSt) : PSt := pick.map fun o => o.bind fun j => (ps[j]?).join
noncomputable def zv5 (psb : PSt) (ft : PSt -> Option Bool) (fe : PSt -> Option D) : List D -> Option (List D)
  | [] => some []
  | d :: ds => (ft (psb.set 0 (some d))).bind fun b => if b = true then (fe (psb.set 0 (some d))).bind fun r => (zv5 psb ft fe ds).bind fun rs => some (r :: rs) else zv5 psb ft fe ds
noncomputable def ys6 (pick : List (Option Nat)) (fi : PSt -> Option (List D)) (ft : PSt -> Option Bool) (fe : PSt -> Option D) : PSt -> Option D := fun ps => (fi ps).bind fun ds => if ds.length <= sizeLine then (zv5 (yb4 pick ps) ft fe ds).bind fun rs => some (.lst true rs) else none
noncomputable def yp3 : PSt -> Option Bool := fun _ => some true
theorem WS.sub {K : PySem.W.Frag} {κ : Str -> Addr} {H : Hp} {σ : St} {ps : PSt} (pick : List (Option Nat)) (w : WS K κ H σ ps) : WS K κ H (zy5 pick σ) (yb4 pick ps) := fun i d h => by
  unfold yb4 at h
  unfold zy5
  rw [List.getElem?_map] at h |-
  cases e : pick[i]? with
  | none => rw [e] at h; cases h
  | some o =>
    rw [e] at h
    cases o with
    | none => cases h
    | some j =>
      have h' : (ps[j]?).join = some d := Option.some.inj h
      obtain ⟨v, fp, h1, h2⟩ := w j d (join_some h')
      refine ⟨v, fp, ?_, h2⟩
      show some ((σ[j]?).join) = some (some v)
      rw [h1]; rfl
theorem WS.set0 {K : PySem.W.Frag} {κ : Str -> Addr} {H : Hp} {σ : St} {ps : PSt} {v : V} {d : D} {fp : List Addr} (w : ∀ (i : Nat) (d : D), i ≠ 0 -> ps[i]? = some (some d) -> ∃ v fp, σ[i]? = some (some v) /\ Rep K κ H v d fp) (hl : ps.length <= σ.length) (r : Rep K κ H v d fp) : WS K κ H (σ.set 0 (some v)) (ps.set 0 (some d)) := fun i d' h => by
  by_cases e : i = 0
  . subst e
    by_cases hp : 0 < ps.length
    . rw [List.getElem?_set_self hp] at h
      cases h
      exact ⟨v, fp, by rw [List.getElem?_set_self (by omega)], r⟩
    . rw [List.getElem?_eq_none (by simpa using hp)] at h; cases h
  . rw [List.getElem?_set_ne (fun z => e z.symm)] at h |-
    exact w i d' e h
section
variable {X : Cx} {κ : Str -> Addr} {sc : Scope} {NX N : List Str} {pick : List (Option Nat)} {elt iter : Expr} {ifs : List Expr} {scope : Scope} {pos px : Pos} {x : Str} {fi : PSt -> Option (List D)} {ft : PSt -> Option Bool} {fe : PSt -> Option D}
theorem PTs.imp {X : Cx} {ifs : List Expr} {t t' : TT} (h : PTs X ifs t) (k : ∀ σ H Q, t' σ H Q -> t σ H Q) : PTs X ifs t' := fun pins s σ H Q I q => h pins s σ H Q I (k σ H Q q)
theorem yv2 {X : Cx} : PTs X [] (tQ X.K κ yp3) := wg6.imp fun σ H Q ⟨ps, b, w, e, q⟩ => by cases e; exact q H (.refl H)
structure Grown (K : PySem.W.Frag) (κ : Str -> Addr) (H1 : Hp) (Dd : Addr) (H' : Hp) (vs : List V) (rs : List D) (fv : List Addr) : Prop where
  same : SameK H1 H'
  at_ : H' Dd = some (.lst vs)
  rep : Reps K κ H' vs rs fv
  new : ∀ a ∈ fv, H1 a = none
  ne : Dd ∉ fv
  nd : fv.Nodup
theorem xv5 {pick : List (Option Nat)} {J : It} {Z : List Addr} {σ : St} {ps : PSt} {H1 : Hp} {Dd : Addr} {ds rs : List D} {Q : Addr -> Hp -> Prop} (w : WS X.K κ H1 σ ps) (hD : H1 Dd = none) (W : Walk X.K κ J Z H1 ds) (hz : ds.length <= sizeLine)
    (e : zv5 (yb4 pick ps) ft fe ds = some rs) (q : ∀ H' vs fv, Grown X.K κ H1 Dd H' vs rs fv -> Q Dd H') :
    ∃ V : Nat -> Nat -> St -> Hp -> Prop, (∃ m, V 0 m (zy5 pick σ) (upd H1 Dd (.lst []))) /\ ∀ i m σ' H', V i m σ' H' ->
    (J.stop i H' /\ Q Dd H') \/ (J.go i H' /\ ∀ x H2, J.yld i H' x H2 -> zz4 0 x σ' H2 fun σ3 H3 => tQ X.K κ ft σ3 H3 fun b H4 =>
      if b = true then tP X.K κ fe σ3 H4 fun y H5 => ∃ ys, H5 Dd = some (.lst ys) /\ ys.length < sizeLine /\ ∃ m', m' < m /\ V (i + 1) m' σ3 (upd H5 Dd (.lst (ys ++ [y]))) else ∃ m', m' < m /\ V (i + 1) m' σ3 H4) := by
  refine ⟨fun i m σ' H' => i <= ds.length /\ m = ds.length - i /\ (∀ (j : Nat) (d : D), j ≠ 0 -> (yb4 pick ps)[j]? = some (some d) -> ∃ v fp, σ'[j]? = some (some v) /\ Rep X.K κ H1 v d fp) /\ (yb4 pick ps).length <= σ'.length /\
    ∃ vs fv done zb9, Grown X.K κ H1 Dd H' vs done fv /\ done.length <= i /\ zv5 (yb4 pick ps) ft fe (ds.drop i) = some zb9 /\ rs = done ++ zb9, ⟨_, Nat.zero_le _, rfl, fun j d _ h => w.sub pick j d h, by simp [yb4, zy5], [], [], [], rs, ⟨.new hD _, zf3, .nil, fun _ h => absurd h (by simp), by simp, List.nodup_nil⟩, Nat.zero_le _, by rw [List.drop_zero]; exact e, rfl⟩, ?_⟩
  rintro i m σ' H' ⟨hi, rfl, ws, wl, vs, fv, done, zb9, G, hdn, er, ers⟩
  have kp : yd6 Z H1 H' := fun a o h t => G.same.keep a o h (t.elim zu2 fun t => t.1)
  by_cases hlt : i < ds.length
  . right
    have ed : ds[i]? = some ds[i] := List.getElem?_eq_getElem hlt
    obtain ⟨hgo, hy⟩ := W.go H' kp i _ ed
    refine ⟨hgo, fun x H2 y => ?_⟩
    obtain ⟨rfl, rx⟩ := hy x H2 y
    rw [List.drop_eq_getElem_cons hlt, zv5] at er
    obtain ⟨b, e1, e2⟩ := bind_some er
    have wset : WS X.K κ H2 (σ'.set 0 (some x)) ((yb4 pick ps).set 0 (some ds[i])) := WS.set0 (fun j d hj h => by obtain ⟨v, fp, h1, h2⟩ := ws j d hj h; exact ⟨v, fp, h1, h2.same G.same⟩) wl rx
    refine ⟨_, b, wset, e1, fun H3 s3 => ?_⟩
    have keepS : ∀ (j : Nat) (d : D), j ≠ 0 -> (yb4 pick ps)[j]? = some (some d) -> ∃ v fp, (σ'.set 0 (some x))[j]? = some (some v) /\ Rep X.K κ H1 v d fp := fun j d hj h => by
      obtain ⟨v, fp, h1, h2⟩ := ws j d hj h
      exact ⟨v, fp, by rw [List.getElem?_set_ne (fun z => hj z.symm)]; exact h1, h2⟩
    have Dkeep : ∀ {H5 : Hp}, SameK H2 H5 -> H5 Dd = some (.lst vs) := fun s => s.keep _ _ G.at_ rfl
    cases b with
    | true =>
      dsimp only
      rw [if_pos rfl] at e2 |-
      obtain ⟨r, e3, e4⟩ := bind_some e2
      obtain ⟨rs', e5, e6⟩ := bind_some e4
      cases e6
      refine ⟨_, r, wset.same s3, e3, fun y H5 fw s5 n5 nd5 r5 => ?_⟩
      have s25 := s3.trans s5
      refine ⟨vs, Dkeep s25, ?_, ds.length - (i + 1), by omega, hlt, rfl, keepS, by simpa using wl, vs ++ [y], fv ++ fw, done ++ [r], rs', ?_, ?_, e5, by rw [ers]; simp⟩
      . have := G.rep.length; omega
      . have hDw : Dd ∉ fw := fun z => by have := s3.grow Dd (n5 Dd z); rw [G.at_] at this; cases this
        have hup : ∀ a, a ≠ Dd -> upd H5 Dd (.lst (vs ++ [y])) a = H5 a := fun a h => zc6 h
        have tfk : ∀ a o, H5 a = some o -> tf o = true -> upd H5 Dd (.lst (vs ++ [y])) a = some o := fun a o h t => by
          rw [hup a]
          . exact h
          . rintro rfl; rw [Dkeep s25] at h; cases h; cases t
        have rv5 : Reps X.K κ H5 vs done fv := G.rep.same s25
        refine ⟨⟨fun a o h k => ?_, fun a h => ?_⟩, zf3, Reps.append (rv5.move tfk fun a ha => hup a fun z => G.ne (z ▸ ha)) (Reps.one (r5.move tfk fun a ha => hup a fun z => hDw (z ▸ ha))), fun a ha => ?_, fun z => ?_, ?_⟩
        . rw [hup a (fun z => by subst z; rw [hD] at h; cases h)]
          exact (G.same.trans s25).keep a o h k
        . by_cases z : a = Dd
          . subst z; rw [zf3] at h; cases h
          . rw [hup a z] at h; exact (G.same.trans s25).grow a h
        . rcases List.mem_append.mp ha with z | z
          . exact G.new a z
          . exact (G.same.trans s3).grow a (n5 a z)
        . rcases List.mem_append.mp z with z | z
          . exact G.ne z
          . exact hDw z
        . rw [List.nodup_append]
          refine ⟨G.nd, nd5, fun a ha b hb e => ?_⟩
          subst e
          obtain ⟨o, h, k, _⟩ := G.rep.own a ha
          have := s3.keep a o h k
          rw [n5 a hb] at this; cases this
      . rw [List.length_append, List.length_singleton]; omega
    | false =>
      dsimp only
      rw [if_neg Bool.false_ne_true] at e2 |-
      refine ⟨ds.length - (i + 1), by omega, hlt, rfl, keepS, by simpa using wl, vs, fv, done, zb9, ⟨G.same.trans s3, Dkeep s3, G.rep.same s3, G.new, G.ne, G.nd⟩, by omega, e2, ers⟩
  . left
    have ek : i = ds.length := by omega
    subst ek
    rw [List.drop_length, zv5] at er
    cases er
    rw [List.append_nil] at ers
    subst ers
    exact ⟨W.stop H' kp, q H' vs fv G⟩
theorem yv3 (S : CScope sc NX N pick scope) (hsc : X.env.scope = sc) (hNX : X.N = NX) (hc : X.calm = true) (hi : QIV X κ (.Name x px) iter fi)
    (hg : ∀ cl fp s H, PG (cxB X N scope cl fp s H) (.Name x px) (zz4 0)) (ht : ∀ cl fp s H, PTs (cxB X N scope cl fp s H) ifs (tQ X.K κ ft)) (he : ∀ cl fp s H, PE (cxB X N scope cl fp s H) elt (tP X.K κ fe))
    (hs : ∀ x, foldedSetIterable iter X.env x = pure x := by intro _; rfl) : QP X κ (.ListComp elt [⟨.Name x px, iter, ifs, 0⟩] scope pos) (ys6 pick fi ft fe) :=
  (wb2 S hsc hNX hc hi hg ht he hs).imp fun σ H Q hh_ => by
    obtain ⟨ps, d, w, e, q⟩ := hh_
    obtain ⟨ds, e1, e2⟩ := bind_some e
    obtain ⟨hz, e3⟩ := zd8 e2
    obtain ⟨rs, e4, e5⟩ := bind_some e3
    cases e5
    refine ⟨ps, ds, w, e1, fun J H1 Z s1 W Dd hD => ?_⟩
    refine xv5 (Q := fun Dd H' => Q (.ref Dd) H') (w.same s1) hD W hz e4 fun H' vs fv G => ?_
    refine q _ H' (Dd :: fv) (s1.trans G.same) (fun a ha => ?_) (List.nodup_cons.mpr ⟨G.ne, G.nd⟩) (.lst G.at_ G.rep)
    rcases List.mem_cons.mp ha with z | z
    . rw [z]; exact s1.grow Dd hD
    . exact s1.grow a (G.new a z)
end
end L2
namespace L2
open PySem PySem.Spec PyProof.Rows
inductive Ps1 where
  | ix (n : Nat) | fld (f : Str)
noncomputable def zd0 : List Str -> Str -> Option Nat
  | [], _ => none
  | n :: ns, f => if n = f then some 0 else (zd0 ns f).map (· + 1)
noncomputable def zc9 {α : Type} (h : D -> Option (α × D)) : D -> List Ps1 -> Option (α × D)
  | d, [] => h d
  | .lst true xs, .ix n :: p => (xs[n]?).bind fun d => (zc9 h d p).bind fun r => some (r.1, .lst true (xs.set n r.2))
  | .obj true C ns vs, .fld f :: p => (zd0 ns f).bind fun n => (vs[n]?).bind fun d => (zc9 h d p).bind fun r => some (r.1, .obj true C ns (vs.set n r.2))
  | _, _ => none
noncomputable def zd6 : D -> List Ps1 -> Option D
  | d, [] => some d
  | .lst true xs, .ix n :: p => (xs[n]?).bind fun d => zd6 d p
  | .obj true _ ns vs, .fld f :: p => (zd0 ns f).bind fun n => (vs[n]?).bind fun d => zd6 d p
  | _, _ => none
noncomputable def At (H : Hp) : V -> List Ps1 -> V -> Prop
  | v0, [], v => v = v0
  | v0, .ix n :: p, v => ∃ a vs v1, v0 = .ref a /\ H a = some (.lst vs) /\ vs[n]? = some v1 /\ At H v1 p v
  | v0, .fld f :: p, v => ∃ a C dx fs n v1, v0 = .ref a /\ H a = some (.ins C dx fs) /\ zd0 (fs.map (·.1)) f = some n /\ (fs.map (·.2))[n]? = some v1 /\ At H v1 p v
theorem At.same {H H' : Hp} (s : SameK H H') : ∀ {p : List Ps1} {v0 v : V}, At H v0 p v -> At H' v0 p v
  | [], _, _, h => h
  | .ix n :: p, _, _, ⟨a, vs, v1, h1, h2, h3, h4⟩ => ⟨a, vs, v1, h1, s.keep _ _ h2 rfl, h3, At.same s h4⟩
  | .fld f :: p, _, _, ⟨a, C, dx, fs, n, v1, h1, h2, h3, h4, h5⟩ => ⟨a, C, dx, fs, n, v1, h1, s.keep _ _ h2 rfl, h3, h4, At.same s h5⟩
theorem At.snoc_ix {H : Hp} {a : Addr} {vs : List V} {n : Nat} {v : V} (h : H a = some (.lst vs)) (hv : vs[n]? = some v) : ∀ {p : List Ps1} {v0 : V}, At H v0 p (.ref a) -> At H v0 (p ++ [.ix n]) v
  | [], _, e => ⟨a, vs, v, e.symm, h, hv, rfl⟩
  | .ix m :: p, _, ⟨b, us, v1, h1, h2, h3, h4⟩ => ⟨b, us, v1, h1, h2, h3, At.snoc_ix h hv h4⟩
  | .fld f :: p, _, ⟨b, C, dx, fs, m, v1, h1, h2, h3, h4, h5⟩ => ⟨b, C, dx, fs, m, v1, h1, h2, h3, h4, At.snoc_ix h hv h5⟩
theorem At.snoc_fld {H : Hp} {a C dx : Addr} {fs : List (Str × V)} {f : Str} {n : Nat} {v : V} (h : H a = some (.ins C dx fs)) (hn : zd0 (fs.map (·.1)) f = some n) (hv : (fs.map (·.2))[n]? = some v) : ∀ {p : List Ps1} {v0 : V}, At H v0 p (.ref a) -> At H v0 (p ++ [.fld f]) v
  | [], _, e => ⟨a, C, dx, fs, n, v, e.symm, h, hn, hv, rfl⟩
  | .ix m :: p, _, ⟨b, us, v1, h1, h2, h3, h4⟩ => ⟨b, us, v1, h1, h2, h3, At.snoc_fld h hn hv h4⟩
  | .fld f' :: p, _, ⟨b, C', dx', fs', m, v1, h1, h2, h3, h4, h5⟩ => ⟨b, C', dx', fs', m, v1, h1, h2, h3, h4, At.snoc_fld h hn hv h5⟩
theorem xh6 {α : Type} {h : D -> Option (α × D)} {d0 : D} {n : Nat} {p : List Ps1} {r : α} {d' : D} (e : zc9 h d0 (.ix n :: p) = some (r, d')) : ∃ xs d1 d2, d0 = .lst true xs /\ xs[n]? = some d1 /\ zc9 h d1 p = some (r, d2) /\ d' = .lst true (xs.set n d2) := by
  unfold zc9 at e
  split at e
  . rename_i z; cases z
  . rename_i z; cases z
    obtain ⟨d1, h1, h2⟩ := bind_some e
    obtain ⟨⟨r1, d2⟩, h3, h4⟩ := bind_some h2
    cases h4
    exact ⟨_, _, _, rfl, h1, h3, rfl⟩
  . rename_i z; cases z
  . cases e
theorem xd1 {α : Type} {h : D -> Option (α × D)} {d0 : D} {f : Str} {p : List Ps1} {r : α} {d' : D} (e : zc9 h d0 (.fld f :: p) = some (r, d')) : ∃ C ns xs n d1 d2, d0 = .obj true C ns xs /\ zd0 ns f = some n /\ xs[n]? = some d1 /\ zc9 h d1 p = some (r, d2) /\ d' = .obj true C ns (xs.set n d2) := by
  unfold zc9 at e
  split at e
  . rename_i z; cases z
  . rename_i z; cases z
  . rename_i z; cases z
    obtain ⟨n, h0, h9⟩ := bind_some e
    obtain ⟨d1, h1, h2⟩ := bind_some h9
    obtain ⟨⟨r1, d2⟩, h3, h4⟩ := bind_some h2
    cases h4
    exact ⟨_, _, _, _, _, _, rfl, h0, h1, h3, rfl⟩
  . cases e
theorem yl3 {d0 d : D} {n : Nat} {p : List Ps1} (e : zd6 d0 (.ix n :: p) = some d) : ∃ xs d1, d0 = .lst true xs /\ xs[n]? = some d1 /\ zd6 d1 p = some d := by
  unfold zd6 at e
  split at e
  . rename_i z; cases z
  . rename_i z; cases z
    obtain ⟨d1, h1, h2⟩ := bind_some e
    exact ⟨_, _, rfl, h1, h2⟩
  . rename_i z; cases z
  . cases e
theorem yf8 {d0 d : D} {f : Str} {p : List Ps1} (e : zd6 d0 (.fld f :: p) = some d) : ∃ C ns xs n d1, d0 = .obj true C ns xs /\ zd0 ns f = some n /\ xs[n]? = some d1 /\ zd6 d1 p = some d := by
  unfold zd6 at e
  split at e
  . rename_i z; cases z
  . rename_i z; cases z
  . rename_i z; cases z
    obtain ⟨n, h0, h9⟩ := bind_some e
    obtain ⟨d1, h1, h2⟩ := bind_some h9
    exact ⟨_, _, _, _, _, rfl, h0, h1, h2⟩
  . cases e
theorem zu3 {α : Type} {h : D -> Option (α × D)} {r : α} {d' : D} {p : List Ps1} : ∀ {d0 : D}, zc9 h d0 p = some (r, d') -> ∃ d dn, zd6 d0 p = some d /\ h d = some (r, dn) := by
  induction p generalizing d' with
  | nil => intro d0 e; rw [zc9] at e; exact ⟨d0, d', by rw [zd6], e⟩
  | cons s p ih =>
    intro d0 e
    cases s with
    | ix m =>
      obtain ⟨xs, d1, d2, rfl, h1, h3, rfl⟩ := xh6 e
      obtain ⟨d, dn, g1, g2⟩ := ih h3
      refine ⟨d, dn, ?_, g2⟩
      show (xs[m]?).bind _ = _
      rw [h1]; exact g1
    | fld f =>
      obtain ⟨C, ns, xs, m, d1, d2, rfl, h0, h1, h3, rfl⟩ := xd1 e
      obtain ⟨d, dn, g1, g2⟩ := ih h3
      refine ⟨d, dn, ?_, g2⟩
      show (zd0 ns f).bind _ = _
      rw [h0]
      show (xs[m]?).bind _ = _
      rw [h1]; exact g1
section
variable {K : PySem.W.Frag} {κ : Str -> Addr} {H : Hp}
theorem Reps.focus : ∀ {vs : List V} {ds : List D} {g : List Addr} {n : Nat} {d1 : D} {v1 : V}, Reps K κ H vs ds g -> ds[n]? = some d1 -> vs[n]? = some v1 -> ∃ f1 zb9, Rep K κ H v1 d1 f1 /\ g.Perm (f1 ++ zb9) /\
    ∀ (H' : Hp) (d' : D) (f' : List Addr), (∀ a o, H a = some o -> tf o = true -> H' a = some o) -> (∀ a ∈ zb9, H' a = H a) -> Rep K κ H' v1 d' f' -> ∃ g', Reps K κ H' vs (ds.set n d') g' /\ g'.Perm (f' ++ zb9)
  | _, _, _, _, _, _, .nil, e, _ => by simp at e
  | _, _, _, 0, _, _, .cons (f := f) (g := g) h hs, e, e' => by
    simp at e e'; subst e; subst e'
    exact ⟨f, g, h, .refl _, fun H' d' f' t k r => ⟨f' ++ g, .cons r (hs.move t k), .refl _⟩⟩
  | _, _, _, n + 1, _, _, .cons (f := f) (g := g) h hs, e, e' => by
    obtain ⟨f1, zb9, h1, h2, h3⟩ := Reps.focus (n := n) hs (by simpa using e) (by simpa using e')
    refine ⟨f1, f ++ zb9, h1, ?_, fun H' d' f' t k r => ?_⟩
    . refine (h2.append_left f).trans ?_
      rw [<- List.append_assoc, <- List.append_assoc]
      exact List.perm_append_comm.append_right zb9
    . obtain ⟨g', r1, r2⟩ := h3 H' d' f' t (fun a ha => k a (List.mem_append_right _ ha)) r
      refine ⟨f ++ g', .cons (h.move t fun a ha => k a (List.mem_append_left _ ha)) r1, ?_⟩
      refine (r2.append_left f).trans ?_
      rw [<- List.append_assoc, <- List.append_assoc]
      exact List.perm_append_comm.append_right zb9
theorem yy5 {b : Addr} {g f1 fd zb9 rest1 : List Addr} (k2 : g.Perm (f1 ++ rest1)) (m3 : f1.Perm (fd ++ zb9)) : (b :: g).Perm (fd ++ b :: (zb9 ++ rest1)) := by
  refine ((k2.trans (m3.append_right rest1)).cons b).trans ?_
  rw [List.append_assoc]
  exact List.perm_middle.symm
theorem focus {α : Type} {h : D -> Option (α × D)} {r : α} {p : List Ps1} : ∀ {v0 v : V} {d0 d0' : D} {fp : List Addr}, Rep K κ H v0 d0 fp -> zc9 h d0 p = some (r, d0') -> At H v0 p v -> ∃ d d' fd zb9, Rep K κ H v d fd /\ h d = some (r, d') /\ fp.Perm (fd ++ zb9) /\
    ∀ (H' : Hp) (f' : List Addr), (∀ a o, H a = some o -> tf o = true -> H' a = some o) -> (∀ a ∈ zb9, H' a = H a) -> Rep K κ H' v d' f' -> ∃ fp', Rep K κ H' v0 d0' fp' /\ fp'.Perm (f' ++ zb9) := by
  induction p with
  | nil =>
    intro v0 v d0 d0' fp R e a
    rw [zc9] at e
    cases (show v = v0 from a)
    exact ⟨d0, d0', fp, [], R, e, by rw [List.append_nil], fun H' f' t k r => ⟨f', r, by rw [List.append_nil]⟩⟩
  | cons s p ih =>
    intro v0 v d0 d0' fp R e a
    have deep : ∀ (b : Addr) (vs : List V) (xs : List D) (n : Nat) (d1 d2 : D) (v1 : V) (g : List Addr), fp = b :: g -> Reps K κ H vs xs g -> xs[n]? = some d1 -> vs[n]? = some v1 -> zc9 h d1 p = some (r, d2) -> At H v1 p v -> (∀ (H' : Hp) (g2 : List Addr), H' b = H b -> Reps K κ H' vs (xs.set n d2) g2 -> Rep K κ H' v0 d0' (b :: g2)) ->
        ∃ d d' fd zb9, Rep K κ H v d fd /\ h d = some (r, d') /\ fp.Perm (fd ++ zb9) /\ ∀ (H' : Hp) (f' : List Addr), (∀ a o, H a = some o -> tf o = true -> H' a = some o) -> (∀ a ∈ zb9, H' a = H a) -> Rep K κ H' v d' f' -> ∃ fp', Rep K κ H' v0 d0' fp' /\ fp'.Perm (f' ++ zb9) := fun b vs xs n d1 d2 v1 g ef hs h1 e3 h3 e4 mk => by
      subst ef
      obtain ⟨f1, rest1, k1, k2, k3⟩ := hs.focus h1 e3
      obtain ⟨d, d', fd, zb9, m1, m2, m3, m4⟩ := ih k1 h3 e4
      refine ⟨d, d', fd, b :: (zb9 ++ rest1), m1, m2, yy5 k2 m3, fun H' f' t k rr => ?_⟩
      obtain ⟨g1, q1, q2⟩ := m4 H' f' t (fun a ha => k a (List.mem_cons_of_mem _ (List.mem_append_left _ ha))) rr
      obtain ⟨g2, q3, q4⟩ := k3 H' d2 g1 t (fun a ha => k a (List.mem_cons_of_mem _ (List.mem_append_right _ ha))) q1
      exact ⟨b :: g2, mk H' g2 (k b List.mem_cons_self) q3, yy5 q4 q2⟩
    cases s with
    | ix n =>
      obtain ⟨b, vs, v1, e1, e2, e3, e4⟩ := a
      subst e1
      obtain ⟨xs, d1, d2, rfl, h1, h3, rfl⟩ := xh6 e
      obtain ⟨_, _, g, e5, hb, hs, ef⟩ := R.lstT_inv
      cases e5
      rw [e2] at hb; cases hb
      exact deep b vs xs n d1 d2 v1 g ef hs h1 e3 h3 e4 fun H' g2 k q3 => .lst (k.trans e2) q3
    | fld f =>
      obtain ⟨b, C, dx, fs, n, v1, e1, e2, e2', e3, e4⟩ := a
      subst e1
      obtain ⟨C', ns, xs, n', d1, d2, rfl, h0, h1, h3, rfl⟩ := xd1 e
      obtain ⟨_, _, _, g, e5, hb, hn, hs, ef⟩ := R.objT_inv
      cases e5
      rw [e2] at hb; cases hb
      subst hn
      rw [e2'] at h0; cases h0
      exact deep b _ xs n d1 d2 v1 g ef hs h1 e3 h3 e4 fun H' g2 k q3 => .obj (k.trans e2) rfl q3
end
theorem ye4 {φ : Fx} {α : Type} {h : D -> Option (α × D)} {r : α} {H H1 : Hp} {σ : St} {ps : PSt} {F : Nat -> List Addr} {j : Nat} {d0 d0' : D} {v0 v : V} {p : List Ps1} (R : RS φ H σ ps F) (s1 : SameK H H1) (hb : φ.bor j = false) (e0 : ps[j]? = some (some d0)) (ev : σ[j]? = some (some v0))
    (em : zc9 h d0 p = some (r, d0')) (at_ : At H1 v0 p v) : ∃ d d' fd, Rep φ.K φ.κ H1 v d fd /\ h d = some (r, d') /\ fd.Nodup /\ (∀ a ∈ fd, a ∈ F j) /\
    ∀ (H' : Hp) (fd' fr : List Addr), (∀ a o, H1 a = some o -> kd o = true -> a ∉ fd -> H' a = some o) -> (∀ a, H' a = none -> H1 a = none) -> Rep φ.K φ.κ H' v d' fd' -> (fd' ++ fr).Nodup -> (∀ a ∈ fd' ++ fr, a ∈ fd \/ H a = none) ->
      ∃ F', Stp φ σ H F σ H' (ps.set j (some d0')) F' /\ OwnV F H F' fr := by
  obtain ⟨v0', fp, h1, h2, h3, _⟩ := R.rep j d0 e0
  rw [ev] at h1; cases h1
  have h3 := h3 hb
  subst h3
  obtain ⟨d, d', fd, zb9, m1, m2, m3, m4⟩ := focus (h2.same s1) em at_
  have ndF := R.nd j
  have ndp : (fd ++ zb9).Nodup := m3.nodup_iff.mp ndF
  obtain ⟨nd1, nd2, nd3⟩ := List.nodup_append.mp ndp
  have inF : ∀ a, a ∈ fd \/ a ∈ zb9 -> a ∈ F j := fun a ha => m3.mem_iff.mpr (List.mem_append.mpr ha)
  refine ⟨d, d', fd, m1, m2, nd1, fun a ha => inF a (.inl ha), fun H' fd' fr k1 k2 k3 k4 k5 => ?_⟩
  have tfk : ∀ a o, H1 a = some o -> tf o = true -> H' a = some o := fun a o ha t => k1 a o ha (zu2 t) fun hm => by
    obtain ⟨o', q, _, q'⟩ := m1.own a hm
    rw [ha] at q; cases q; rw [t] at q'; cases q'
  have keepO : ∀ a, (∃ i, a ∈ F i) -> a ∉ fd -> H' a = H1 a := fun a ⟨i, hi⟩ hn => by
    obtain ⟨o, q, q', _⟩ := R.own hi
    have q1 := s1.keep a o q q'
    rw [q1]; exact k1 a o q1 q' hn
  have notfd : ∀ a, a ∈ zb9 -> a ∉ fd := fun a hr hf => nd3 a hf a hr rfl
  obtain ⟨fp', r1, r2⟩ := m4 H' fd' tfk (fun a ha => keepO a ⟨j, inF a (.inr ha)⟩ (notfd a ha)) k3
  obtain ⟨kd1, kd2, kd3⟩ := List.nodup_append.mp k4
  have memfp : ∀ a, a ∈ fp' -> a ∈ fd' \/ a ∈ zb9 := fun a ha => List.mem_append.mp (r2.mem_iff.mp ha)
  have lt : j < ps.length := (List.getElem?_eq_some_iff.mp e0).1
  have old : ∀ a, a ∈ fd' ++ fr -> ∀ i, a ∈ F i -> a ∈ fd := fun a ha i hi => (k5 a ha).elim id fun z => by
    obtain ⟨o, q, _⟩ := R.own hi
    rw [z] at q; cases q
  refine ⟨zu5 F j fp', ⟨⟨fun a o ha hk hn => ?_, fun a ha => s1.grow a (k2 a ha)⟩, fun i a ha => ?_, ⟨fun i d2 hi => ?_, fun i a ha => ?_, fun i k a ha hk => ?_, fun i => ?_, fun i a ha kk hB => ?_, fun kk a hB z => R.bt kk a hB (s1.grow a (k2 a z)), by simpa using R.len⟩, fun _ _ => rfl⟩, ⟨fun a ha => ?_, kd2, fun i a ha hr => ?_⟩⟩
  . exact k1 a o (s1.keep a o ha hk) hk fun hm => hn j (inF a (.inl hm))
  . rcases zq1 ha with z | z
    . rcases memfp a z with z | z
      . exact (k5 a (List.mem_append_left _ z)).elim (fun z => .inl ⟨j, inF a (.inl z)⟩) .inr
      . exact .inl ⟨j, inF a (.inr z)⟩
    . exact .inl ⟨i, z⟩
  . by_cases e : i = j
    . subst e
      rw [List.getElem?_set_self lt] at hi
      cases hi
      exact ⟨v0, fp', ev, r1, fun _ => zh1.symm, fun z => by rw [hb] at z; cases z⟩
    . rw [List.getElem?_set_ne (fun z => e z.symm)] at hi
      obtain ⟨v2, f2, q1, q2, q3, q4⟩ := R.rep i d2 hi
      refine ⟨v2, f2, q1, (q2.same s1).move tfk fun a ha => ?_, fun z => by rw [zg5 e]; exact q3 z, q4⟩
      obtain ⟨o, w1, w2, _⟩ := q2.own a ha
      have w3 := s1.keep a o w1 w2
      rw [w3]
      refine k1 a o w3 w2 fun hm => ?_
      have hF := inF a (.inl hm)
      cases hbi : φ.bor i with
      | true => exact R.nb j a hF i (q4 hbi a ha)
      | false => rw [q3 hbi] at ha; exact e (R.dis i j a ha hF)
  . by_cases e : i = j
    . subst e; exact ⟨hb, d0', by rw [List.getElem?_set_self lt]⟩
    . rw [zg5 e] at ha
      obtain ⟨b1, d1, b2⟩ := R.emp i a ha
      exact ⟨b1, d1, by rw [List.getElem?_set_ne (fun z => e z.symm)]; exact b2⟩
  . have hh : ∀ a, a ∈ fp' -> ∀ i, i ≠ j -> a ∈ F i -> False := fun a ha i hij hi => by
      rcases memfp a ha with z | z
      . exact hij (R.dis i j a hi (inF a (.inl (old a (List.mem_append_left _ z) i hi))))
      . exact hij (R.dis i j a hi (inF a (.inr z)))
    by_cases e1 : i = j
    . by_cases e2 : k = j
      . rw [e1, e2]
      . subst e1; rw [zh1] at ha; rw [zg5 e2] at hk; exact (hh a ha k e2 hk).elim
    . by_cases e2 : k = j
      . subst e2; rw [zh1] at hk; rw [zg5 e1] at ha; exact (hh a hk i e1 ha).elim
      . rw [zg5 e1] at ha; rw [zg5 e2] at hk; exact R.dis i k a ha hk
  . by_cases e : i = j
    . subst e
      rw [zh1]
      refine r2.nodup_iff.mpr (List.nodup_append.mpr ⟨kd1, nd2, fun a ha b hb' e => ?_⟩)
      subst e
      exact notfd a hb' (old a (List.mem_append_left _ ha) i (inF a (.inr hb')))
    . rw [zg5 e]; exact R.nd i
  . rcases zq1 ha with z | z
    . rcases memfp a z with z | z
      . exact R.notB ((k5 a (List.mem_append_left _ z)).elim (fun z => .inl ⟨j, inF a (.inl z)⟩) .inr) kk hB
      . exact R.nb j a (inF a (.inr z)) kk hB
    . exact R.nb i a z kk hB
  . exact (k5 a (List.mem_append_right _ ha)).elim (fun z => .inl ⟨j, inF a (.inl z)⟩) .inr
  . rcases zq1 ha with z | z
    . rcases memfp a z with z | z
      . exact kd3 a z a hr rfl
      . exact notfd a z (old a (List.mem_append_right _ hr) j (inF a (.inr z)))
    . have := old a (List.mem_append_right _ hr) i z
      by_cases e : i = j
      . subst e
        rw [zh1] at ha
        rcases memfp a ha with w | w
        . exact kd3 a w a hr rfl
        . exact notfd a w this
      . exact e (R.dis i j a z (inF a (.inl this)))
end L2
namespace L2
open PySem PySem.Spec PyProof.Rows
noncomputable def zk1 (K : PySem.W.Frag) (κ : Str -> Addr) (j : Nat) (pf : PSt -> Option (List Ps1)) : TE := fun σ H Q => ∃ ps p d0 d, WS K κ H σ ps /\ ps[j]? = some (some d0) /\ pf ps = some p /\ zd6 d0 p = some d /\ ∀ v H' v0, SameK H H' -> σ[j]? = some (some v0) -> At H' v0 p v -> Q v H'
theorem yn9 {K : PySem.W.Frag} {κ : Str -> Addr} {H : Hp} {v0 v : V} {d0 d : D} {fp : List Addr} {p : List Ps1} (R : Rep K κ H v0 d0 fp) (g : zd6 d0 p = some d) (a : At H v0 p v) : ∃ fd, Rep K κ H v d fd := by
  have key : ∀ {p : List Ps1} {v0 v : V} {d0 d : D} {fp : List Addr}, Rep K κ H v0 d0 fp -> zd6 d0 p = some d -> At H v0 p v -> ∃ fd, Rep K κ H v d fd := by
    intro p
    induction p with
    | nil => intro v0 v d0 d fp R g a; cases g; cases (show v = v0 from a); exact ⟨fp, R⟩
    | cons s p ih =>
      intro v0 v d0 d fp R g a
      cases s with
      | ix n =>
        obtain ⟨b, vs, v1, e1, e2, e3, e4⟩ := a
        subst e1
        obtain ⟨xs, d1, rfl, h1, h2⟩ := yl3 g
        obtain ⟨_, _, _, e5, hb, hs, _⟩ := R.lstT_inv
        cases e5
        rw [e2] at hb; cases hb
        obtain ⟨v', f, q1, q2, _⟩ := hs.get h1
        rw [e3] at q1; cases q1
        exact ih q2 h2 e4
      | fld f =>
        obtain ⟨b, C, dx, fs, n, v1, e1, e2, e2', e3, e4⟩ := a
        subst e1
        obtain ⟨C', ns, xs, n', d1, rfl, h0, h1, h2⟩ := yf8 g
        obtain ⟨_, _, _, _, e5, hb, hn, hs, _⟩ := R.objT_inv
        cases e5
        rw [e2] at hb; cases hb
        subst hn
        rw [e2'] at h0; cases h0
        obtain ⟨v', f, q1, q2, _⟩ := hs.get h1
        rw [e3] at q1; cases q1
        exact ih q2 h2 e4
  exact key R g a
noncomputable def zb0 : PSt -> Option (List Ps1) := fun _ => some []
noncomputable def zs4 (j : Nat) (pf : PSt -> Option (List Ps1)) (fb : PSt -> Option D) : PSt -> Option (List Ps1) := fun ps => (pf ps).bind fun p => ((ps[j]?).join).bind fun d0 => (zd6 d0 p).bind fun d => (fb ps).bind fun y => match d, y with
  | .lst true xs, .int i => (ixN xs.length i).bind fun n => some (p ++ [.ix n])
  | _, _ => none
noncomputable def zk2 (j : Nat) (pf : PSt -> Option (List Ps1)) (C f : Str) : PSt -> Option (List Ps1) := fun ps => (pf ps).bind fun p => ((ps[j]?).join).bind fun d0 => (zd6 d0 p).bind fun d => match d with
  | .obj true C' _ _ => if C' = C then some (p ++ [.fld f]) else none
  | _ => none
theorem ya5 : ∀ {fs : List (Str × V)} {f : Str} {n : Nat} {v : V}, zd0 (fs.map (·.1)) f = some n -> (fs.map (·.2))[n]? = some v -> fs.lookup f = some v
  | [], _, _, _, h, _ => by cases h
  | (g, u) :: fs, f, n, v, h, hv => by
    rw [List.map_cons, zd0] at h
    by_cases e : g = f
    . rw [if_pos e] at h
      cases h
      rw [List.lookup_cons]
      have : (f == g) = true := by simp [e]
      rw [this]
      simpa using hv
    . rw [if_neg e] at h
      cases q : zd0 (fs.map (·.1)) f with
      | none => rw [q] at h; cases h
      | some m =>
        rw [q] at h; cases h
        rw [List.lookup_cons]
        have : (f == g) = false := by simp; exact fun z => e z.symm
        rw [this]
        exact ya5 q (by simpa using hv)
section
variable {X : Cx} {φ : F0} {κ : Str -> Addr} {K : PySem.W.Frag} {o e a b : Expr} {f fb fe : PSt -> Option D} {g : PSt -> Option (List D)} {pf : PSt -> Option (List Ps1)} {j : Nat} {pos apos : Pos}
theorem zd3 (j : Nat) {x : Str} (hN : X.N[j]? = some x := by rfl) (hv : Vis X.env.scope x := by first | exact Or.inl rfl | exact Or.inr (Or.inl rfl) | exact Or.inr (Or.inr rfl)) (hd : (x == ("__debug__" : Str)) = false := by decide)
    (hcd : (x == ("__classdict__" : Str)) = false := by decide) : PE X (.Name x pos) (zk1 K κ j zb0) := (zx6 hN hv hd hcd).imp fun σ H Q hh_ => by
  obtain ⟨ps, p, d0, d, w, e0, ep, eg, q⟩ := hh_
  cases ep
  obtain ⟨v, fp, h1, h2⟩ := w j d0 e0
  exact ⟨v, h1, q v H v (.refl H) h1 rfl⟩
theorem ya6 (ha : PE X a (zk1 X.K κ j pf)) (hb : QV X κ b fb) (hs : zw8 b := by exact fun _ _ => rfl) : PE X (.Subscript a b pos) (zk1 X.K κ j (zs4 j pf fb)) :=
  (xa6 yu4 ha hb hs).imp fun σ H Q hh_ => by
    obtain ⟨ps, p, d0, d, w, e0, ep, eg, q⟩ := hh_
    obtain ⟨p1, e1, e2⟩ := bind_some ep
    obtain ⟨d0', e3, e4⟩ := bind_some e2
    have := join_some e3
    rw [e0] at this; cases this
    obtain ⟨d1, e5, e6⟩ := bind_some e4
    obtain ⟨y, e7, e8⟩ := bind_some e6
    split at e8
    . rename_i xs i
      obtain ⟨n, e9, e10⟩ := bind_some e8
      cases e10
      refine ⟨ps, p1, d0, _, w, e0, e1, e5, fun v H1 v0 s1 ev a1 => ⟨ps, _, w.same s1, e7, fun u H2 fq s2 r2 => ?_⟩⟩
      obtain ⟨v0', fp, h1, h2⟩ := w j d0 e0
      rw [ev] at h1; cases h1
      obtain ⟨fd, rd⟩ := yn9 (h2.same (s1.trans s2)) e5 (a1.same s2)
      obtain ⟨l, vs, g, rfl, hl, hr, _⟩ := rd.lstT_inv
      have ln := hr.length
      have hn := (yk8 e9).2.1
      obtain ⟨v1, hv⟩ : ∃ v1, vs[n]? = some v1 := ⟨_, List.getElem?_eq_getElem (by rw [ln]; exact hn)⟩
      refine ⟨l, vs, i, v1, rfl, r2.is_int, .inl (.inl hl), ?_, q _ H2 v0 (s1.trans s2) ev (At.snoc_ix hl hv (a1.same s2))⟩
      unfold atI
      rw [ln, e9]; exact hv
    . cases e8
theorem yi7 {C fn : Str} (hc : Cls X.K (κ C)) (hna : ze6 X.K (κ C) fn) (ha : PE X a (zk1 X.K κ j pf)) (hb : attributeBase a fn X.env (eval a X.env) = eval a X.env := by rfl) : PE X (.Attribute a fn pos) (zk1 X.K κ j (zk2 j pf C fn)) :=
  (wf9 ha hb).imp fun σ H Q hh_ => by
    obtain ⟨ps, p, d0, d, w, e0, ep, eg, q⟩ := hh_
    obtain ⟨p1, e1, e2⟩ := bind_some ep
    obtain ⟨d0', e3, e4⟩ := bind_some e2
    have := join_some e3
    rw [e0] at this; cases this
    obtain ⟨d1, e5, e6⟩ := bind_some e4
    split at e6
    . rename_i C' ns xs
      obtain ⟨hC, e7⟩ := zd8 e6
      subst hC
      cases e7
      refine ⟨ps, p1, d0, _, w, e0, e1, e5, fun v H1 v0 s1 ev a1 => ?_⟩
      obtain ⟨v0', fp, h1, h2⟩ := w j d0 e0
      rw [ev] at h1; cases h1
      obtain ⟨fd, rd⟩ := yn9 (h2.same s1) e5 a1
      have key : ∀ {p : List Ps1} {d0 : D}, zd6 d0 p = some (.obj true C' ns xs) -> zd6 d0 (p ++ [.fld fn]) = some d -> ∃ n d', zd0 ns fn = some n /\ xs[n]? = some d' := by
        intro p
        induction p with
        | nil =>
          intro d0 h1 h2
          cases h1
          obtain ⟨n, k1, k2⟩ := bind_some h2
          obtain ⟨d', k3, _⟩ := bind_some k2
          exact ⟨n, d', k1, k3⟩
        | cons s p ih =>
          intro d0 h1 h2
          cases s with
          | ix m =>
            obtain ⟨ys, x1, rfl, k1, k2⟩ := yl3 h1
            obtain ⟨_, x2, z, k3, k4⟩ := yl3 h2
            cases z
            rw [k1] at k3; cases k3
            exact ih k2 k4
          | fld f' =>
            obtain ⟨C2, ns2, ys, m1, x1, rfl, k0, k1, k2⟩ := yf8 h1
            obtain ⟨_, _, _, m2, x2, z, k5, k3, k4⟩ := yf8 h2
            cases z
            rw [k0] at k5; cases k5
            rw [k1] at k3; cases k3
            exact ih k2 k4
      obtain ⟨n, d', k1, k2⟩ := key e5 eg
      obtain ⟨l, dx, fs, g, rfl, hl, hn, hr, _⟩ := rd.objT_inv
      subst hn
      obtain ⟨v1, f1, k3, _⟩ := hr.get k2
      exact ⟨l, κ C', dx, fs, v1, rfl, hl, hc, hna, ya5 k1 k3, q _ H1 v0 s1 ev (At.snoc_fld hl k1 k3 a1)⟩
    . cases e6
noncomputable def zc0 (j : Nat) (pf : PSt -> Option (List Ps1)) (g : PSt -> Option (List D)) (h : List D -> D -> Option (D × D)) : PSt -> Option (D × PSt) := fun ps => ((ps[j]?).join).bind fun d0 => (pf ps).bind fun p => (g ps).bind fun ys => (zc9 (h ys) d0 p).bind fun r => some (r.1, ps.set j (some r.2))
theorem yi8 {h : List D -> D -> Option (D × D)} {ps ps' : PSt} {d : D} (e : zc0 j pf g h ps = some (d, ps')) : ∃ d0 p ys d0', ps[j]? = some (some d0) /\ pf ps = some p /\ g ps = some ys /\ zc9 (h ys) d0 p = some (d, d0') /\ ps' = ps.set j (some d0') := by
  obtain ⟨d0, e1, e2⟩ := bind_some e
  obtain ⟨p, e3, e4⟩ := bind_some e2
  obtain ⟨ys, e5, e6⟩ := bind_some e4
  obtain ⟨⟨r, d0'⟩, e7, e8⟩ := bind_some e6
  cases e8
  exact ⟨d0, p, ys, d0', join_some e1, e3, e5, e7, rfl⟩
noncomputable def zc5 : List D -> D -> Option (D × D)
  | [y], .lst true xs => if xs.length < sizeLine then some (.non, .lst true (xs ++ [y])) else none
  | _, _ => none
theorem zv1 {ys : List D} {d r d' : D} (h : zc5 ys d = some (r, d')) : ∃ y xs, ys = [y] /\ d = .lst true xs /\ xs.length < sizeLine /\ r = .non /\ d' = .lst true (xs ++ [y]) := by
  unfold zc5 at h
  split at h
  . obtain ⟨hc, e⟩ := zd8 h
    cases e
    exact ⟨_, _, rfl, rfl, hc, rfl, rfl⟩
  . cases h
theorem yl4 {H H1 : Hp} {σ : St} {ps : PSt} {d0 d : D} {v0 v : V} {p : List Ps1} (w : WS K κ H σ ps) (s1 : SameK H H1) (e0 : ps[j]? = some (some d0)) (ev : σ[j]? = some (some v0)) (g : zd6 d0 p = some d) (a : At H1 v0 p v) : ∃ fd, Rep K κ H1 v d fd := by
  obtain ⟨v0', fp, h1, h2⟩ := w j d0 e0
  rw [ev] at h1; cases h1
  exact yn9 (h2.same s1) g a
theorem zo5 (hb : φ.bor j = false) (ho : PE X o (zk1 X.K κ j pf)) (ha : PA X [e] (tPA X.K κ g))
    (hbase : attributeBase o "append" X.env (eval o X.env) = eval o X.env := by rfl)
    (hfew : ((backTo pos (starEach [e] X.env)).all (fun x => !x.1) && (backToKw pos (keywordEach [] X.env)).all (fun x => x.1.isSome)
      && decide ([e].length + ([] : List Keyword).length + (if ([] : List Keyword).isEmpty then 0 else 1) < 30)) = true := by rfl)
    (hline : (apos.endLine == pos.line) = true := by rfl) (hs : starEach [e] X.env = (false, eval e X.env) :: starEach [] X.env := by rfl) (hplain : (backTo pos (starEach [] X.env)).any (·.1) = false := by rfl) :
    QE X κ φ (.Call (.Attribute o "append" apos) [e] [] pos) (zc0 j pf g zc5) :=
  (xk2 PySem.F.plainAttrs_list PySem.F.slot_list_append PySem.F.type_list_append yi2 ho ha hbase hfew hline hs hplain).imp fun σ H Q hh_ => by
    obtain ⟨ps, F, d, ps', R, e, q⟩ := hh_
    obtain ⟨d0, p, ys, d0', e0, ep, eg, em, rfl⟩ := yi8 e
    obtain ⟨dd, dn, gp, hh⟩ := zu3 em
    refine ⟨ps, p, d0, dd, R.ws, e0, ep, gp, fun v H1 v0 s1 ev a1 => ⟨?_, ps, ys, R.ws.same s1, eg, fun vs H2 fy s2 n2 nd2 r2 => ?_⟩⟩
    . obtain ⟨y, xs, rfl, rfl, _⟩ := zv1 hh
      obtain ⟨fd, rd⟩ := yl4 R.ws s1 e0 ev gp a1
      obtain ⟨_, _, _, rfl, hl, hr, rfl⟩ := rd.lstT_inv
      exact .inl ⟨rfl, _, .inl (.inl hl)⟩
    . obtain ⟨d1, d1', fd, m1, m2, m3, m4, m5⟩ := ye4 R (s1.trans s2) hb e0 ev em (a1.same s2)
      obtain ⟨y, xs, rfl, rfl, hz, rfl, rfl⟩ := zv1 m2
      obtain ⟨u, rfl, ru⟩ := r2.one_inv
      obtain ⟨l, us, g1, rfl, hl, hr, rfl⟩ := m1.lstT_inv
      have ln := hr.length
      refine ⟨l, us, u, rfl, rfl, hl, by omega, ?_⟩
      have nl : l ∉ fy := fun z => by have := n2 l z; have := s1.keep l; obtain ⟨o, h1, h2, _⟩ := R.own (m4 l List.mem_cons_self); have := s1.keep l o h1 h2; rw [n2 l z] at this; cases this
      obtain ⟨nl2, nd3⟩ := List.nodup_cons.mp m3
      have up : ∀ a, a ≠ l -> upd H2 l (.lst (us ++ [u])) a = H2 a := fun a h => zc6 h
      have tfk : ∀ a o, H2 a = some o -> tf o = true -> upd H2 l (.lst (us ++ [u])) a = some o := fun a o h t => by
        rw [up a]
        . exact h
        . rintro rfl; rw [hl] at h; cases h; cases t
      obtain ⟨F', st, ow⟩ := m5 (upd H2 l (.lst (us ++ [u]))) (l :: (g1 ++ fy)) [] (fun a o h _ hn => by rw [up a (fun z => hn (z ▸ List.mem_cons_self))]; exact h)
        (fun a h => by
          by_cases z : a = l
          . subst z; rw [zf3] at h; cases h
          . rw [up a z] at h; exact h)
        (.lst zf3 (Reps.append (hr.move tfk fun a ha => up a fun z => nl2 (z ▸ ha)) (Reps.one (ru.move tfk fun a ha => up a fun z => nl (z ▸ ha)))))
        (by
          rw [List.append_nil, List.nodup_cons, List.nodup_append]
          refine ⟨fun z => (List.mem_append.mp z).elim nl2 nl, nd3, nd2, fun a ha b hb e => ?_⟩
          subst e
          obtain ⟨o, h1, h2, _⟩ := R.own (m4 a (List.mem_cons_of_mem _ ha))
          have := s1.keep a o h1 h2
          rw [n2 a hb] at this; cases this)
        (fun a ha => by
          rw [List.append_nil] at ha
          rcases List.mem_cons.mp ha with z | z
          . exact .inl (z ▸ List.mem_cons_self)
          . rcases List.mem_append.mp z with z | z
            . exact .inl (List.mem_cons_of_mem _ z)
            . exact .inr (s1.grow a (n2 a z)))
      exact q .non _ F' [] st ow .non
end
end L2
namespace L2
open PySem PySem.Spec PyProof.Rows
section
variable {K : PySem.W.Frag} {κ : Str -> Addr} {H : Hp} {l : Addr} {o0 o : HO}
theorem xq8 (hl : H l = some o0) (ht : tf o0 = false) : ∀ a u, H a = some u -> tf u = true -> upd H l o a = some u := fun a u h t => by
  rw [zc6]
  . exact h
  . rintro rfl; rw [hl] at h; cases h; rw [ht] at t; cases t
theorem Rep.updL {v : V} {d : D} {g : List Addr} (r : Rep K κ H v d g) (hl : H l = some o0) (ht : tf o0 = false) (n : l ∉ g) : Rep K κ (upd H l o) v d g := r.move (xq8 hl ht) fun a ha => zc6 fun z => n (z ▸ ha)
theorem Reps.updL {v : List V} {d : List D} {g : List Addr} (r : Reps K κ H v d g) (hl : H l = some o0) (ht : tf o0 = false) (n : l ∉ g) : Reps K κ (upd H l o) v d g := r.move (xq8 hl ht) fun a ha => zc6 fun z => n (z ▸ ha)
theorem yf9 {a : Addr} {u : HO} {g : List Addr} (h : H a = some u) (n : a ∉ l :: g) : upd H l o a = some u := by
  rw [zc6 (fun z => n (by rw [z]; exact List.mem_cons_self))]; exact h
theorem zu4 {a : Addr} (h : upd H l o a = none) : H a = none := by
  by_cases z : a = l
  . subst z; rw [zf3] at h; cases h
  . rw [zc6 z] at h; exact h
theorem Reps.pop : ∀ {vs : List V} {ds : List D} {g : List Addr} {d : D}, Reps K κ H vs ds g -> ds[ds.length - 1]? = some d -> ∃ v g1 f, vs[vs.length - 1]? = some v /\ Rep K κ H v d f /\ Reps K κ H vs.dropLast ds.dropLast g1 /\ g = g1 ++ f
  | _, _, _, _, .nil, e => by simp at e
  | _, [d1], _, d, .cons (f := f) h .nil, e => by
    have e' : d1 = d := by simpa using e
    subst e'
    exact ⟨_, [], f, by simp, h, .nil, by simp⟩
  | v :: v2 :: vs, d1 :: d2 :: ds, _, d, .cons (f := f) h (.cons (f := f2) (g := g2) h2 hs), e => by
    obtain ⟨w, g1, f', k1, k2, k3, k4⟩ := Reps.pop (.cons h2 hs) (d := d) (by simpa using e)
    refine ⟨w, f ++ g1, f', by simpa using k1, k2, ?_, by rw [List.append_assoc, <- k4]⟩
    rw [List.dropLast_cons₂, List.dropLast_cons₂]
    exact .cons h k3
theorem Reps.setV : ∀ {vs : List V} {ds : List D} {g : List Addr} {n : Nat} {v' : V} {d' : D} {f' : List Addr}, Reps K κ H vs ds g -> n < ds.length -> Rep K κ H v' d' f' -> ∃ f1 zb9 g', g.Perm (f1 ++ zb9) /\ Reps K κ H (vs.set n v') (ds.set n d') g' /\ g'.Perm (f' ++ zb9)
  | _, _, _, _, _, _, _, .nil, e, _ => by simp at e
  | _, _, _, 0, _, _, f', .cons (f := f) (g := g) h hs, _, r => ⟨f, g, f' ++ g, .refl _, .cons r hs, .refl _⟩
  | _, _, _, n + 1, _, _, f', .cons (f := f) (g := g) h hs, e, r => by
    obtain ⟨f1, zb9, g', h1, h2, h3⟩ := Reps.setV (n := n) hs (by simpa using e) r
    refine ⟨f1, f ++ zb9, f ++ g', ?_, .cons h h2, ?_⟩
    . refine (h1.append_left f).trans ?_
      rw [<- List.append_assoc, <- List.append_assoc]
      exact List.perm_append_comm.append_right zb9
    . refine (h3.append_left f).trans ?_
      rw [<- List.append_assoc, <- List.append_assoc]
      exact List.perm_append_comm.append_right zb9
end
section
variable {X : Cx} {φ : F0} {κ : Str -> Addr} {K : PySem.W.Frag} {o e a b : Expr} {f fi fe : PSt -> Option D} {g : PSt -> Option (List D)} {pf : PSt -> Option (List Ps1)} {j : Nat} {pos apos : Pos}
noncomputable def zy7 : List D -> D -> Option (D × D)
  | [], .lst true xs => (xs[xs.length - 1]?).bind fun y => some (y, .lst true xs.dropLast)
  | _, _ => none
theorem yy6 {ys : List D} {d r d' : D} (h : zy7 ys d = some (r, d')) : ∃ xs, ys = [] /\ d = .lst true xs /\ xs[xs.length - 1]? = some r /\ d' = .lst true xs.dropLast := by
  unfold zy7 at h
  split at h
  . obtain ⟨y, h1, h2⟩ := bind_some h
    cases h2
    exact ⟨_, rfl, rfl, h1, rfl⟩
  . cases h
theorem yq9 (hb : φ.bor j = false) (ho : PE X o (zk1 X.K κ j pf))
    (hbase : attributeBase o "pop" X.env (eval o X.env) = eval o X.env := by rfl) (hline : (apos.endLine == pos.line) = true := by rfl) : QE X κ φ (.Call (.Attribute o "pop" apos) [] [] pos) (zc0 j pf za2 zy7) :=
  (xp5 PySem.F.plainAttrs_list PySem.F.slot_list_pop PySem.F.type_list_pop xp6 ho hbase hline).imp fun σ H Q hh_ => by
    obtain ⟨ps, F, d, ps', R, e, q⟩ := hh_
    obtain ⟨d0, p, ys, d0', e0, ep, eg, em, rfl⟩ := yi8 e
    cases eg
    obtain ⟨dd, dn, gp, hh⟩ := zu3 em
    refine ⟨ps, p, d0, dd, R.ws, e0, ep, gp, fun v H1 v0 s1 ev a1 => ⟨?_, ?_⟩⟩
    . obtain ⟨xs, _, rfl, _⟩ := yy6 hh
      obtain ⟨fd, rd⟩ := yl4 R.ws s1 e0 ev gp a1
      obtain ⟨_, _, _, rfl, hl, hr, rfl⟩ := rd.lstT_inv
      exact .inl ⟨rfl, _, .inl (.inl hl)⟩
    . obtain ⟨d1, d1', fd, m1, m2, m3, m4, m5⟩ := ye4 R s1 hb e0 ev em a1
      obtain ⟨xs, _, rfl, hx, rfl⟩ := yy6 m2
      obtain ⟨l, us, g1, rfl, hl, hr, rfl⟩ := m1.lstT_inv
      obtain ⟨u, g2, f2, k1, k2, k3, rfl⟩ := hr.pop hx
      obtain ⟨nl, nd3⟩ := List.nodup_cons.mp m3
      have n1 : l ∉ g2 := fun z => nl (List.mem_append_left _ z)
      have n2 : l ∉ f2 := fun z => nl (List.mem_append_right _ z)
      refine ⟨l, us, u, rfl, rfl, hl, k1, ?_⟩
      obtain ⟨F', st, ow⟩ := m5 (upd H1 l (.lst us.dropLast)) (l :: g2) f2 (fun a o h _ hn => yf9 h hn)
        (fun a h => zu4 h)
        (.lst zf3 (k3.updL hl rfl n1)) (by rw [List.cons_append, List.nodup_cons]; exact ⟨nl, nd3⟩) (fun a ha => .inl ha)
      exact q u _ F' f2 st ow (k2.updL hl rfl n2)
noncomputable def yk1 : D -> D -> D -> Option (Unit × D)
  | .int i, y, .lst true xs => (ixN xs.length i).bind fun n => some ((), .lst true (xs.set n y))
  | _, _, _ => none
noncomputable def zv6 (j : Nat) (pf : PSt -> Option (List Ps1)) (fi fe : PSt -> Option D) : PSt -> Option (Fl × PSt) := fun ps => (fe ps).bind fun y => ((ps[j]?).join).bind fun d0 => (pf ps).bind fun p => (fi ps).bind fun i => (zc9 (yk1 i y) d0 p).bind fun r => some (.nx, ps.set j (some r.2))
theorem xg4 {i y d d' : D} {r : Unit} (h : yk1 i y d = some (r, d')) : ∃ k xs n, i = .int k /\ d = .lst true xs /\ ixN xs.length k = some n /\ d' = .lst true (xs.set n y) := by
  unfold yk1 at h
  split at h
  . obtain ⟨n, h1, h2⟩ := bind_some h
    cases h2
    exact ⟨_, _, n, rfl, rfl, h1, rfl⟩
  . cases h
theorem yg0 {i : Expr} (hb : φ.bor j = false) (he : PE X e (tP X.K κ fe)) (ho : PE X o (zk1 X.K κ j pf)) (hi : PE X i (tV X.K κ fi)) (hs : swapsWithSole [.Subscript o i apos] e pos.line X.env = pure false := by rfl) (hw : swappedStores [.Subscript o i apos] e X.env = pure none := by rfl)
    (h1 : (assignEach [.Subscript o i apos] X.env).map (·.2) = [assign (.Subscript o i apos) X.env] := by rfl)
    (ha : ∀ v, assign (.Subscript o i apos) X.env v = (do
      let ov <- holding [v] (eval o X.env)
      let iv <- holding [v, ov] (eval i X.env)
      standAt apos
      holding [v, ov, iv] (setItem ov iv v)
      release [v, ov, iv] []) := by intro _; rfl) : QS X κ φ (.Assign [.Subscript o i apos] e pos) (zv6 j pf fi fe) :=
  (wf2 he (wf1 ho hi xu5 ha) hs hw h1).imp fun E σ H hh_ => by
    obtain ⟨ps, F, fl, ps', R, e, q⟩ := hh_
    obtain ⟨y, e1, e2⟩ := bind_some e
    obtain ⟨d0, e3, e4⟩ := bind_some e2
    have e0 := join_some e3
    obtain ⟨p, e5, e6⟩ := bind_some e4
    obtain ⟨iv, e7, e8⟩ := bind_some e6
    obtain ⟨⟨r, d0'⟩, em, e9⟩ := bind_some e8
    cases e9
    obtain ⟨dd, dn, gp, hh⟩ := zu3 em
    refine ⟨ps, y, R.ws, e1, fun v H1 fy s1 n1 nd1 ry => ⟨ps, p, d0, dd, R.ws.same s1, e0, e5, gp, fun lv H2 v0 s2 ev a2 => ⟨ps, iv, (R.ws.same s1).same s2, e7, fun u H3 fu s3 r3 => ?_⟩⟩⟩
    have s13 := (s1.trans s2).trans s3
    obtain ⟨d1, d1', fd, m1, m2, m3, m4, m5⟩ := ye4 R s13 hb e0 ev em (a2.same s3)
    obtain ⟨k, xs, n, rfl, rfl, hn, rfl⟩ := xg4 m2
    obtain ⟨l, us, g1, rfl, hl, hr, rfl⟩ := m1.lstT_inv
    have ln := hr.length
    have ry3 := (ry.same s2).same s3
    obtain ⟨nl, nd3⟩ := List.nodup_cons.mp m3
    have own0 : ∀ a ∈ l :: g1, H a ≠ none := fun a ha z => by obtain ⟨o, h, _⟩ := R.own (m4 a ha); rw [z] at h; cases h
    have nl2 : l ∉ fy := fun z => own0 l List.mem_cons_self (n1 l z)
    obtain ⟨f1, zb9, g2, k1, k2, k3⟩ := hr.setV (n := n) (yk8 hn).2.1 ry3
    have mem2 : ∀ a ∈ g2, a ∈ fy \/ a ∈ g1 := fun a ha => (List.mem_append.mp (k3.mem_iff.mp ha)).elim .inl fun z => .inr (k1.mem_iff.mpr (List.mem_append_right _ z))
    have n2 : l ∉ g2 := fun z => (mem2 l z).elim nl2 nl
    refine ⟨l, us, k, n, rfl, r3.is_int, hl, by rw [ln]; exact hn, ?_⟩
    obtain ⟨F', st, ow⟩ := m5 (upd H3 l (.lst (us.set n v))) (l :: g2) [] (fun a o h _ hn => yf9 h hn)
      (fun a h => zu4 h)
      (.lst zf3 (k2.updL hl rfl n2))
      (by
        rw [List.append_nil, List.nodup_cons]
        refine ⟨n2, k3.nodup_iff.mpr (List.nodup_append.mpr ⟨nd1, ?_, fun a ha b hb e => ?_⟩)⟩
        . exact (List.nodup_append.mp (k1.nodup_iff.mp nd3)).2.1
        . subst e
          exact own0 a (List.mem_cons_of_mem _ (k1.mem_iff.mpr (List.mem_append_right _ hb))) (n1 a ha))
      (fun a ha => by
        rw [List.append_nil] at ha
        rcases List.mem_cons.mp ha with z | z
        . exact .inl (by rw [z]; exact List.mem_cons_self)
        . exact (mem2 a z).elim (fun z => .inr (n1 a z)) fun z => .inl (List.mem_cons_of_mem _ z))
    exact q _ _ F' st
end
end L2
namespace L2
open PySem PySem.Spec PyProof.Rows
section
variable {φ : Fx} {H H1 : Hp} {σ σ1 : St} {ps ps1 : PSt} {F F1 : Nat -> List Addr}
theorem Stp.set' {fv : List Addr} {i : Nat} {v : V} {d : D} (s1 : Stp φ σ H F σ1 H1 ps1 F1) (o : OwnV F H F1 fv) (R : RS φ H σ ps F) (r : Rep φ.K φ.κ H1 v d fv) (hb : φ.bor i = false \/ fv = []) (hm : φ.M i = false) :
    ∃ F', Stp φ σ H F (σ1.set i (some v)) H1 (ps1.set i (some d)) F' /\ ∀ k a, a ∈ F' k -> a ∈ fv \/ a ∈ F1 k := by
  refine ⟨_, ⟨s1.fr, fun j a h => ?_, s1.rs.set r hb (fun j _ => o.dis j) o.nd fun a ha => R.notB (o.nw a ha), fun j h => ?_⟩, fun k a h => ?_⟩
  . rcases zq1 h with z | z
    . by_cases k : i < ps1.length
      . rw [if_pos k] at z; exact o.nw a z
      . rw [if_neg k] at z; exact absurd z (by simp)
    . exact s1.nw j a z
  . rw [List.getElem?_set_ne (fun z => by subst z; rw [hm] at h; cases h)]
    exact s1.msk j h
  . rcases zq1 h with z | z
    . by_cases k : i < ps1.length
      . rw [if_pos k] at z; exact .inl z
      . rw [if_neg k] at z; exact absurd z (by simp)
    . exact .inr z
noncomputable def setN : St -> List Nat -> List V -> St
  | σ, i :: is, v :: vs => setN (σ.set i (some v)) is vs
  | σ, _, _ => σ
noncomputable def xf6 : PSt -> List Nat -> List D -> PSt
  | ps, i :: is, d :: ds => xf6 (ps.set i (some d)) is ds
  | ps, _, _ => ps
noncomputable def zy1 : List Nat -> TGs
  | [] => xx5
  | i :: is => xn1 (zz4 i) (zy1 is)
theorem yy7 {Q : St -> Hp -> Prop} : ∀ {is : List Nat} {vs : List V} {σ : St}, vs.length = is.length -> Q (setN σ is vs) H -> zy1 is vs σ H Q
  | [], [], σ, _, q => ⟨rfl, q⟩
  | i :: is, v :: vs, σ, h, q => ⟨v, vs, rfl, yy7 (is := is) (by simpa using h) q⟩
  | [], _ :: _, _, h, _ => by simp at h
  | _ :: _, [], _, h, _ => by simp at h
theorem Stp.setN (R : RS φ H σ ps F) : ∀ {is : List Nat} {vs : List V} {ds : List D} {g : List Addr} {σ1 : St} {ps1 : PSt} {F1 : Nat -> List Addr}, Stp φ σ H F σ1 H1 ps1 F1 -> OwnV F H F1 g -> Reps φ.K φ.κ H1 vs ds g -> (∀ i ∈ is, φ.bor i = false /\ φ.M i = false) ->
    ∃ F', Stp φ σ H F (L2.setN σ1 is vs) H1 (xf6 ps1 is ds) F' := by
  intro is
  induction is with
  | nil => intro vs ds g σ1 ps1 F1 s _ _ _; exact ⟨F1, by simpa [L2.setN, xf6] using s⟩
  | cons i is ih =>
    intro vs ds g σ1 ps1 F1 s o r hi
    cases ds with
    | nil => cases r; exact ⟨F1, by simpa [L2.setN, xf6] using s⟩
    | cons d ds =>
      obtain ⟨v, us, f, g', rfl, h, hs, rfl⟩ := r.split
      obtain ⟨nd1, nd2, nd3⟩ := List.nodup_append.mp o.nd
      obtain ⟨F2, s2, hF⟩ := s.set' (i := i) (fv := f) ⟨fun a ha => o.nw a (List.mem_append_left _ ha), nd1, fun k a ha hf => o.dis k a ha (List.mem_append_left _ hf)⟩ R h (.inl (hi i List.mem_cons_self).1) (hi i List.mem_cons_self).2
      refine ih s2 ⟨fun a ha => o.nw a (List.mem_append_right _ ha), nd2, fun k a ha hg => ?_⟩ hs fun k hk => hi k (List.mem_cons_of_mem _ hk)
      rcases hF k a ha with z | z
      . exact nd3 a z a hg rfl
      . exact o.dis k a z (List.mem_append_right _ hg)
end
section
variable {X : Cx} {κ : Str -> Addr} {φ : F0} {es : List Expr} {pos p : Pos} {k : Nat} {is : List Nat} {e : Expr} {f : PSt -> Option (D × PSt)}
theorem wh3 {t : TGs} {n : Nat} (hc : X.calm = true) (h : PGs X es t)
    (hn : (assignEach es X.env).length = n := by rfl) (hst : (assignEach es X.env).findIdx? (·.1) = none := by rfl) : PG X (.Tuple es k pos) (fun v σ H Q => xn6 X.K n t v σ H Q \/ xn2 X.K n t v σ H Q) := by
  intro pins s σ H v u Q I r hw
  rcases hw with hw | hw
  . exact wg9 hc h hn hst pins s σ H v u Q I r hw
  . exact wf0 hc h hn hst pins s σ H v u Q I r hw
end
noncomputable def D.key : D -> Option Key
  | .int i => some (.inl i)
  | .str x => some (.inr x)
  | _ => none
end L2
namespace L2
open PySem PySem.Spec PyProof.Rows
noncomputable def fxE (K : PySem.W.Frag) (κ : Str -> Addr) (np : Nat) (m : Nat -> Bool) : Fx := ⟨K, κ, fun i => decide (i < np) && !m i, m, fun _ _ => False⟩
noncomputable def f0E (np : Nat) (m : Nat -> Bool) : F0 := ⟨fun i => decide (i < np) && !m i, m, fun _ _ => False⟩
noncomputable def SpE (np : Nat) (K : PySem.W.Frag) (κ : Str -> Addr) (m : Nat -> Bool) (g : List D -> Option (D × List D)) : Sp := fun vs H Q _ => vs.length = np /\ ∃ ds r ds' F, ds.length = np /\ RS (fxE K κ np m) H (vs.map some) (ds.map some) F /\ g ds = some (r, ds') /\
  ∀ v H' F' fv, Stp (fxE K κ np m) (vs.map some) H F (vs.map some) H' (ds'.map some) F' -> OwnV F H F' fv -> Rep K κ H' v r fv -> Q v H'
noncomputable def zm3 (m : Nat -> Bool) (ps : PSt) : Nat -> List D -> Option (List D)
  | _, [] => some []
  | i, d :: ds => (if m i = true then (ps[i]?).join else some d).bind fun d' => (zm3 m ps (i + 1) ds).bind fun ds' => some (d' :: ds')
theorem yy8 {m : Nat -> Bool} {ps : PSt} : ∀ {ds ds' : List D} {i : Nat}, zm3 m ps i ds = some ds' -> ds'.length = ds.length /\ ∀ (k : Nat) (d' : D), ds'[k]? = some d' -> (m (i + k) = true -> ps[i + k]? = some (some d')) /\ (m (i + k) = false -> ds[k]? = some d')
  | [], _, _, e => by cases e; exact ⟨rfl, fun k d' h => by simp at h⟩
  | d :: ds, _, i, e => by
    obtain ⟨d1, e1, e2⟩ := bind_some e
    obtain ⟨ds1, e3, e4⟩ := bind_some e2
    cases e4
    obtain ⟨l, h⟩ := yy8 e3
    refine ⟨by simp [l], fun k d' hk => ?_⟩
    cases k with
    | zero =>
      simp at hk; subst hk
      refine ⟨fun z => ?_, fun z => ?_⟩
      . rw [Nat.add_zero] at z |-; rw [if_pos z] at e1; exact join_some e1
      . rw [Nat.add_zero] at z; rw [if_neg (by rw [z]; simp)] at e1; simpa using e1
    | succ k =>
      obtain ⟨h1, h2⟩ := h k d' (by simpa using hk)
      have ea : i + (k + 1) = i + 1 + k := by omega
      rw [ea]
      exact ⟨h1, fun z => by simpa using h2 z⟩
noncomputable def gE (np n : Nat) (m : Nat -> Bool) (f : PSt -> Option (Fl × PSt)) : List D -> Option (D × List D) := fun ds => if ds.length = np then (f (ds.map some ++ List.replicate n none)).bind fun r => match r with
  | (.ret d, ps) => (zm3 m ps 0 ds).bind fun ds' => some (d, ds')
  | (.nx, ps) => (zm3 m ps 0 ds).bind fun ds' => some (.non, ds')
  | _ => none
  else none
theorem RS.more {φ : Fx} {H : Hp} {σ σ2 : St} {ps : PSt} {F : Nat -> List Addr} {n : Nat} (R : RS φ H σ ps F) (hl : ps.length = σ.length) (h2 : n <= σ2.length) : RS φ H (σ ++ σ2) (ps ++ List.replicate n none) F := by
  refine ⟨fun i d h => ?_, fun i a h => ?_, R.dis, R.nd, R.nb, R.bt, by simp [hl]; omega⟩
  . by_cases hi : i < ps.length
    . rw [List.getElem?_append_left hi] at h
      rw [List.getElem?_append_left (by omega)]
      exact R.rep i d h
    . rw [List.getElem?_append_right (by omega), List.getElem?_replicate] at h
      split at h <;> cases h
  . obtain ⟨b, d, e⟩ := R.emp i a h
    have hi := (List.getElem?_eq_some_iff.mp e).1
    exact ⟨b, d, by rw [List.getElem?_append_left hi]; exact e⟩
theorem xd2 {K : PySem.W.Frag} {κ : Str -> Addr} {np n : Nat} {m : Nat -> Bool} {H H' : Hp} {vs : List V} {σ2 σ' : St} {ds ds' : List D} {ps' : PSt} {F F' : Nat -> List Addr} {fv : List Addr} (hm : ∀ i, m i = true -> i < np) (hl : vs.length = np) (hd : ds.length = np) (R : RS (fxE K κ np m) H (vs.map some) (ds.map some) F)
    (s : Stp (fxE K κ np m) (vs.map some ++ σ2) H F σ' H' ps' F') (o : OwnV F H F' fv) (e : zm3 m ps' 0 ds = some ds') :
    ∃ F2, Stp (fxE K κ np m) (vs.map some) H F (vs.map some) H' (ds'.map some) F2 /\ OwnV F H F2 fv := by
  obtain ⟨l, ho⟩ := yy8 e
  have sub : ∀ i a, a ∈ (if m i = true then F' i else []) -> m i = true /\ a ∈ F' i := fun i a h => by
    by_cases z : m i = true
    . rw [if_pos z] at h; exact ⟨z, h⟩
    . rw [if_neg z] at h; exact absurd h (by simp)
  have tfk : ∀ a u, H a = some u -> tf u = true -> H' a = some u := fun a u h t => s.fr.keep a u h (zu2 t) fun i hi => by
    obtain ⟨u', h', _, t'⟩ := R.own hi
    rw [h] at h'; cases h'; rw [t] at t'; cases t'
  have mb : ∀ i, m i = true -> (fxE K κ np m).bor i = false := fun i h => by simp [fxE, h]
  refine ⟨fun i => if m i = true then F' i else [], ⟨s.fr, fun i a h => s.nw i a (sub i a h).2, ⟨fun i d h => ?_, fun i a h => ?_, fun i j a h1 h2 => s.rs.dis i j a (sub i a h1).2 (sub j a h2).2, fun i => ?_, fun i a h => s.rs.nb i a (sub i a h).2, fun _ a h => h.elim, by simp [l, hl, hd]⟩, fun _ _ => rfl⟩, ⟨o.nw, o.nd, fun i a h => o.dis i a (sub i a h).2⟩⟩
  . rw [List.getElem?_map] at h
    cases q : ds'[i]? with
    | none => rw [q] at h; cases h
    | some d1 =>
      rw [q] at h; cases h
      obtain ⟨h1, h2⟩ := ho i d q
      rw [Nat.zero_add] at h1 h2
      by_cases z : m i = true
      . obtain ⟨v, fp, k1, k2, k3, _⟩ := s.rs.rep i d (h1 z)
        refine ⟨v, fp, ?_, k2, fun _ => by rw [if_pos z]; exact k3 (mb i z), fun w => by rw [mb i z] at w; cases w⟩
        rw [<- k1]
        have := s.msk i z
        rw [this, List.getElem?_append_left (by simp [hl]; exact hm i z)]
      . have zf : m i = false := by simpa using z
        have hi : (ds.map some)[i]? = some (some d) := by rw [List.getElem?_map, h2 zf]; rfl
        have hib : (fxE K κ np m).bor i = true := by
          have := (List.getElem?_eq_some_iff.mp (h2 zf)).1
          simp [fxE, zf]; omega
        obtain ⟨v, fp, k1, k2, _, k4⟩ := R.rep i d hi
        have efp : fp = [] := by
          cases fp with
          | nil => rfl
          | cons a r => exact (k4 hib a List.mem_cons_self).elim
        subst efp
        exact ⟨v, [], k1, k2.move tfk (fun a ha => absurd ha (by simp)), (fun w => by rw [hib] at w; cases w), (fun _ a ha => absurd ha (by simp))⟩
  . obtain ⟨z, h⟩ := sub i a h
    refine ⟨mb i z, ?_⟩
    have hi : i < ds'.length := by rw [l, hd]; exact hm i z
    exact ⟨ds'[i], by rw [List.getElem?_map, List.getElem?_eq_getElem hi]; rfl⟩
  . by_cases z : m i = true
    . rw [if_pos z]; exact s.rs.nd i
    . rw [if_neg z]; exact List.nodup_nil
section
variable {P : Program} {w : World} {K : PySem.W.Frag} {mg : Str -> Option Value} {base : Heap} {κ : Str -> Addr}
theorem yc0 {x qual : Str} {st : Stmt} {f : Addr} {fd : FuncData} {N ps : List Str} {k : Nat} {fb : PSt -> Option (Fl × PSt)} {m : Nat -> Bool} (F : Fun K x qual st f fd) (S : FnScope N ps (za8 st)) (hm : ∀ i, m i = true -> i < ps.length)
    (hbody : ∀ (cdv : Value) (A : Around) (outer : List Env) (s : Shared) (H : Hp) (E : XK), Room k (A.deeper (envOfC qual (za8 st) s.heap.objs.size f cdv)) ->
      QSs (yd4 CX0 P w K mg base N qual (za8 st) f cdv A outer s H E).nox κ (f0E ps.length m) (ze1 st) fb) :
    FnOk P w K mg base CX0 (k + 1) f fd ps (SpE ps.length K κ m (gE ps.length (N.length - ps.length) m fb)) := by
  refine F.ok S (fun vs H Q E h => h.1) fun cdv A outer s H vs Q E hr ⟨hl, ds, r, ds', F0, hd, R, e, q⟩ => ⟨_, hbody cdv A outer s H E hr, ?_⟩
  have hn : ps.length <= N.length := by have := congrArg List.length S.pre; rw [List.length_take] at this; omega
  unfold gE at e
  obtain ⟨_, e0⟩ := zd8 e
  obtain ⟨⟨fl, ps'⟩, e1, e2⟩ := bind_some e0
  have R0 := R.more (σ2 := List.replicate (N.length - vs.length) none) (n := N.length - ps.length) (by simp [hl, hd]) (by simp [hl])
  refine ⟨_, F0, fl, ps', R0, e1, ?_⟩
  cases fl with
  | ret d' =>
    obtain ⟨ds1, e3, e4⟩ := bind_some e2
    cases e4
    exact fun v σ' H' F' fv s o rv => by
      obtain ⟨F2, s2, o2⟩ := xd2 (n := 0) hm hl hd R s o e3
      exact q v H' F2 fv s2 o2 rv
  | nx =>
    obtain ⟨ds1, e3, e4⟩ := bind_some e2
    cases e4
    exact fun σ' H' F' s => by
      obtain ⟨F2, s2, o2⟩ := xd2 (n := 0) (fv := []) hm hl hd R s ⟨fun _ h => absurd h (by simp), List.nodup_nil, fun _ _ _ h => absurd h (by simp)⟩ e3
      exact q .non H' F2 [] s2 o2 .non
  | bk => cases e2
  | ct => cases e2
end
inductive Arg where
  | io (j : Nat) | im (f : PSt -> Option D)
noncomputable def zb6 : List Arg -> PSt -> Option (List D)
  | [], _ => some []
  | .io j :: as, ps => ((ps[j]?).join).bind fun d => (zb6 as ps).bind fun ds => some (d :: ds)
  | .im f :: as, ps => (za9 f ps).bind fun d => (zb6 as ps).bind fun ds => some (d :: ds)
noncomputable def xf7 : List Arg -> Nat -> Bool
  | .io _ :: _, 0 => true
  | _ :: as, i + 1 => xf7 as i
  | _, _ => false
noncomputable def slots : List Arg -> List Nat
  | [] => []
  | .io j :: as => j :: slots as
  | .im _ :: as => slots as
inductive ArgsAt (K : PySem.W.Frag) (κ : Str -> Addr) (H : Hp) (σ : St) (ps : PSt) : List Arg -> List V -> List D -> Prop
  | nil : ArgsAt K κ H σ ps [] [] []
  | io {j : Nat} {as : List Arg} {v : V} {vs : List V} {d : D} {ds : List D} : σ[j]? = some (some v) -> ps[j]? = some (some d) -> ArgsAt K κ H σ ps as vs ds -> ArgsAt K κ H σ ps (.io j :: as) (v :: vs) (d :: ds)
  | im {f : PSt -> Option D} {as : List Arg} {v : V} {vs : List V} {d : D} {ds : List D} : Rep K κ H v d [] -> ArgsAt K κ H σ ps as vs ds -> ArgsAt K κ H σ ps (.im f :: as) (v :: vs) (d :: ds)
theorem ArgsAt.same {K : PySem.W.Frag} {κ : Str -> Addr} {H H' : Hp} {σ : St} {ps : PSt} (s : SameK H H') : ∀ {as : List Arg} {vs : List V} {ds : List D}, ArgsAt K κ H σ ps as vs ds -> ArgsAt K κ H' σ ps as vs ds
  | _, _, _, .nil => .nil
  | _, _, _, .io h1 h2 h => .io h1 h2 (ArgsAt.same s h)
  | _, _, _, .im r h => .im (r.same s) (ArgsAt.same s h)
theorem ArgsAt.len {K : PySem.W.Frag} {κ : Str -> Addr} {H : Hp} {σ : St} {ps : PSt} : ∀ {as : List Arg} {vs : List V} {ds : List D}, ArgsAt K κ H σ ps as vs ds -> vs.length = as.length /\ ds.length = as.length
  | _, _, _, .nil => ⟨rfl, rfl⟩
  | _, _, _, .io _ _ h => by have := h.len; simp [this]
  | _, _, _, .im _ h => by have := h.len; simp [this]
theorem ArgsAt.get {K : PySem.W.Frag} {κ : Str -> Addr} {H : Hp} {σ : St} {ps : PSt} : ∀ {as : List Arg} {vs : List V} {ds : List D} {i : Nat} {d : D}, ArgsAt K κ H σ ps as vs ds -> ds[i]? = some d -> ∃ v, vs[i]? = some v /\ ((∃ j, as[i]? = some (.io j) /\ xf7 as i = true /\ σ[j]? = some (some v) /\ ps[j]? = some (some d)) \/ (xf7 as i = false /\ Rep K κ H v d []))
  | _, _, _, _, _, .nil, e => by simp at e
  | _, _, _, 0, _, .io h1 h2 _, e => by simp at e; subst e; exact ⟨_, rfl, .inl ⟨_, rfl, rfl, h1, h2⟩⟩
  | _, _, _, 0, _, .im r _, e => by simp at e; subst e; exact ⟨_, rfl, .inr ⟨rfl, r⟩⟩
  | _, _, _, i + 1, _, .io _ _ h, e => by
    obtain ⟨v, h1, h2⟩ := ArgsAt.get (i := i) h (by simpa using e)
    exact ⟨v, by simpa using h1, by simpa [xf7] using h2⟩
  | _, _, _, i + 1, _, .im _ h, e => by
    obtain ⟨v, h1, h2⟩ := ArgsAt.get (i := i) h (by simpa using e)
    exact ⟨v, by simpa using h1, by simpa [xf7] using h2⟩
noncomputable def tIO (K : PySem.W.Frag) (κ : Str -> Addr) (as : List Arg) : TA := fun σ H Q => ∃ ps ds, WS K κ H σ ps /\ zb6 as ps = some ds /\ ∀ vs H', SameK H H' -> ArgsAt K κ H' σ ps as vs ds -> Q vs H'
section
variable {X : Cx} {φ : F0} {κ : Str -> Addr} {e : Expr} {es : List Expr} {as : List Arg} {f : PSt -> Option D} {pos p : Pos}
theorem zp7 : PA X [] (tIO X.K κ []) := zr8.imp fun σ H Q ⟨ps, ds, w, e, q⟩ => by cases e; exact q [] H (.refl H) .nil
theorem zk3 (ha : QV X κ e f) (hr : PA X es (tIO X.K κ as)) (hs : starEach (e :: es) X.env = (false, eval e X.env) :: starEach es X.env := by rfl) : PA X (e :: es) (tIO X.K κ (.im f :: as)) :=
  (zk4 ha.p hr hs).imp fun σ H Q hh_ => by
    obtain ⟨ps, ds, w, e, q⟩ := hh_
    obtain ⟨d, e1, e2⟩ := bind_some e
    obtain ⟨ds', e3, e4⟩ := bind_some e2
    cases e4
    refine ⟨ps, d, w, e1, fun v H1 fv s1 n1 nd1 r1 => ⟨ps, ds', w.same s1, e3, fun vs H2 s2 a2 => q (v :: vs) H2 (s1.trans s2) (.im ?_ a2)⟩⟩
    unfold za9 at e1
    obtain ⟨d1, k1, k2⟩ := bind_some e1
    obtain ⟨k3, k4⟩ := zd8 k2
    cases k4
    have := r1.imm k3
    subst this
    exact r1.same s2
end
end L2
namespace L2
open PySem PySem.Spec PyProof.Rows
inductive AreD : List Expr -> List D -> Prop
  | nil : AreD [] []
  | int {i : Int} {j : Nat} {pos : Pos} {es : List Expr} {ds : List D} : AreD es ds -> AreD (.Constant (.int i) j pos :: es) (.int i :: ds)
  | str {x : Str} {j : Nat} {pos : Pos} {es : List Expr} {ds : List D} : AreD es ds -> AreD (.Constant (.str x) j pos :: es) (.str x :: ds)
noncomputable def zd9 (l : List Bool) : Nat -> Bool := fun i => (l[i]?).getD false
theorem zw4 {l : List Bool} {i : Nat} (h : zd9 l i = true) : i < l.length := by
  unfold zd9 at h
  cases q : l[i]? with
  | none => rw [q] at h; cases h
  | some b => exact (List.getElem?_eq_some_iff.mp q).1
section
variable {P : Program} {w : World} {K : PySem.W.Frag} {mg : Str -> Option Value} {base : Heap} {κ : Str -> Addr}
theorem FnOk.noneE {f : Addr} {fd : FuncData} {ps : List Str} {k : Nat} {m : Nat -> Bool} : FnOk P w K mg base CX0 k f fd ps (SpE ps.length K κ m fun _ => none) :=
  ⟨fun vs H Q E h => h.1, fun A outer s H args us vs Q E _ _ _ _ ⟨_, ds, r, ds', F, _, _, e, _⟩ => by cases e⟩
end
end L2
namespace L2
open PySem PySem.Spec PyProof.Rows
theorem yr0 : ∀ ys : List (Str × Tok), zc3 (ys.map fun p => V.str p.1) (ys.map fun p => Value.str p.1 p.2)
  | [] => .nil
  | y :: ys => .cons ⟨y.2, rfl⟩ (yr0 ys)
theorem yy9 {K : PySem.W.Frag} {κ : Str -> Addr} {H : Hp} : ∀ ys : List (Str × Tok), Reps K κ H (ys.map fun p => V.str p.1) (ys.map fun p => D.str p.1) []
  | [] => .nil
  | y :: ys => .cons (f := []) (g := []) (.str _) (yy9 ys)
theorem xv6 {K : PySem.W.Frag} {κ : Str -> Addr} {a : Addr} {ys : List (Str × Tok)} {od : Option Addr} {n : Nat} {sl : Array (Option Value)} (h : K.lookup a = some ⟨.type "tuple", od, .seq (ys.map fun p => Value.str p.1 p.2).toArray n, sl⟩) (hl : ys.length <= 1000) (H : Hp) :
    Rep K κ H (.ref a) (.tup (ys.map fun p => D.str p.1)) [] :=
  .tup (.inr ⟨_, _, n, h, rfl, rfl, by rw [List.size_toArray, List.length_map]; exact yk9 hl, yr0 ys⟩) (yy9 ys)
end L2
namespace L2
open PySem PySem.Spec PyProof.Rows
section
variable {X : Cx} {pins : List (Addr × Obj)} {σ : St} {H : Hp} {s : Shared} {a C dx : Addr} {fs : List (Str × V)} {f : Str} {v : V} {A : Around} {E : Value -> Shared -> Prop}
theorem wh4 {P : Program} {w : World} {h : Heap} (hok : HOk P w H h) (e : Rd H a (.ins C dx fs)) : ∃ mA, ObjM h a dx C mA /\ (∀ f, zq9 (fs.lookup f) (mA f)) := by
  obtain ⟨d, z, ne, ob, mA, n, r, q⟩ := (show zi8 P w H h a (.ins C dx fs) from e.ok hok)
  exact ⟨mA, ⟨ob, n, ne⟩, r⟩
theorem xl4 {b : Bool} {Q : Value -> Shared -> Prop} (I : Inv X pins σ H s) (e : Rd H a (.ins C dx fs)) (c : Cls X.K C) (n : ze6 X.K C f) (l : fs.lookup f = some v)
    (h : ∀ u s', Inv X pins σ H s' -> ze0 v u -> Q u s') : wpAny (model X.prog X.w) A (getAttr (.ref a) f b) Q E s := by
  obtain ⟨mA, O, r⟩ := wh4 I.hok e
  obtain ⟨u, hu, ru⟩ := zq9.some_of (v := v) (o := mA f) (by rw [<- l]; exact r f)
  exact xh2 I.kIn O (c.get f) c.hd n hu (yx6 ru) (h u _ (I.tok _) ru)
end
noncomputable def wl8 (K : PySem.W.Frag) (ta : TE) (f : Str) : TE := fun σ H Q => ta σ H fun x H1 => ∃ a C dx fs v, x = .ref a /\ Rd H1 a (.ins C dx fs) /\ Cls K C /\ ze6 K C f /\ fs.lookup f = some v /\ Q v H1
theorem wb9 {X : Cx} {e : Expr} {f : Str} {pos : Pos} {ta : TE} (he : PE X e ta) (hb : attributeBase e f X.env (eval e X.env) = eval e X.env) : PE X (.Attribute e f pos) (wl8 X.K ta f) := by
  intro pins s σ H Q I h
  refine xh3 hb (thn (he pins s σ H _ I h) fun u s1 ⟨x, H1, I1, rx, a, C, dx, fs, v, ex, ea, c, n, l, q⟩ => ?_)
  subst ex
  obtain rfl : u = Value.ref a := rx
  exact xl4 I1 ea c n l fun w' s2 I2 rw' => ⟨v, H1, I2, rw', q⟩
noncomputable def zp0 (C f : Str) : D -> Option D
  | .obj _ C' ns vs => if C' = C then (zd0 ns f).bind fun n => vs[n]? else none
  | _ => none
noncomputable def zf9 (C f : Str) (fo : PSt -> Option D) : PSt -> Option D := fun ps => (fo ps).bind (zp0 C f)
theorem Rep.obj_inv {K : PySem.W.Frag} {κ : Str -> Addr} {H : Hp} {v : V} {o : Bool} {C : Str} {ns : List Str} {ds : List D} {fp : List Addr} (r : Rep K κ H v (.obj o C ns ds) fp) : ∃ a dx fs g, v = .ref a /\ Rd H a (.ins (κ C) dx fs) /\ fs.map (·.1) = ns /\ Reps K κ H (fs.map (·.2)) ds g /\ g.Sublist fp := by
  cases r with
  | obj h e hs => exact ⟨_, _, _, _, rfl, .inl h, e, hs, List.sublist_cons_self _ _⟩
  | objF h e hs => exact ⟨_, _, _, _, rfl, .inr ⟨_, h⟩, e, hs, .refl _⟩
section
variable {X : Cx} {κ : Str -> Addr} {o e : Expr} {C fn : Str} {fo : PSt -> Option D} {pos : Pos}
theorem zj3 (hc : Cls X.K (κ C)) (hna : ze6 X.K (κ C) fn) (ho : QV X κ o fo) (hb : attributeBase o fn X.env (eval o X.env) = eval o X.env := by rfl) : QV X κ (.Attribute o fn pos) (zf9 C fn fo) :=
  (wb9 ho hb).imp fun σ H Q hh_ => by
    obtain ⟨ps, d, w, e, q⟩ := hh_
    obtain ⟨x, e1, e2⟩ := bind_some e
    refine ⟨ps, x, w, e1, fun v H1 fp s1 r1 => ?_⟩
    cases x with
    | obj ow C' ns ds =>
      have e2' : (if C' = C then (zd0 ns fn).bind fun n => ds[n]? else none) = some d := e2
      by_cases hC : C' = C
      case neg => rw [if_neg hC] at e2'; cases e2'
      rw [if_pos hC] at e2'
      subst hC
      obtain ⟨n, e4, e5⟩ := bind_some e2'
      obtain ⟨a, dx, fs, g, rfl, h, hk, hs, sub⟩ := r1.obj_inv
      subst hk
      obtain ⟨u, f1, k3, k4, _⟩ := hs.get e5
      exact ⟨a, κ C', dx, fs, u, rfl, h, hc, hna, ya5 e4 k3, q u H1 f1 s1 k4⟩
    | _ => cases e2
end
theorem xh7 : ∀ {fs : List (Str × V)} {f : Str} {n : Nat} (v : V), zd0 (fs.map (·.1)) f = some n -> (zl5 f v fs).map (·.1) = fs.map (·.1) /\ (zl5 f v fs).map (·.2) = (fs.map (·.2)).set n v
  | [], _, _, _, h => by cases h
  | (g, x) :: r, f, n, v, h => by
    rw [List.map_cons, zd0] at h
    by_cases z : g = f
    . have z' : (g, x).1 = f := z
      rw [if_pos z'] at h; cases h
      rw [zl5, if_pos z]; exact ⟨rfl, rfl⟩
    . have z' : ¬ (g, x).1 = f := z
      rw [if_neg z'] at h
      obtain ⟨m, h1, h2⟩ := Option.map_eq_some_iff.mp h
      subst h2
      obtain ⟨k1, k2⟩ := xh7 v h1
      rw [zl5, if_neg z]
      exact ⟨by rw [List.map_cons, List.map_cons, k1], by rw [List.map_cons, List.map_cons, List.set_cons_succ, k2]⟩
theorem xd3 : ∀ {fs : List (Str × V)} {f : Str} (v : V), zd0 (fs.map (·.1)) f = none -> (zl5 f v fs).map (·.1) = fs.map (·.1) ++ [f] /\ (zl5 f v fs).map (·.2) = fs.map (·.2) ++ [v]
  | [], _, _, _ => ⟨rfl, rfl⟩
  | (g, x) :: r, f, v, h => by
    rw [List.map_cons, zd0] at h
    by_cases z : g = f
    . have z' : (g, x).1 = f := z
      rw [if_pos z'] at h; cases h
    . have z' : ¬ (g, x).1 = f := z
      rw [if_neg z'] at h
      obtain ⟨k1, k2⟩ := xd3 v (Option.map_eq_none_iff.mp h)
      rw [zl5, if_neg z]
      exact ⟨by rw [List.map_cons, List.map_cons, k1]; rfl, by rw [List.map_cons, List.map_cons, k2]; rfl⟩
noncomputable def zg7 (C f : Str) (y : D) : D -> Option (Unit × D)
  | .obj true C' ns vs => if (C' = C /\ ns.length < 900) then (match zd0 ns f with
      | some n => some ((), .obj true C' ns (vs.set n y))
      | none => some ((), .obj true C' (ns ++ [f]) (vs ++ [y]))) else none
  | _ => none
theorem xd4 {C f : Str} {y d d' : D} {r : Unit} (h : zg7 C f y d = some (r, d')) : ∃ ns vs, d = .obj true C ns vs /\ ns.length < 900 /\ ((∃ n, zd0 ns f = some n /\ d' = .obj true C ns (vs.set n y)) \/ (zd0 ns f = none /\ d' = .obj true C (ns ++ [f]) (vs ++ [y]))) := by
  unfold zg7 at h
  split at h
  . rename_i C' ns vs
    by_cases hh : C' = C /\ ns.length < 900
    . rw [if_pos hh] at h
      obtain ⟨hC, hl⟩ := hh
      subst hC
      cases q : zd0 ns f with
      | some n => rw [q] at h; cases h; exact ⟨ns, vs, rfl, hl, .inl ⟨n, q, rfl⟩⟩
      | none => rw [q] at h; cases h; exact ⟨ns, vs, rfl, hl, .inr ⟨q, rfl⟩⟩
    . rw [if_neg hh] at h; cases h
  . cases h
noncomputable def zf2 (j : Nat) (pf : PSt -> Option (List Ps1)) (C f : Str) (fe : PSt -> Option D) : PSt -> Option (Fl × PSt) := fun ps => (fe ps).bind fun y => ((ps[j]?).join).bind fun d0 => (pf ps).bind fun p => (zc9 (zg7 C f y) d0 p).bind fun r => some (.nx, ps.set j (some r.2))
theorem xd5 : ∀ {ns : List Str} {f : Str} {n : Nat}, zd0 ns f = some n -> n < ns.length
  | [], _, _, h => by cases h
  | m :: ns, f, n, h => by
    rw [zd0] at h
    by_cases z : m = f
    . rw [if_pos z] at h; cases h; simp
    . rw [if_neg z] at h
      obtain ⟨k, h1, h2⟩ := Option.map_eq_some_iff.mp h
      subst h2
      have := xd5 h1
      simp; omega
section
variable {X : Cx} {κ : Str -> Addr} {φ : F0} {o e : Expr} {C fn : Str} {j : Nat} {pf : PSt -> Option (List Ps1)} {fe : PSt -> Option D} {pos pos' : Pos}
theorem zn2 (hc : Cls X.K (κ C)) (hna : ze6 X.K (κ C) fn) (hb : φ.bor j = false) (he : PE X e (tP X.K κ fe)) (ho : PE X o (zk1 X.K κ j pf)) (hs : swapsWith e (some (.Attribute o fn pos')) pos.line X.env = pure false := by rfl) :
    QS X κ φ (.Assign [.Attribute o fn pos'] e pos) (zf2 j pf C fn fe) :=
  (wg0 ho he hs).imp fun E σ H hh_ => by
    obtain ⟨ps, F, fl, ps', R, e, q⟩ := hh_
    obtain ⟨y, e1, e2⟩ := bind_some e
    obtain ⟨d0, e3, e4⟩ := bind_some e2
    have e0 := join_some e3
    obtain ⟨p, e5, e6⟩ := bind_some e4
    obtain ⟨⟨r, d0'⟩, em, e9⟩ := bind_some e6
    cases e9
    obtain ⟨dd, dn, gp, hh⟩ := zu3 em
    refine ⟨ps, y, R.ws, e1, fun v H1 fy s1 n1 nd1 ry => ⟨ps, p, d0, dd, R.ws.same s1, e0, e5, gp, fun lv H2 v0 s2 ev a2 => ?_⟩⟩
    have s12 := s1.trans s2
    obtain ⟨d1, d1', fd, m1, m2, m3, m4, m5⟩ := ye4 R s12 hb e0 ev em a2
    obtain ⟨ns, vs, rfl, hlen, hd⟩ := xd4 m2
    obtain ⟨l, dx, fs, g1, rfl, hl, hn, hr, rfl⟩ := m1.objT_inv
    subst hn
    have ry2 := ry.same s2
    obtain ⟨nl, nd3⟩ := List.nodup_cons.mp m3
    have own0 : ∀ a ∈ l :: g1, H a ≠ none := fun a ha z => by obtain ⟨o, h, _⟩ := R.own (m4 a ha); rw [z] at h; cases h
    have nl2 : l ∉ fy := fun z => own0 l List.mem_cons_self (n1 l z)
    have hl9 : fs.length < 900 := by rw [List.length_map] at hlen; exact hlen
    refine ⟨l, κ C, dx, fs, rfl, hl, hc, hna, by omega, ?_⟩
    have go : ∀ (g2 : List Addr), (∀ a ∈ g2, a ∈ fy \/ a ∈ g1) -> g2.Nodup -> Rep X.K κ (upd H2 l (.ins (κ C) dx (zl5 fn v fs))) (.ref l) d1' (l :: g2) -> ∃ F', Stp (φ.fx X.K κ) σ H F σ (upd H2 l (.ins (κ C) dx (zl5 fn v fs))) (ps.set j (some d0')) F' := fun g2 mem2 nd2 rp => by
      have n2 : l ∉ g2 := fun z => (mem2 l z).elim nl2 nl
      obtain ⟨F', st, ow⟩ := m5 (upd H2 l (.ins (κ C) dx (zl5 fn v fs))) (l :: g2) [] (fun a o h _ hn => yf9 h hn) (fun a h => zu4 h) rp
        (by rw [List.append_nil, List.nodup_cons]; exact ⟨n2, nd2⟩)
        (fun a ha => by
          rw [List.append_nil] at ha
          rcases List.mem_cons.mp ha with z | z
          . exact .inl (by rw [z]; exact List.mem_cons_self)
          . exact (mem2 a z).elim (fun z => .inr (n1 a z)) fun z => .inl (List.mem_cons_of_mem _ z))
      exact ⟨F', st⟩
    rcases hd with ⟨n, hx, rfl⟩ | ⟨hx, rfl⟩
    . obtain ⟨k1, k2⟩ := xh7 v hx
      have hn' := xd5 hx
      obtain ⟨f1, zb9, g2, p1, p2, p3⟩ := hr.setV (n := n) (by rw [<- hr.length, List.length_map]; rw [List.length_map] at hn'; exact hn') ry2
      have mem2 : ∀ a ∈ g2, a ∈ fy \/ a ∈ g1 := fun a ha => (List.mem_append.mp (p3.mem_iff.mp ha)).elim .inl fun z => .inr (p1.mem_iff.mpr (List.mem_append_right _ z))
      have n2 : l ∉ g2 := fun z => (mem2 l z).elim nl2 nl
      have nd2 : g2.Nodup := p3.nodup_iff.mpr (List.nodup_append.mpr ⟨nd1, (List.nodup_append.mp (p1.nodup_iff.mp nd3)).2.1, fun a ha b hb e => by
        subst e
        exact own0 a (List.mem_cons_of_mem _ (p1.mem_iff.mpr (List.mem_append_right _ hb))) (n1 a ha)⟩)
      obtain ⟨F', st⟩ := go g2 mem2 nd2 (.obj zf3 k1 (by rw [k2]; exact p2.updL hl rfl n2))
      exact q _ _ F' st
    . obtain ⟨k1, k2⟩ := xd3 v hx
      have mem2 : ∀ a ∈ g1 ++ fy, a ∈ fy \/ a ∈ g1 := fun a ha => (List.mem_append.mp ha).elim .inr .inl
      have n2 : l ∉ g1 ++ fy := fun z => (mem2 l z).elim nl2 nl
      have nd2 : (g1 ++ fy).Nodup := List.nodup_append.mpr ⟨nd3, nd1, fun a ha b hb e => by
        subst e
        exact own0 a (List.mem_cons_of_mem _ ha) (n1 a hb)⟩
      obtain ⟨F', st⟩ := go (g1 ++ fy) mem2 nd2 (.obj zf3 k1 (by rw [k2]; exact (Reps.append hr (Reps.one ry2)).updL hl rfl n2))
      exact q _ _ F' st
end
end L2
namespace L2
open PySem PySem.Spec PyProof.Rows
structure Mn (K : PySem.W.Frag) (κ : Str -> Addr) (C m qual : Str) (st : Stmt) (ps : List Str) (f : Addr) (fd : FuncData) : Prop where
  F : Fun K m qual st f fd
  b : zs9 K fd ps []
  c : Cls K (κ C)
  h : Meth K (κ C) m f
noncomputable def zi9 (C m : Str) (fo : PSt -> Option D) : PSt -> Option D := fun ps => (fo ps).bind fun d => match d with
  | .obj true C' ns vs => if (C' = C /\ zd0 ns m = none) then some (.obj true C' ns vs) else none
  | _ => none
theorem xl5 {C m : Str} {fo : PSt -> Option D} {ps : PSt} {d : D} (h : zi9 C m fo ps = some d) : ∃ ns vs, d = .obj true C ns vs /\ fo ps = some d /\ zd0 ns m = none := by
  obtain ⟨x, e1, e2⟩ := bind_some h
  cases x with
  | obj o C' ns vs => cases o with
    | true =>
      have e2' : (if (C' = C /\ zd0 ns m = none) then some (D.obj true C' ns vs) else none) = some d := e2
      obtain ⟨⟨hC, hn⟩, e3⟩ := zd8 e2'
      subst hC; cases e3
      exact ⟨ns, vs, rfl, e1, hn⟩
    | false => cases e2
  | _ => cases e2
theorem yd2 : ∀ {fs : List (Str × V)} {m : Str}, zd0 (fs.map (·.1)) m = none -> fs.lookup m = none
  | [], _, _ => rfl
  | (g, x) :: r, m, h => by
    rw [List.map_cons, zd0] at h
    by_cases z : g = m
    . have z' : (g, x).1 = m := z
      rw [if_pos z'] at h; cases h
    . have z' : ¬ (g, x).1 = m := z
      rw [if_neg z'] at h
      have ih := yd2 (Option.map_eq_none_iff.mp h)
      rw [List.lookup_cons]
      have : (m == g) = false := by
        rw [beq_eq_false_iff_ne]; exact fun e => z e.symm
      rw [this]; exact ih
section
variable {X : Cx} {κ : Str -> Addr} {o e : Expr} {es : List Expr} {C m qual : Str} {st : Stmt} {ps : List Str} {f : Addr} {fd : FuncData} {k np : Nat} {h : List D -> Option D} {fo : PSt -> Option D} {g : PSt -> Option (List D)} {apos pos p : Pos} {pl : Sem Bool}
theorem yo0 (M : Mn X.K κ C m qual st ps f fd) (G : FnOk X.prog X.w X.K X.mg X.base CX0 k f fd ps (SpP 1 X.K κ h)) (hr : Room k X.A) (ho : QV X κ o fo)
    (ht : eval (.Call (.Attribute o m apos) [] [] pos) X.env = (do
      let ov <- eval o X.env
      standAt apos.atName
      let (f, first) <- holding [ov] (getMethod ov m pl)
      callWith pos f first (backTo pos (starEach [] X.env)) (backToKw pos (keywordEach [] X.env))) := by rfl) :
    QP X κ (.Call (.Attribute o m apos) [] [] pos) (za5 h (za1 (zi9 C m fo) za2)) := (xu2 ho M.c M.h G hr M.b .nil yq0 ht).imp fun σ H Q hh_ => by
  obtain ⟨ps, d, w, e, q⟩ := hh_
  obtain ⟨ds, e1, e2⟩ := bind_some e
  obtain ⟨x, k1, k2⟩ := bind_some e1
  obtain ⟨ds', k3, k4⟩ := bind_some k2
  cases k4; cases k3
  obtain ⟨ns, vs, rfl, k5, k6⟩ := xl5 k1
  refine ⟨ps, _, w, k5, fun v H1 fp s1 r1 => ?_⟩
  have r1' := r1
  obtain ⟨_, _, _, _, rfl, hl, hn, hs, rfl⟩ := r1.objT_inv
  subst hn
  exact ⟨_, _, _, rfl, hl, yd2 k6, rfl, _, _, d, Reps.one r1', e2, q.after s1⟩
end
noncomputable def zt1 : Nat -> Bool := fun i => decide (i = 0)
noncomputable def yc4 (fd : List Addr) : Nat -> List Addr := fun i => if i = 0 then fd else []
theorem zr9 {fd : List Addr} {i : Nat} {a : Addr} (h : a ∈ yc4 fd i) : i = 0 /\ a ∈ fd := by
  unfold yc4 at h
  by_cases z : i = 0
  . rw [if_pos z] at h; exact ⟨z, h⟩
  . rw [if_neg z] at h; exact absurd h (by simp)
theorem yr1 {K : PySem.W.Frag} {κ : Str -> Addr} {H : Hp} {v : V} {vs : List V} {d : D} {ds : List D} {fd : List Addr} (r : Rep K κ H v d fd) (nd : fd.Nodup) (rs : Reps K κ H vs ds []) :
    RS (fxE K κ (ds.length + 1) zt1) H ((v :: vs).map some) ((d :: ds).map some) (yc4 fd) := by
  refine ⟨fun i x hx => ?_, fun i a ha => ?_, fun i j a h1 h2 => ?_, fun i => ?_, fun i a _ k z => z.elim, fun k a z => z.elim, by simp [rs.length]⟩
  . cases i with
    | zero =>
      simp at hx; subst hx
      exact ⟨v, fd, rfl, r, fun _ => rfl, fun z => by simp [fxE, zt1] at z⟩
    | succ i =>
      rw [List.map_cons, List.getElem?_cons_succ, List.getElem?_map] at hx
      obtain ⟨y, hy, e⟩ := Option.map_eq_some_iff.mp hx
      cases e
      obtain ⟨u, f1, k1, k2, k3⟩ := rs.get hy
      have ef : f1 = [] := by
        cases f1 with
        | nil => rfl
        | cons b l => exact absurd (k3 b List.mem_cons_self) (by simp)
      subst ef
      exact ⟨u, [], by rw [List.map_cons, List.getElem?_cons_succ, List.getElem?_map, k1]; rfl, k2, (fun _ => by simp [yc4]), fun _ a ha => absurd ha (by simp)⟩
  . obtain ⟨e, h⟩ := zr9 ha
    subst e
    exact ⟨by simp [fxE, zt1], d, rfl⟩
  . rw [(zr9 h1).1, (zr9 h2).1]
  . unfold yc4; split
    . exact nd
    . exact List.nodup_nil
noncomputable def ym1 : List Arg -> Bool
  | [] => true
  | .im _ :: as => ym1 as
  | .io _ :: _ => false
theorem ArgsAt.reps {K : PySem.W.Frag} {κ : Str -> Addr} {H : Hp} {σ : St} {ps : PSt} : ∀ {as : List Arg} {vs : List V} {ds : List D}, ArgsAt K κ H σ ps as vs ds -> ym1 as = true -> Reps K κ H vs ds []
  | _, _, _, .nil, _ => .nil
  | _, _, _, .io _ _ _, h => by cases h
  | _, _, _, .im r a, h => .cons (f := []) (g := []) r (ArgsAt.reps a h)
noncomputable def zl3 (C m : Str) (g : List D -> Option (D × List D)) (ys : List D) (d : D) : Option (D × D) := match d with
  | .obj true C' ns vs => if (C' = C /\ zd0 ns m = none) then (g (.obj true C' ns vs :: ys)).bind fun r => match r.2 with
      | d' :: ds => if ds.length = ys.length then some (r.1, d') else none
      | [] => none
    else none
  | _ => none
theorem yr2 {C m : Str} {g : List D -> Option (D × List D)} {ys : List D} {d r d' : D} (h : zl3 C m g ys d = some (r, d')) : ∃ ns vs ds, d = .obj true C ns vs /\ zd0 ns m = none /\ g (d :: ys) = some (r, d' :: ds) /\ ds.length = ys.length := by
  unfold zl3 at h
  split at h
  . rename_i C' ns vs
    by_cases hc : C' = C /\ zd0 ns m = none
    . rw [if_pos hc] at h
      obtain ⟨hC, hn⟩ := hc
      subst hC
      obtain ⟨⟨r1, ds⟩, e1, e2⟩ := bind_some h
      cases ds with
      | nil => cases e2
      | cons d1 ds =>
        obtain ⟨hl, e3⟩ := zd8 e2
        cases e3
        exact ⟨ns, vs, ds, rfl, hn, e1, hl⟩
    . rw [if_neg hc] at h; cases h
  . cases h
section
variable {X : Cx} {κ : Str -> Addr} {φ : F0} {o e : Expr} {es : List Expr} {C m qual : Str} {st : Stmt} {ps : List Str} {f : Addr} {fd : FuncData} {k np j : Nat} {mk : Nat -> Bool} {g : List D -> Option (D × List D)} {pf : PSt -> Option (List Ps1)} {as : List Arg} {apos pos p : Pos} {pl : Sem Bool}
theorem xv7 {σ : St} {H H1 : Hp} {Q : VK} {ps : PSt} {F : Nat -> List Addr} {d0 d0' r : D} {pp : List Ps1} {v0 v : V} {ys : List D} {us : List V} (R : RS (φ.fx X.K κ) H σ ps F) (s1 : SameK H H1) (hb : φ.bor j = false) (e0 : ps[j]? = some (some d0)) (ev : σ[j]? = some (some v0))
    (em : zc9 (zl3 C m g ys) d0 pp = some (r, d0')) (at_ : At H1 v0 pp v) (ry : Reps X.K κ H1 us ys []) (hnp : np = ys.length + 1) (hm : mk = zt1)
    (q : ∀ v H' F' fv, Stp (φ.fx X.K κ) σ H F σ H' (ps.set j (some d0')) F' -> OwnV F H F' fv -> Rep X.K κ H' v r fv -> Q v H') : SpE np X.K κ mk g (v :: us) H1 Q E0 := by
  subst hnp hm
  obtain ⟨d1, d1', fd, m1, m2, m3, m4, m5⟩ := ye4 R s1 hb e0 ev em at_
  obtain ⟨ns, vs, ds, rfl, hn, eg, hl⟩ := yr2 m2
  refine ⟨by rw [List.length_cons, ry.length], _, r, d1' :: ds, yc4 fd, by simp, yr1 m1 m3 ry, eg, fun u H' F' fv s o rv => ?_⟩
  obtain ⟨v2, fp2, k1, k2, k3, _⟩ := s.rs.rep 0 d1' rfl
  have ek : v2 = v := by
    have : (List.map some (v :: us))[0]? = some (some v2) := k1
    simp at this; exact this.symm
  subst ek
  have k3' := k3 (by simp [fxE, zt1])
  subst k3'
  have old : ∀ a, ((∃ i, a ∈ yc4 fd i) \/ H1 a = none) -> a ∈ fd \/ H a = none := fun a h => h.elim (fun ⟨i, hi⟩ => .inl (zr9 hi).2) fun z => .inr (s1.grow a z)
  obtain ⟨F2, st2, ow2⟩ := m5 H' (F' 0) fv (fun a o h k hn => s.fr.keep a o h k fun i hi => hn (zr9 hi).2) (fun a h => s.fr.grow a h) k2
    (List.nodup_append.mpr ⟨s.rs.nd 0, o.nd, fun a ha b hb e => by subst e; exact o.dis 0 a ha hb⟩)
    (fun a ha => (List.mem_append.mp ha).elim (fun z => old a (s.nw 0 a z)) fun z => old a (o.nw a z))
  exact q u H' F2 fv st2 ow2 rv
theorem xv8 {σ : St} {H H1 : Hp} {ps : PSt} {F : Nat -> List Addr} {d0 d0' r : D} {pp : List Ps1} {v0 v : V} {ys : List D} (R : RS (φ.fx X.K κ) H σ ps F) (s1 : SameK H H1) (e0 : ps[j]? = some (some d0)) (ev : σ[j]? = some (some v0))
    (em : zc9 (zl3 C m g ys) d0 pp = some (r, d0')) (at_ : At H1 v0 pp v) : ∃ a dx fs, v = .ref a /\ H1 a = some (.ins (κ C) dx fs) /\ fs.lookup m = none := by
  obtain ⟨dd, dn, gp, hh⟩ := zu3 em
  obtain ⟨ns, vs, ds, rfl, hn, _⟩ := yr2 hh
  obtain ⟨fd, rd⟩ := yl4 R.ws s1 e0 ev gp at_
  obtain ⟨_, _, _, _, rfl, hl, hk, hs, rfl⟩ := rd.objT_inv
  subst hk; exact ⟨_, _, _, rfl, hl, yd2 hn⟩
theorem zw5 (M : Mn X.K κ C m qual st ps f fd) (G : FnOk X.prog X.w X.K X.mg X.base CX0 k f fd ps (SpE np X.K κ mk g)) (hr : Room k X.A) (hb : φ.bor j = false) (ho : PE X o (zk1 X.K κ j pf)) (ha : PA X (e :: es) (tIO X.K κ as)) (has : ym1 as = true) (hnp : np = as.length + 1) (hm : mk = zt1)
    (hst : starEach (e :: es) X.env = (false, eval e X.env) :: starEach es X.env := by rfl) (hpl : (backTo pos (starEach es X.env)).any (·.1) = false := by rfl)
    (ht : eval (.Call (.Attribute o m apos) (e :: es) [] pos) X.env = (do
      let ov <- eval o X.env
      standAt apos.atName
      let (f, first) <- holding [ov] (getMethod ov m pl)
      callWith pos f first (backTo pos (starEach (e :: es) X.env)) (backToKw pos (keywordEach [] X.env))) := by rfl) :
    QE X κ φ (.Call (.Attribute o m apos) (e :: es) [] pos) (zc0 j pf (zb6 as) (zl3 C m g)) := (wa7 ho M.c M.h G hr M.b .nil yq0 ha hst hpl ht).imp fun σ H Q hh_ => by
  obtain ⟨ps, F, d, ps', R, e, q⟩ := hh_
  obtain ⟨d0, pp, ys, d0', e0, ep, eg, em, rfl⟩ := yi8 e
  obtain ⟨dd, dn, gp, hh⟩ := zu3 em
  refine ⟨ps, pp, d0, dd, R.ws, e0, ep, gp, fun v H1 v0 s1 ev a1 => ?_⟩
  obtain ⟨a, dx, fs, rfl, hl, hn⟩ := xv8 R s1 e0 ev em a1
  refine ⟨a, dx, fs, rfl, hl, hn, ps, ys, R.ws.same s1, eg, fun us H2 s2 a2 => ?_⟩
  show SpE np X.K κ mk g (_ :: (us ++ [])) H2 Q E0
  rw [List.append_nil]
  exact xv7 R (s1.trans s2) hb e0 ev em (a1.same s2) (a2.reps has) (by rw [hnp, a2.len.2]) hm q
end
structure Kn (K : PySem.W.Frag) (mg : Str -> Option Value) (κ : Str -> Addr) (C qual : Str) (st : Stmt) (ps : List Str) (f : Addr) (fd : FuncData) : Prop where
  F : Fun K "__init__" qual st f fd
  b : zs9 K fd ps []
  M : Mk K (κ C) f
  m : mg C = some (.ref (κ C))
noncomputable def zg9 (C : Str) (ga : PSt -> Option (List D)) (g : List D -> Option (D × List D)) : PSt -> Option D := fun ps => (ga ps).bind fun ys => (g (.obj true C [] [] :: ys)).bind fun r => match r with
  | (.non, d' :: _) => some d'
  | _ => none
theorem xl6 {C : Str} {ga : PSt -> Option (List D)} {g : List D -> Option (D × List D)} {ps : PSt} {d : D} (h : zg9 C ga g ps = some d) : ∃ ys ds, ga ps = some ys /\ g (.obj true C [] [] :: ys) = some (.non, d :: ds) := by
  obtain ⟨ys, e1, e2⟩ := bind_some h
  obtain ⟨⟨r, ds⟩, e3, e4⟩ := bind_some e2
  cases r with
  | non => cases ds with
    | nil => cases e4
    | cons d1 ds => cases e4; exact ⟨ys, ds, e1, e3⟩
  | _ => cases e4
section
variable {X : Cx} {κ : Str -> Addr} {e : Expr} {es : List Expr} {C qual : Str} {st : Stmt} {ps : List Str} {f : Addr} {fd : FuncData} {k np : Nat} {mk : Nat -> Bool} {g : List D -> Option (D × List D)} {as : List Arg} {pos p : Pos}
theorem wc0 {H H1 : Hp} {Q : VK} {d : D} {ys ds : List D} {us : List V} {x dx : Addr} (s1 : SameK H H1) (hx : H1 x = none) (hdx : H1 dx = none) (hne : dx ≠ x) (ry : Reps X.K κ H1 us ys []) (hnp : np = ys.length + 1) (hm : mk = zt1) (eg : g (.obj true C [] [] :: ys) = some (.non, d :: ds)) (q : zr0 X.K κ H d Q) :
    SpE np X.K κ mk g (.ref x :: us) (upd (upd H1 dx (.own x)) x (.ins (κ C) dx [])) (fun v H2 => v = .non /\ Q (.ref x) H2) E0 := by
  subst hnp hm
  have ne : ∀ a o, H1 a = some o -> a ≠ x /\ a ≠ dx := fun a o h => ⟨fun z => (by rw [z, hx] at h; cases h), fun z => (by rw [z, hdx] at h; cases h)⟩
  have up : ∀ a o, H1 a = some o -> upd (upd H1 dx (.own x)) x (.ins (κ C) dx []) a = some o := fun a o h => by rw [zc6 (ne a o h).1, zc6 (ne a o h).2]; exact h
  have gr : ∀ a, upd (upd H1 dx (.own x)) x (.ins (κ C) dx []) a = none -> H1 a = none := fun a h => by
    by_cases z : a = x
    . rw [z]; exact hx
    . rw [zc6 z] at h
      by_cases z2 : a = dx
      . rw [z2]; exact hdx
      . rwa [zc6 z2] at h
  have s2 : SameK H1 (upd (upd H1 dx (.own x)) x (.ins (κ C) dx [])) := ⟨fun a o h _ => up a o h, gr⟩
  have r0 : Rep X.K κ (upd (upd H1 dx (.own x)) x (.ins (κ C) dx [])) (.ref x) (.obj true C [] []) [x] := .obj (fs := []) zf3 rfl .nil
  have ry2 : Reps X.K κ (upd (upd H1 dx (.own x)) x (.ins (κ C) dx [])) us ys [] := ry.move (fun a o h _ => up a o h) fun a ha => absurd ha (by simp)
  refine ⟨by rw [List.length_cons, ry.length], _, .non, d :: ds, yc4 [x], by simp, yr1 r0 (by simp) ry2, eg, fun u H' F' fv s o rv => ⟨by cases rv; rfl, ?_⟩⟩
  obtain ⟨v2, fp2, k1, k2, k3, _⟩ := s.rs.rep 0 d rfl
  have ek : v2 = .ref x := by
    have : (List.map some (V.ref x :: us))[0]? = some (some v2) := k1
    simp at this; exact this.symm
  subst ek
  have k3' := k3 (by simp [fxE, zt1])
  subst k3'
  refine q (.ref x) H' (F' 0) ⟨fun a o h hk => ?_, fun a h => s1.grow a (gr a (s.fr.grow a h))⟩ (fun a ha => ?_) (s.rs.nd 0) k2
  . have h1 := s1.keep a o h hk
    refine s.fr.keep a o (up a o h1) hk fun i hi => ?_
    have := (zr9 hi).2
    simp at this
    exact (ne a o h1).1 this
  . rcases s.nw 0 a ha with ⟨i, hi⟩ | z
    . have := (zr9 hi).2
      simp at this
      subst this
      exact s1.grow a hx
    . exact s1.grow a (gr a z)
theorem ya2 (Kd : Kn X.K X.mg κ C qual st ps f fd) (G : FnOk X.prog X.w X.K X.mg X.base CX0 k f fd ps (SpE np X.K κ mk g)) (hr : Room (k + 1) X.A) (hg : Gl X C) (ha : PA X (e :: es) (tIO X.K κ as)) (has : ym1 as = true) (hnp : np = as.length + 1) (hm : mk = zt1)
    (hdb : (C == ("__debug__" : Str)) = false := by decide) (he : starEach (e :: es) X.env = (false, eval e X.env) :: starEach es X.env := by rfl) (hpl : (backTo pos (starEach es X.env)).any (·.1) = false := by rfl) :
    QP X κ (.Call (.Name C p) (e :: es) [] pos) (zg9 C (zb6 as) g) := (wa8 Kd.M G hr hg Kd.m Kd.b .nil yq0 ha hdb he hpl).imp fun σ H Q hh_ => by
  obtain ⟨ps, d, w, e, q⟩ := hh_
  obtain ⟨ys, ds, e1, e2⟩ := xl6 e
  refine ⟨ps, ys, w, e1, fun us H1 s1 a1 x dx hx hdx hne => ?_⟩
  show SpE np X.K κ mk g (_ :: (us ++ [])) _ _ E0
  rw [List.append_nil]
  exact wc0 s1 hx hdx hne (a1.reps has) (by rw [hnp, a1.len.2]) hm e2 q
end
end L2
namespace L2
open PySem PySem.Spec PyProof.Rows
section
variable {X : Cx} {κ : Str -> Addr}
theorem xq9 : MtR X "str.startswith" (fun x xs H Q => ∃ z y, x = .str z /\ xs = [.str y] /\ Q (.bl (Txt.startswith z y)) H) := by
  intro pins s σ H x xs v us Q I rx r h
  obtain ⟨z, y, rfl, rfl, q⟩ := h
  obtain ⟨t, rfl⟩ := rx
  obtain ⟨u, rfl, t', rfl⟩ := yf3 r
  exact SC.startswith ⟨.bl _, H, I.tok _, rfl, q⟩
noncomputable def zt8 : D -> List D -> Option D
  | .str z, [.str y] => some (.bl (Txt.startswith z y))
  | _, _ => none
theorem ya7 : MtR X "str.startswith" (PMt X.K κ zt8) := by
  rintro pins s σ H x vs v us Q I rx r ⟨dx, ds, fx, fp, d, r1, rs, e, q⟩
  unfold zt8 at e
  split at e
  . cases e
    obtain ⟨w, rfl, r2⟩ := rs.one_inv
    exact xq9 pins s σ H x _ v us Q I rx r ⟨_, _, r1.is_str, by rw [r2.is_str], q.now (.bl _)⟩
  . cases e
end
theorem zm8 (n : Nat) : zd9 (true :: List.replicate n false) = zt1 := by
  funext i
  unfold zd9 zt1
  cases i with
  | zero => rfl
  | succ i =>
    rw [List.getElem?_cons_succ, List.getElem?_replicate]
    split <;> simp
noncomputable def kap : List (Str × Addr) -> Str -> Addr
  | [], _ => mainGlobals
  | (x, a) :: r, y => if x = y then a else kap r y
end L2
namespace L2
open PySem PySem.Spec PyProof.Rows
section
variable {X : Cx} {pins : List (Addr × Obj)} {σ : St} {H : Hp} {s : Shared} {a C dx : Addr} {fs : List (Str × V)}
theorem Inv.freeze (I : Inv X pins σ H s) (h : H a = some (.ins C dx fs)) : Inv X pins σ (upd H a (.frz (PySem.W.instObj C dx) (.ins C dx fs))) s := by
  have ne : ∀ b, H b = none -> b ≠ a := fun b hb z => by rw [z, h] at hb; cases hb
  have nt : ∀ b o, H b = some o -> (∀ C' dx' fs', o ≠ .ins C' dx' fs') -> b ≠ a := fun b o hb ho z => by
    rw [z, h] at hb
    cases hb
    exact ho _ _ _ rfl
  refine ⟨I.ok, I.os, I.bare, ⟨I.base.keep, I.base.slot, fun b o h1 h2 h3 => ?_, I.base.there, fun b xs h1 => ?_, fun b o u h1 => ?_, fun b ps h1 => ?_⟩, I.loc, I.cell, ?_, fun x c e => ?_, fun p hp => ?_, fun b o e => ?_, I.len⟩
  . have := I.base.free b o h1 h2 h3
    rw [zc6 (ne b this)]; exact this
  . have := I.base.tups b xs h1
    rw [zc6 (nt b _ this fun _ _ _ z => by cases z)]; exact this
  . have := I.base.frzs b o u h1
    rw [zc6 (nt b _ this fun _ _ _ z => by cases z)]; exact this
  . obtain ⟨more, this⟩ := I.base.tbls b ps h1
    exact ⟨more, by rw [zc6 (nt b _ this fun _ _ _ z => by cases z)]; exact this⟩
  . rw [zc6 (ne _ I.free)]; exact I.free
  . have := I.freeC x c e
    rw [zc6 (ne _ this)]; exact this
  . obtain ⟨p1, p2, p3⟩ := I.pin p hp
    exact ⟨p1, by rw [zc6 (ne _ p2)]; exact p2, p3⟩
  . have st : ∀ {b o}, zi8 X.prog X.w H s.heap b o -> zi8 X.prog X.w (upd H a (.frz (PySem.W.instObj C dx) (.ins C dx fs))) s.heap b o := fun x =>
      x.stay (fun _ _ _ q => q) (fun b' hb => by rw [zc6 (nt b' _ hb fun _ _ _ z => by cases z)]; exact hb) fun b' xs hb => by rw [zc6 (nt b' _ hb fun _ _ _ z => by cases z)]; exact hb
    by_cases z : b = a
    . subst z
      rw [zf3] at e
      cases e
      have x := I.hok b _ h
      obtain ⟨_, _, _, ob, _⟩ := (show zi8 X.prog X.w H s.heap b (.ins C dx fs) from x)
      exact ⟨ob, st x⟩
    . rw [zc6 z] at e
      exact st (I.hok b o e)
end
theorem PE.frz {X : Cx} {e : Expr} {t : TE} (h : PE X e t) : PE X e (fun σ H Q => t σ H fun x H' => ∃ a C dx fs, x = .ref a /\ H' a = some (.ins C dx fs) /\ Q x (upd H' a (.frz (PySem.W.instObj C dx) (.ins C dx fs)))) := by
  intro pins s σ H Q I q
  exact thn (h pins s σ H _ I q) fun v s1 ⟨x, H1, I1, rx, a, C, dx, fs, ex, ea, q1⟩ => ⟨x, _, I1.freeze ea, rx, q1⟩
noncomputable def zx0 (f : PSt -> Option D) : PSt -> Option D := fun ps => (f ps).bind fun d => match d with
  | .obj true C ns vs => if D.imms vs = true then some (.obj false C ns vs) else none
  | _ => none
theorem yi9 {X : Cx} {κ : Str -> Addr} {e : Expr} {f : PSt -> Option D} (h : QP X κ e f) : QP X κ e (zx0 f) :=
  (PE.frz h).imp fun σ H Q hh_ => by
    obtain ⟨ps, d, w, e, q⟩ := hh_
    obtain ⟨d0, e1, e2⟩ := bind_some e
    refine ⟨ps, d0, w, e1, fun v H1 fv s1 n1 nd1 r1 => ?_⟩
    cases d0 with
    | obj o C ns vs => cases o with
      | true =>
        have e2' : (if D.imms vs = true then some (D.obj false C ns vs) else none) = some d := e2
        obtain ⟨hi, e3⟩ := zd8 e2'
        cases e3
        obtain ⟨l, dx, fs, g, rfl, hl, hn, hs, rfl⟩ := r1.objT_inv
        have eg := hs.imm hi
        subst eg
        have hln := n1 l List.mem_cons_self
        have up : ∀ b o, H b = some o -> b ≠ l := fun b o hb z => by rw [z, hln] at hb; cases hb
        refine ⟨l, κ C, dx, fs, rfl, hl, q (.ref l) _ [] ⟨fun b o hb hk => ?_, fun b hb => ?_⟩ (fun _ h => absurd h (by simp)) List.nodup_nil (.objF zf3 hn (hs.move (fun b o hb ht => ?_) fun _ h => absurd h (by simp)))⟩
        . rw [zc6 (up b o hb)]; exact s1.keep b o hb hk
        . by_cases z : b = l
          . rw [z, zf3] at hb; cases hb
          . rw [zc6 z] at hb; exact s1.grow b hb
        . by_cases z : b = l
          . rw [z, hl] at hb; cases hb; cases ht
          . rw [zc6 z]; exact hb
      | false => cases e2
    | _ => cases e2
end L2
namespace L2
open PySem PySem.Spec PyProof.Rows
theorem xr0 {f : PSt -> Option D} {ps : PSt} {d : D} (e : za9 f ps = some d) : f ps = some d /\ d.imm = true := by
  unfold za9 at e
  obtain ⟨d1, k1, k2⟩ := bind_some e
  obtain ⟨k3, k4⟩ := zd8 k2
  cases k4
  exact ⟨k1, k3⟩
theorem yv4 {φ : Fx} {H H' : Hp} {σ σ' : St} {ps ps' : PSt} {F F' : Nat -> List Addr} (R : RS φ H σ ps F) (s : Stp φ σ H F σ' H' ps' F') : ∀ a u, H a = some u -> tf u = true -> H' a = some u := fun a u h t => s.fr.keep a u h (zu2 t) fun i hi => by
  obtain ⟨u', h', _, t'⟩ := R.own hi
  rw [h] at h'; cases h'; rw [t] at t'; cases t'
end L2
namespace L2
open PySem PySem.Spec PyProof.Rows
section
variable {X : Cx} {κ : Str -> Addr}
theorem xv9 : MtR X "str.ljust" (fun x xs H Q => ∃ z i, x = .str z /\ xs = [.int i] /\ PadOk i = true /\ Q (.str (Txt.ljust z i)) H) := by
  intro pins s σ H x xs v us Q I rx r h
  obtain ⟨z, i, rfl, rfl, hp, q⟩ := h
  obtain ⟨t, rfl⟩ := rx
  obtain ⟨u, rfl, t', rfl⟩ := yf3 r
  exact SC.ljust hp fun t' k => ⟨.str _, H, I.tok k, ⟨_, rfl⟩, q⟩
noncomputable def zv7 : D -> List D -> Option D
  | .str z, [.int i] => if PadOk i = true then some (.str (Txt.ljust z i)) else none
  | _, _ => none
theorem yv5 : MtR X "str.ljust" (PMt X.K κ zv7) := by
  rintro pins s σ H x vs v us Q I rx r ⟨dx, ds, fx, fp, d, r1, rs, e, q⟩
  unfold zv7 at e
  split at e
  . obtain ⟨hp, e⟩ := zd8 e
    cases e
    obtain ⟨w, rfl, r2⟩ := rs.one_inv
    exact xv9 pins s σ H x _ v us Q I rx r ⟨_, _, r1.is_str, by rw [r2.is_int], hp, q.now (.str _)⟩
  . cases e
end
noncomputable def xy0 : D -> Option (List D)
  | .tup ds => some ds
  | _ => none
theorem xr1 {d : D} {ys : List D} (h : xy0 d = some ys) : d = .tup ys := by
  unfold xy0 at h
  split at h
  . cases h; rfl
  . cases h
noncomputable def zs5 (is : List Nat) (f : PSt -> Option (Fl × PSt)) : List D -> PSt -> Option (Fl × PSt)
  | [], ps => some (.nx, ps)
  | d :: ds, ps => (xy0 d).bind fun ys => if ys.length = is.length then (f (xf6 ps is ys)).bind fun q => match q with
      | (.nx, p) => zs5 is f ds p
      | (.ct, p) => zs5 is f ds p
      | (.bk, p) => some (.nx, p)
      | (.ret d, p) => some (.ret d, p)
    else none
noncomputable def ys7 (is : List Nat) (fi : PSt -> Option (List D)) (f : PSt -> Option (Fl × PSt)) : PSt -> Option (Fl × PSt) := fun ps => (fi ps).bind fun ds => zs5 is f ds ps
section
variable {X : Cx} {pos : Pos} {body : List Stmt} {f : PSt -> Option (Fl × PSt)}
theorem xr2 {φ : Fx} {E : Ends} {σ : St} {H : Hp} {F : Nat -> List Addr} {ps ps' : PSt} {fl : Fl} {ds : List D} {J : It} {Z : List Addr} {is : List Nat} (R : RS φ H σ ps F) (hz : ∀ a ∈ Z, H a ≠ none /\ ∀ i, a ∉ F i) (W : Walk φ.K φ.κ J Z H ds) (hb : ∀ i ∈ is, φ.bor i = false /\ φ.M i = false)
    (e : zs5 is f ds ps = some (fl, ps')) (q : yh2 φ E σ H F fl ps') : xx9 (fun v σ H Q => xn6 φ.K is.length (zy1 is) v σ H Q \/ xn2 φ.K is.length (zy1 is) v σ H Q) (tS φ f) E σ J H := by
  refine ⟨fun k m σ1 H1 => k <= ds.length /\ m = ds.length - k /\ ∃ ps1 F1, Stp φ σ H F σ1 H1 ps1 F1 /\ zs5 is f (ds.drop k) ps1 = some (fl, ps'), ⟨_, Nat.zero_le _, rfl, ps, F, .refl R, by rw [List.drop_zero]; exact e⟩, ?_⟩
  rintro k m σ1 H1 ⟨hk, rfl, ps1, F1, s1, e1⟩
  have kp : yd6 Z H H1 := s1.fr.kept R fun a ha => (hz a ha).2
  by_cases hlt : k < ds.length
  . right
    have ed : ds[k]? = some ds[k] := List.getElem?_eq_getElem hlt
    obtain ⟨hgo, hy⟩ := W.go H1 kp k _ ed
    rw [List.drop_eq_getElem_cons hlt, zs5] at e1
    obtain ⟨ys, e0, e1⟩ := bind_some e1
    obtain ⟨hl, e1⟩ := zd8 e1
    obtain ⟨⟨fl2, ps2⟩, e2, e3⟩ := bind_some e1
    refine ⟨hgo, fun σ' H' => ∃ F', Stp φ σ H F σ' H' ps2 F' /\ zs5 is f (ds.drop (k + 1)) ps2 = some (fl, ps'), fun σ' H' ⟨F', s, e⟩ => ⟨ds.length - (k + 1), by omega, hlt, rfl, ps2, F', s, e⟩, fun x H' y => ?_⟩
    obtain ⟨rfl, rx⟩ := hy x H' y
    rw [xr1 e0] at rx
    obtain ⟨a, vs, rfl, h, hs⟩ := rx.tup_inv
    have ln := hs.length
    obtain ⟨F2, s2⟩ := Stp.setN s1.rs (.refl s1.rs) ⟨fun a ha => absurd ha (by simp), List.nodup_nil, fun k a ha hg => absurd hg (by simp)⟩ hs hb
    have s12 := s1.trans s2
    refine .inr ⟨a, vs, rfl, h, by omega, yy7 (by omega) ⟨_, F2, fl2, ps2, s2.rs, e2, ?_⟩⟩
    cases fl2 with
    | nx => exact fun σ' H' F' s => ⟨F', s12.trans s, e3⟩
    | ct => exact fun σ' H' F' s => ⟨F', s12.trans s, e3⟩
    | bk => cases e3; exact fun σ' H' F' s => q σ' H' F' (s12.trans s)
    | ret d => cases e3; exact fun v σ' H' F' fv s o r => q v σ' H' F' fv (s12.trans s) (o.after s12) r
  . left
    have ek : k = ds.length := by omega
    subst ek
    rw [List.drop_length, zs5] at e1
    cases e1
    exact ⟨W.stop H1 kp, q _ _ F1 s1⟩
theorem yv6 {κ : Str -> Addr} {φ : F0} (is : List Nat) (j : Nat) {es : List Expr} {k : Nat} {y : Str} {px py : Pos} (hp : PassesOwn (model X.prog X.w) X.A X.env X.xe) (hc : X.calm = true) (hg : PGs X es (zy1 is)) (hb : ∀ i ∈ is, φ.bor i = false /\ φ.M i = false) (hj : φ.bor j = true)
    (hbd : QSs X κ φ body f) (hn : (assignEach es X.env).length = is.length := by rfl) (hst : (assignEach es X.env).findIdx? (·.1) = none := by rfl) (hNj : X.N[j]? = some y := by rfl) (hv : Vis X.env.scope y := by first | exact Or.inl rfl | exact Or.inr (Or.inl rfl) | exact Or.inr (Or.inr rfl)) (hd : (y == ("__debug__" : Str)) = false := by decide)
    (hcd : (y == ("__classdict__" : Str)) = false := by decide) (hs : ∀ x, foldedSetIterable (.Name y py) X.env x = pure x := by intro _; rfl) :
    QS X κ φ (.For (.Tuple es k px) (.Name y py) body [] pos) (ys7 is (zo0 (za0 j)) f) := (xb4 hp hc (xc6 (zx6 hNj hv hd hcd)) (wh3 (n := is.length) hc hg hn hst) hbd hs).imp fun E σ H hh_ => by
  obtain ⟨ps, F, fl, ps', R, e, q⟩ := hh_
  obtain ⟨ds, e1, e2⟩ := bind_some e
  obtain ⟨d, e3, e4⟩ := bind_some e1
  obtain ⟨v, fp, h1, h2, _, h4⟩ := R.rep j d (join_some e3)
  refine ⟨v, h1, ?_⟩
  refine yv0 (R := xx9 (fun v σ H Q => xn6 X.K is.length (zy1 is) v σ H Q \/ xn2 X.K is.length (zy1 is) v σ H Q) (tS (φ.fx X.K κ) f) E σ) h2 e4 fun J Z hz W => ?_
  exact xr2 R (fun a ha => ⟨R.bt j a (h4 hj a (hz a ha)), fun k hk => R.nb k a hk j (h4 hj a (hz a ha))⟩) W hb e2 q
end
noncomputable def zr2 (φ : Fx) (U : Nat -> Prop) (g : PSt -> Option (List D × PSt)) : TA := fun σ H Q => ∃ ps F ds ps', RS φ H σ ps F /\ g ps = some (ds, ps') /\ ∀ vs H' F', Stp φ σ H F σ H' ps' F' -> Reps φ.K φ.κ H' vs ds [] -> (∀ i, U i -> F' i = F i /\ ps'[i]? = ps[i]? /\ ∀ a ∈ F i, H' a = H a) -> Q vs H'
noncomputable def zt2 : PSt -> Option (List D × PSt) := fun ps => some ([], ps)
noncomputable def zm0 (f : PSt -> Option D) (g : PSt -> Option (List D × PSt)) : PSt -> Option (List D × PSt) := fun ps => (za9 f ps).bind fun x => (g ps).bind fun r => some (x :: r.1, r.2)
noncomputable def yc5 : D -> Option (List D)
  | .lst true xs => if D.imms xs = true then some xs else none
  | _ => none
theorem yr3 {d : D} {xs : List D} (h : yc5 d = some xs) : d = .lst true xs /\ D.imms xs = true := by
  unfold yc5 at h
  split at h
  . obtain ⟨h1, h2⟩ := zd8 h
    cases h2
    exact ⟨rfl, h1⟩
  . cases h
noncomputable def zz6 (k : Nat) (g : PSt -> Option (List D × PSt)) : PSt -> Option (List D × PSt) := fun ps => ((ps[k]?).join).bind fun d => (yc5 d).bind fun xs => (xs[xs.length - 1]?).bind fun y => (g (ps.set k (some (.lst true xs.dropLast)))).bind fun r => some (y :: r.1, r.2)
noncomputable def yf1 (k : Nat) (g : PSt -> Option (List D × PSt)) : PSt -> Option (List D × PSt) := fun ps => ((ps[k]?).join).bind fun d => (yc5 d).bind fun xs => (g (ps.set k none)).bind fun r => some (.lst false xs :: r.1, r.2)
section
variable {φ : Fx} {H : Hp} {σ : St} {ps : PSt} {F : Nat -> List Addr} {k l : Nat} {xs : List D}
theorem RS.list (R : RS φ H σ ps F) (hb : φ.bor k = false) (e : ps[k]? = some (some (.lst true xs))) (hi : D.imms xs = true) : ∃ l us, σ[k]? = some (some (.ref l)) /\ H l = some (.lst us) /\ Reps φ.K φ.κ H us xs [] /\ F k = [l] := by
  obtain ⟨v, fp, h1, h2, h3, _⟩ := R.rep k _ e
  obtain ⟨l, us, g, rfl, hl, hr, rfl⟩ := h2.lstT_inv
  have := hr.imm hi
  subst this
  exact ⟨l, us, h1, hl, hr, (h3 hb).symm⟩
theorem RS.apart (R : RS φ H σ ps F) {l : Addr} (hF : F k = [l]) {i : Nat} (hi : i ≠ k) {v : V} {d : D} {fp : List Addr} (h3 : φ.bor i = false -> fp = F i) (h4 : φ.bor i = true -> ∀ a ∈ fp, φ.B i a) : l ∉ fp := fun hm => by
  have lk : l ∈ F k := by rw [hF]; exact List.mem_cons_self
  cases z : φ.bor i with
  | false => rw [h3 z] at hm; exact hi (R.dis i k l hm lk)
  | true => exact R.nb k l lk i (h4 z l hm)
theorem RS.relist (R : RS φ H σ ps F) {l : Addr} {us us' : List V} {ds : List D} (hb : φ.bor k = false) (hσ : σ[k]? = some (some (.ref l))) (hl : H l = some (.lst us)) (hF : F k = [l]) (hk : k < ps.length) (r : Reps φ.K φ.κ H us' ds []) : RS φ (upd H l (.lst us')) σ (ps.set k (some (.lst true ds))) F := by
  refine ⟨fun i d h => ?_, fun i a h => ?_, R.dis, R.nd, R.nb, fun k a h z => R.bt k a h (zu4 z), by rw [List.length_set]; exact R.len⟩
  . by_cases e : i = k
    . subst e
      rw [List.getElem?_set_self hk] at h
      cases h
      exact ⟨_, [l], hσ, .lst zf3 (r.updL hl rfl (by simp)), fun _ => hF.symm, fun z => by rw [hb] at z; cases z⟩
    . rw [List.getElem?_set_ne (fun z => e z.symm)] at h
      obtain ⟨v, fp, h1, h2, h3, h4⟩ := R.rep i d h
      exact ⟨v, fp, h1, h2.updL hl rfl (R.apart (v := v) (d := d) hF e h3 h4), h3, h4⟩
  . obtain ⟨b, d, e⟩ := R.emp i a h
    by_cases z : i = k
    . subst z; exact ⟨b, _, List.getElem?_set_self hk⟩
    . exact ⟨b, d, by rw [List.getElem?_set_ne (fun q => z q.symm)]; exact e⟩
theorem RS.give (R : RS φ H σ ps F) {l : Addr} {us : List V} {o : HO} (hl : H l = some (.lst us)) (hF : F k = [l]) : RS φ (upd H l o) σ (ps.set k none) (zu5 F k []) := by
  have sub : ∀ i a, a ∈ zu5 F k [] i -> i ≠ k /\ a ∈ F i := fun i a h => by
    by_cases z : i = k
    . subst z; rw [zh1] at h; exact absurd h (by simp)
    . rw [zg5 z] at h; exact ⟨z, h⟩
  refine ⟨fun i d h => ?_, fun i a h => ?_, fun i j a h1 h2 => R.dis i j a (sub i a h1).2 (sub j a h2).2, fun i => ?_, fun i a h => R.nb i a (sub i a h).2, fun k a h z => R.bt k a h (zu4 z), by rw [List.length_set]; exact R.len⟩
  . by_cases e : i = k
    . subst e
      by_cases hk : i < ps.length
      . rw [List.getElem?_set_self hk] at h; cases h
      . rw [List.getElem?_eq_none (by simpa using hk)] at h; cases h
    . rw [List.getElem?_set_ne (fun z => e z.symm)] at h
      obtain ⟨v, fp, h1, h2, h3, h4⟩ := R.rep i d h
      exact ⟨v, fp, h1, h2.updL hl rfl (R.apart (v := v) (d := d) hF e h3 h4), fun z => by rw [zg5 e]; exact h3 z, h4⟩
  . obtain ⟨z, h⟩ := sub i a h
    obtain ⟨b, d, e⟩ := R.emp i a h
    exact ⟨b, d, by rw [List.getElem?_set_ne (fun q => z q.symm)]; exact e⟩
  . by_cases z : i = k
    . subst z; rw [zh1]; exact List.nodup_nil
    . rw [zg5 z]; exact R.nd i
theorem xh8 {l : Addr} {o : HO} (hF : F k = [l]) : Frm F H (upd H l o) := ⟨fun a u h _ n => by
  rw [zc6]
  . exact h
  . rintro rfl; exact n k (by rw [hF]; exact List.mem_cons_self), fun a h => zu4 h⟩
theorem RS.keepS (R : RS φ H σ ps F) {H' : Hp} (s : SameK H H') {i : Nat} {a : Addr} (h : a ∈ F i) : H' a = H a := by
  obtain ⟨o, h1, h2, _⟩ := R.own h
  rw [h1]; exact s.keep a o h1 h2
end
section
variable {X : Cx} {pins : List (Addr × Obj)} {σ : St} {H : Hp} {s : Shared} {a : Addr} {xs : List V}
theorem Inv.freezeL (I : Inv X pins σ H s) (h : H a = some (.lst xs)) : ∃ ob, Inv X pins σ (upd H a (.frz ob (.lst xs))) s := by
  have ne : ∀ b, H b = none -> b ≠ a := fun b hb z => by rw [z, h] at hb; cases hb
  have nt : ∀ b o, H b = some o -> (∀ ys, o ≠ .lst ys) -> b ≠ a := fun b o hb ho z => by
    rw [z, h] at hb
    cases hb
    exact ho _ rfl
  obtain ⟨z0, its, n, r, e0⟩ := I.hok a _ h
  generalize ({ cls := .type "list", data := .seq its.toArray n } : Obj) = ob at e0
  refine ⟨ob, I.ok, I.os, I.bare, ⟨I.base.keep, I.base.slot, fun b o h1 h2 h3 => ?_, I.base.there, fun b xs h1 => ?_, fun b o u h1 => ?_, fun b ps h1 => ?_⟩, I.loc, I.cell, ?_, fun x c e => ?_, fun p hp => ?_, fun b o e => ?_, I.len⟩
  . have := I.base.free b o h1 h2 h3
    rw [zc6 (ne b this)]; exact this
  . have := I.base.tups b xs h1
    rw [zc6 (nt b _ this fun _ z => by cases z)]; exact this
  . have := I.base.frzs b o u h1
    rw [zc6 (nt b _ this fun _ z => by cases z)]; exact this
  . obtain ⟨more, this⟩ := I.base.tbls b ps h1
    exact ⟨more, by rw [zc6 (nt b _ this fun _ z => by cases z)]; exact this⟩
  . rw [zc6 (ne _ I.free)]; exact I.free
  . have := I.freeC x c e
    rw [zc6 (ne _ this)]; exact this
  . obtain ⟨p1, p2, p3⟩ := I.pin p hp
    exact ⟨p1, by rw [zc6 (ne _ p2)]; exact p2, p3⟩
  . have st : ∀ {b o}, zi8 X.prog X.w H s.heap b o -> zi8 X.prog X.w (upd H a (.frz ob (.lst xs))) s.heap b o := fun x =>
      x.stay (fun _ _ _ q => q) (fun b' hb => by rw [zc6 (nt b' _ hb fun _ z => by cases z)]; exact hb) fun b' xs hb => by rw [zc6 (nt b' _ hb fun _ z => by cases z)]; exact hb
    by_cases z : b = a
    . subst z
      rw [zf3] at e
      cases e
      exact ⟨e0, st (I.hok b _ h)⟩
    . rw [zc6 z] at e
      exact st (I.hok b o e)
end
theorem wc1 {X : Cx} {e : Expr} {t : TE} (h : PE X e t) : PE X e (fun σ H Q => t σ H fun x H' => ∃ a xs, x = .ref a /\ H' a = some (.lst xs) /\ ∀ ob, Q x (upd H' a (.frz ob (.lst xs)))) := by
  intro pins s σ H Q I q
  refine thn (h pins s σ H _ I q) fun v s1 ⟨x, H1, I1, rx, a, xs, ex, ea, q1⟩ => ?_
  obtain ⟨ob, I2⟩ := I1.freezeL ea
  exact ⟨x, _, I2, rx, q1 ob⟩
section
variable {X : Cx} {κ : Str -> Addr} {φ : F0} {U : Nat -> Prop} {e o : Expr} {es : List Expr} {f : PSt -> Option D} {g : PSt -> Option (List D × PSt)} {pos apos p1 : Pos} {j : Nat} {pf : PSt -> Option (List Ps1)}
theorem yj0 : PA X [] (zr2 (φ.fx X.K κ) U zt2) := zr8.imp fun σ H Q hh_ => by
  obtain ⟨ps, F, ds, ps', R, e, q⟩ := hh_
  cases e
  exact q [] H F (.refl R) .nil fun i _ => ⟨rfl, rfl, fun _ _ => rfl⟩
theorem ya8 (ha : QV X κ e f) (hr : PA X es (zr2 (φ.fx X.K κ) U g)) (hs : starEach (e :: es) X.env = (false, eval e X.env) :: starEach es X.env := by rfl) : PA X (e :: es) (zr2 (φ.fx X.K κ) U (zm0 f g)) :=
  (zk4 ha.p hr hs).imp fun σ H Q hh_ => by
    obtain ⟨ps, F, ds, ps', R, e, q⟩ := hh_
    obtain ⟨x, e1, e2⟩ := bind_some e
    obtain ⟨⟨ds1, p2⟩, e3, e4⟩ := bind_some e2
    cases e4
    refine ⟨ps, x, R.ws, e1, fun v H1 fv s1 n1 nd1 r1 => ⟨ps, F, ds1, p2, R.same s1, e3, fun vs H2 F2 s2 r2 u2 => ?_⟩⟩
    have := r1.imm (xr0 e1).2
    subst this
    refine q (v :: vs) H2 F2 ((Stp.same R s1).trans s2) (.cons (f := []) (g := []) (r1.move (yv4 (R.same s1) s2) (fun a ha => absurd ha (by simp))) r2) fun i hi => ?_
    obtain ⟨k1, k2, k3⟩ := u2 i hi
    exact ⟨k1, k2, fun a ha => (k3 a ha).trans (R.keepS s1 ha)⟩
theorem yr4 (k : Nat) {x : Str} {p0 : Pos} (hb : φ.bor k = false) (hU : ∀ i, U i -> i ≠ k) (hr : PA X es (zr2 (φ.fx X.K κ) U g)) (hN : X.N[k]? = some x := by rfl) (hv : Vis X.env.scope x := by first | exact Or.inl rfl | exact Or.inr (Or.inl rfl) | exact Or.inr (Or.inr rfl)) (hd : (x == ("__debug__" : Str)) = false := by decide)
    (hcd : (x == ("__classdict__" : Str)) = false := by decide) (hbase : attributeBase (.Name x p0) "pop" X.env (eval (.Name x p0) X.env) = eval (.Name x p0) X.env := by rfl) (hline : (apos.endLine == pos.line) = true := by rfl)
    (hs : starEach (.Call (.Attribute (.Name x p0) "pop" apos) [] [] pos :: es) X.env = (false, eval (.Call (.Attribute (.Name x p0) "pop" apos) [] [] pos) X.env) :: starEach es X.env := by rfl) : PA X (.Call (.Attribute (.Name x p0) "pop" apos) [] [] pos :: es) (zr2 (φ.fx X.K κ) U (zz6 k g)) :=
  (zk4 (xp5 PySem.F.plainAttrs_list PySem.F.slot_list_pop PySem.F.type_list_pop xp6 (zx6 hN hv hd hcd) hbase hline) hr hs).imp fun σ H Q hh_ => by
    obtain ⟨ps, F, ds, ps', R, e, q⟩ := hh_
    obtain ⟨d, e1, e2⟩ := bind_some e
    have e1 := join_some e1
    obtain ⟨xs, e3, e4⟩ := bind_some e2
    obtain ⟨rfl, hi⟩ := yr3 e3
    obtain ⟨y, e5, e6⟩ := bind_some e4
    obtain ⟨⟨ds1, p2⟩, e7, e8⟩ := bind_some e6
    cases e8
    obtain ⟨l, us, hσ, hl, hr, hF⟩ := R.list hb e1 hi
    obtain ⟨u, g1, f1, k1, k2, k3, k4⟩ := hr.pop e5
    obtain ⟨rfl, rfl⟩ := List.append_eq_nil_iff.mp k4.symm
    have hk := (List.getElem?_eq_some_iff.mp e1).1
    have R1 := R.relist (us' := us.dropLast) (ds := xs.dropLast) hb hσ hl hF hk k3
    have S1 : Stp (φ.fx X.K κ) σ H F σ (upd H l (.lst us.dropLast)) (ps.set k (some (.lst true xs.dropLast))) F := ⟨xh8 hF, fun i a h => .inl ⟨i, h⟩, R1, fun _ _ => rfl⟩
    refine ⟨.ref l, hσ, .inl ⟨rfl, _, .inl (.inl hl)⟩, l, us, u, rfl, rfl, hl, k1, ps.set k (some (.lst true xs.dropLast)), F, ds1, p2, R1, e7, fun vs H2 F2 s2 r2 u2 => ?_⟩
    refine q (u :: vs) H2 F2 (S1.trans s2) (.cons (f := []) (g := []) ((k2.updL hl rfl (by simp)).move (yv4 R1 s2) (fun a ha => absurd ha (by simp))) r2) fun i hi => ?_
    obtain ⟨j1, j2, j3⟩ := u2 i hi
    have ik := hU i hi
    refine ⟨j1, by rw [j2, List.getElem?_set_ne (fun z => ik z.symm)], fun a ha => ?_⟩
    rw [j3 a ha, zc6]
    rintro rfl
    exact ik (R.dis i k _ ha (by rw [hF]; exact List.mem_cons_self))
theorem yv7 (k : Nat) {x : Str} (hb : φ.bor k = false) (hM : φ.M k = false) (hU : ∀ i, U i -> i ≠ k) (hr : PA X es (zr2 (φ.fx X.K κ) U g)) (hN : X.N[k]? = some x := by rfl) (hv : Vis X.env.scope x := by first | exact Or.inl rfl | exact Or.inr (Or.inl rfl) | exact Or.inr (Or.inr rfl)) (hd : (x == ("__debug__" : Str)) = false := by decide)
    (hcd : (x == ("__classdict__" : Str)) = false := by decide) (hs : starEach (.Name x pos :: es) X.env = (false, eval (.Name x pos) X.env) :: starEach es X.env := by rfl) : PA X (.Name x pos :: es) (zr2 (φ.fx X.K κ) U (yf1 k g)) :=
  (zk4 (wc1 (zx6 hN hv hd hcd)) hr hs).imp fun σ H Q hh_ => by
    obtain ⟨ps, F, ds, ps', R, e, q⟩ := hh_
    obtain ⟨d, e1, e2⟩ := bind_some e
    have e1 := join_some e1
    obtain ⟨xs, e3, e4⟩ := bind_some e2
    obtain ⟨rfl, hi⟩ := yr3 e3
    obtain ⟨⟨ds1, p2⟩, e7, e8⟩ := bind_some e4
    cases e8
    obtain ⟨l, us, hσ, hl, hr, hF⟩ := R.list hb e1 hi
    refine ⟨.ref l, hσ, l, us, rfl, hl, fun ob => ?_⟩
    have R1 := R.give (o := .frz ob (.lst us)) hl hF
    have nw : ∀ i a, a ∈ zu5 F k [] i -> a ∈ F i := fun i a h => by
      by_cases z : i = k
      . subst z; rw [zh1] at h; exact absurd h (by simp)
      . rw [zg5 z] at h; exact h
    have S1 : Stp (φ.fx X.K κ) σ H F σ (upd H l (.frz ob (.lst us))) (ps.set k none) (zu5 F k []) := ⟨xh8 hF, fun i a h => .inl ⟨i, nw i a h⟩, R1, fun _ _ => rfl⟩
    refine ⟨ps.set k none, zu5 F k [], ds1, p2, R1, e7, fun vs H2 F2 s2 r2 u2 => ?_⟩
    refine q (.ref l :: vs) H2 F2 (S1.trans s2) (.cons (f := []) (g := []) ((Rep.lstF zf3 (hr.updL hl rfl (by simp))).move (yv4 R1 s2) (fun a ha => absurd ha (by simp))) r2) fun i hi => ?_
    obtain ⟨j1, j2, j3⟩ := u2 i hi
    have ik := hU i hi
    rw [zg5 ik] at j1 j3
    refine ⟨j1, by rw [j2, List.getElem?_set_ne (fun z => ik z.symm)], fun a ha => ?_⟩
    rw [j3 a ha, zc6]
    rintro rfl
    exact ik (R.dis i k _ ha (by rw [hF]; exact List.mem_cons_self))
noncomputable def yb5 (h : List D -> Option D) (fe : PSt -> Option (D × PSt)) : PSt -> Option (D × PSt) := fun ps => (fe ps).bind fun r => (h [r.1]).bind fun d => some (d, r.2)
theorem zz2 {x : Str} {T : String} {h : List D -> Option D} {fe : PSt -> Option (D × PSt)} {p : Pos} (c : zi0 X (.type T) (PCl X.K κ h)) (hg : Gl X x) (hm : X.mg x = none) (hv : bootBuiltins x = some (.type T)) (he : QE X κ φ e fe) (hn : x ≠ "__name__" := by decide) (hdb : (x == ("__debug__" : Str)) = false := by decide)
    (hs : starEach [e] X.env = (false, eval e X.env) :: starEach [] X.env := by rfl) (hpl : (backTo pos (starEach [] X.env)).any (·.1) = false := by rfl) : QE X κ φ (.Call (.Name x p) [e] [] pos) (yb5 h fe) :=
  (yy1 c hg hm hv (zk4 he zr8 hs) hn hdb hs hpl).imp fun σ H Q hh_ => by
    obtain ⟨ps, F, d, ps', R, e, q⟩ := hh_
    obtain ⟨⟨d1, p2⟩, e1, e2⟩ := bind_some e
    obtain ⟨d2, e3, e4⟩ := bind_some e2
    cases e4
    refine ⟨ps, F, d1, p2, R, e1, fun v H1 F1 fv s1 o1 r1 => ⟨[d1], fv, _, Reps.one r1, e3, fun w H2 fw s2 n2 nd2 r2 => ?_⟩⟩
    exact q w H2 F1 fw (s1.trans (.same s1.rs s2)) (OwnV.after s1 (OwnV.new s1.rs n2 nd2)) r2
noncomputable def ys8 (g : PSt -> Option (List D × PSt)) : PSt -> Option (D × PSt) := fun ps => (g ps).bind fun r => if r.1.length <= 1000 then some (.tup r.1, r.2) else none
theorem yv8 {x1} (h : PA X es (zr2 (φ.fx X.K κ) (fun _ => False) g)) : QE X κ φ (.Tuple es x1 pos) (ys8 g) :=
  (xb5 h).imp fun σ H Q hh_ => by
    obtain ⟨ps, F, d, ps', R, e, q⟩ := hh_
    obtain ⟨⟨ds, p2⟩, e1, e2⟩ := bind_some e
    obtain ⟨hc, e3⟩ := zd8 e2
    cases e3
    refine ⟨ps, F, ds, p2, R, e1, fun vs H2 F2 s2 r2 _ => ⟨by rw [r2.length]; exact yk9 hc, fun p hp => ?_⟩⟩
    have sn : SameK H2 (upd H2 p (.tup vs)) := .new hp _
    exact q (.ref p) _ F2 [] (s2.trans (.same s2.rs sn)) (OwnV.after s2 (OwnV.new s2.rs (fun _ h => absurd h (by simp)) List.nodup_nil)) (.tup (.inl (.inl zf3)) (r2.same sn))
theorem wc2 {K : PySem.W.Frag} {H H' : Hp} : ∀ {p : List Ps1} {v0 v : V} {d0 d : D} {fp : List Addr}, Rep K κ H v0 d0 fp -> zd6 d0 p = some d -> At H v0 p v -> (∀ a ∈ fp, H' a = H a) -> At H' v0 p v := by
  intro p
  induction p with
  | nil => intro v0 v d0 d fp R g a _; exact a
  | cons s p ih =>
    intro v0 v d0 d fp R g a hk
    cases s with
    | ix n =>
      obtain ⟨b, vs, v1, e1, e2, e3, e4⟩ := a
      subst e1
      obtain ⟨xs, d1, rfl, h1, h2⟩ := yl3 g
      obtain ⟨_, _, _, e5, hb, hs, rfl⟩ := R.lstT_inv
      cases e5
      rw [e2] at hb; cases hb
      obtain ⟨v', f, q1, q2, q3⟩ := hs.get h1
      rw [e3] at q1; cases q1
      exact ⟨b, vs, v1, rfl, (hk b List.mem_cons_self).trans e2, e3, ih q2 h2 e4 fun a ha => hk a (List.mem_cons_of_mem _ (q3 a ha))⟩
    | fld f =>
      obtain ⟨b, C, dx, fs, n, v1, e1, e2, e2', e3, e4⟩ := a
      subst e1
      obtain ⟨C', ns, xs, n', d1, rfl, h0, h1, h2⟩ := yf8 g
      obtain ⟨_, _, _, _, e5, hb, hn, hs, rfl⟩ := R.objT_inv
      cases e5
      rw [e2] at hb; cases hb
      subst hn
      rw [e2'] at h0; cases h0
      obtain ⟨v', f, q1, q2, q3⟩ := hs.get h1
      rw [e3] at q1; cases q1
      exact ⟨b, _, dx, fs, n, v1, rfl, (hk b List.mem_cons_self).trans e2, e2', e3, ih q2 h2 e4 fun a ha => hk a (List.mem_cons_of_mem _ (q3 a ha))⟩
noncomputable def ym2 (j : Nat) (pf : PSt -> Option (List Ps1)) (g : PSt -> Option (List D × PSt)) : PSt -> Option (D × PSt) := fun ps => ((ps[j]?).join).bind fun d0 => (pf ps).bind fun p => (g ps).bind fun r => if r.1.length <= 1000 then (zc9 (zc5 [.tup r.1]) d0 p).bind fun m => some (m.1, r.2.set j (some m.2)) else none
theorem yl5 {x1} (hb : φ.bor j = false) (ho : PE X o (zk1 X.K κ j pf)) (ha : PA X es (zr2 (φ.fx X.K κ) (fun i => i = j) g))
    (hbase : attributeBase o "append" X.env (eval o X.env) = eval o X.env := by rfl)
    (hfew : ((backTo pos (starEach [.Tuple es x1 p1] X.env)).all (fun x => !x.1) && (backToKw pos (keywordEach [] X.env)).all (fun x => x.1.isSome)
      && decide (([.Tuple es x1 p1] : List Expr).length + ([] : List Keyword).length + (if ([] : List Keyword).isEmpty then 0 else 1) < 30)) = true := by rfl)
    (hline : (apos.endLine == pos.line) = true := by rfl) (hs : starEach [.Tuple es x1 p1] X.env = (false, eval (.Tuple es x1 p1) X.env) :: starEach [] X.env := by rfl) (hplain : (backTo pos (starEach [] X.env)).any (·.1) = false := by rfl) :
    QE X κ φ (.Call (.Attribute o "append" apos) [.Tuple es x1 p1] [] pos) (ym2 j pf g) :=
  (xk2 PySem.F.plainAttrs_list PySem.F.slot_list_append PySem.F.type_list_append yi2 ho (zk4 (xb5 ha) zr8 hs) hbase hfew hline hs hplain).imp fun σ H Q hh_ => by
    obtain ⟨ps, F, d, ps', R, e, q⟩ := hh_
    obtain ⟨d0, e0, e⟩ := bind_some e
    have e0 := join_some e0
    obtain ⟨p, ep, e⟩ := bind_some e
    obtain ⟨⟨ds, p2⟩, eg, e⟩ := bind_some e
    obtain ⟨hc, e⟩ := zd8 e
    obtain ⟨⟨m1', m2'⟩, em, e⟩ := bind_some e
    cases e
    obtain ⟨dd, dn, gp, hh⟩ := zu3 em
    refine ⟨ps, p, d0, dd, R.ws, e0, ep, gp, fun v H1 v0 s1 ev a1 => ⟨?_, ps, F, ds, p2, R.same s1, eg, fun vs H2 F2 s2 r2 u2 => ⟨by rw [r2.length]; exact yk9 hc, fun pp hp => ?_⟩⟩⟩
    . obtain ⟨y, xs, _, rfl, _⟩ := zv1 hh
      obtain ⟨fd, rd⟩ := yl4 R.ws s1 e0 ev gp a1
      obtain ⟨_, _, _, rfl, hl, hr, rfl⟩ := rd.lstT_inv
      exact .inl ⟨rfl, _, .inl (.inl hl)⟩
    . obtain ⟨k1, k2, k3⟩ := u2 j rfl
      have sn : SameK H2 (upd H2 pp (.tup vs)) := .new hp _
      obtain ⟨v0', fp, h1, h2, h3, _⟩ := (R.same s1).rep j d0 e0
      rw [ev] at h1; cases h1
      have a2 : At H2 v0 p v := wc2 h2 gp a1 fun a ha => k3 a (h3 hb ▸ ha)
      obtain ⟨d1, d1', fd, m1, m2, m3, m4, m5⟩ := ye4 s2.rs sn hb (k2.trans e0) ev em (a2.same sn)
      obtain ⟨y, xs, ey, rfl, hz, rfl, rfl⟩ := zv1 m2
      cases ey
      obtain ⟨l, us, g1, rfl, hl, hr, rfl⟩ := m1.lstT_inv
      have ln := hr.length
      refine ⟨l, us, .ref pp, rfl, rfl, hl, by omega, ?_⟩
      obtain ⟨nl2, nd3⟩ := List.nodup_cons.mp m3
      have rt : Rep (φ.fx X.K κ).K (φ.fx X.K κ).κ (upd H2 pp (.tup vs)) (.ref pp) (.tup ds) [] := .tup (.inl (.inl zf3)) (r2.same sn)
      obtain ⟨F', st, ow⟩ := m5 (upd (upd H2 pp (.tup vs)) l (.lst (us ++ [.ref pp]))) (l :: g1) [] (fun a o h _ hn => yf9 h hn) (fun a h => zu4 h)
        (.lst zf3 (by have := Reps.append (hr.updL (o := .lst (us ++ [V.ref pp])) hl rfl nl2) (Reps.one (rt.updL (o := .lst (us ++ [V.ref pp])) hl rfl (by simp))); rwa [List.append_nil] at this))
        (by rw [List.append_nil]; exact m3) (fun a ha => .inl (by rw [List.append_nil] at ha; exact ha))
      have s02 := (Stp.same R s1).trans s2
      exact q .non _ F' [] (s02.trans st) (OwnV.after s02 ow) .non
end
end L2
namespace L3
open PySem PySem.Spec PyProof.Rows L2
@[irreducible] def PE := @L2.PE
@[irreducible] def PT := @L2.PT
@[irreducible] def PW := @L2.PW
@[irreducible] def PA := @L2.PA
@[irreducible] def PS := @L2.PS
@[irreducible] def PSs := @L2.PSs
@[irreducible] def PI := @L2.PI
@[irreducible] def PG := @L2.PG
@[irreducible] def PGs := @L2.PGs
@[irreducible] def PTs := @L2.PTs
@[irreducible] def PO := @L2.PO
@[irreducible] def OpR := @L2.OpR
@[irreducible] def zi0 := @L2.zi0
@[irreducible] def MtR := @L2.MtR
noncomputable abbrev QV (X : Cx) (κ : Str -> Addr) (e : Expr) (f : PSt -> Option D) : Prop := PE X e (tV X.K κ f)
noncomputable abbrev QP (X : Cx) (κ : Str -> Addr) (e : Expr) (f : PSt -> Option D) : Prop := PE X e (tP X.K κ f)
noncomputable abbrev QT (X : Cx) (κ : Str -> Addr) (e : Expr) (f : PSt -> Option Bool) : Prop := PT X e (tQ X.K κ f)
noncomputable abbrev QW (X : Cx) (κ : Str -> Addr) (e : Expr) (f : PSt -> Option Bool) : Prop := PW X e (tQ X.K κ f)
noncomputable abbrev QVA (X : Cx) (κ : Str -> Addr) (es : List Expr) (f : PSt -> Option (List D)) : Prop := PA X es (tVA X.K κ f)
noncomputable abbrev QPA (X : Cx) (κ : Str -> Addr) (es : List Expr) (f : PSt -> Option (List D)) : Prop := PA X es (tPA X.K κ f)
noncomputable abbrev QO (X : Cx) (κ : Str -> Addr) (e : Option Expr) (f : PSt -> Option (Option Int)) : Prop := PO X e (tO X.K κ f)
noncomputable abbrev QS (X : Cx) (κ : Str -> Addr) (φ : F0) (st : Stmt) (f : PSt -> Option (Fl × PSt)) : Prop := PS X st (tS (φ.fx X.K κ) f)
noncomputable abbrev QSs (X : Cx) (κ : Str -> Addr) (φ : F0) (st : List Stmt) (f : PSt -> Option (Fl × PSt)) : Prop := PSs X st (tS (φ.fx X.K κ) f)
noncomputable abbrev QE (X : Cx) (κ : Str -> Addr) (φ : F0) (e : Expr) (f : PSt -> Option (D × PSt)) : Prop := PE X e (tE (φ.fx X.K κ) f)
noncomputable abbrev QTE (X : Cx) (κ : Str -> Addr) (φ : F0) (e : Expr) (f : PSt -> Option (Bool × PSt)) : Prop := PT X e (tTE (φ.fx X.K κ) f)
noncomputable abbrev QIV (X : Cx) (κ : Str -> Addr) (tg iter : Expr) (f : PSt -> Option (List D)) : Prop := PI X tg iter (tIV X.K κ f)
noncomputable abbrev QIP (X : Cx) (κ : Str -> Addr) (tg iter : Expr) (f : PSt -> Option (List D)) : Prop := PI X tg iter (tIP X.K κ f)
section
variable {X : Cx} {pos : Pos}
theorem zw2 {i : Nat} {x : Str} (hN : X.N.Nodup) (hi : X.N[i]? = some x) (hx : Loc X.env.scope x) (hf : X.fn x = true \/ X.env.scope.names.lookup x = some .local := by first | exact .inl rfl | exact .inr rfl | assumption) : PG X (.Name x pos) (zz4 i) := by with_unfolding_all exact L2.zw2 hN hi hx hf
end
section
variable {X : Cx} {pos : Pos}
theorem yu2 : PGs X [] xx5 := by with_unfolding_all exact L2.yu2
end
section
variable {X : Cx} {pos : Pos}
theorem yf2 {e : Expr} {es : List Expr} {t : TG} {u : TGs} (h1 : PG X e t) (h2 : PGs X es u)
    (hs : (assignEach (e :: es) X.env).map (·.2) = assign e X.env :: (assignEach es X.env).map (·.2) := by rfl) : PGs X (e :: es) (xn1 t u) := by with_unfolding_all exact L2.yf2 h1 h2 hs
end
section
variable {X : Cx} {κ : Str -> Addr} {e a b : Expr} {f fa fb : PSt -> Option D}
theorem QP.v (h : QP X κ e f) : QV X κ e f := by with_unfolding_all exact L2.QP.v h
end
section
variable {X : Cx} {κ : Str -> Addr} {e a b : Expr} {f fa fb : PSt -> Option D}
theorem QV.p (h : QV X κ e f) : QP X κ e (za9 f) := by with_unfolding_all exact L2.QV.p h
end
section
variable {X : Cx} {κ : Str -> Addr} {e a b : Expr} {f fa fb : PSt -> Option D}
theorem za3 (i : Nat) {x : Str} {pos : Pos} (hN : X.N[i]? = some x := by rfl) (hv : Vis X.env.scope x := by first | exact Or.inl rfl | exact Or.inr (Or.inl rfl) | exact Or.inr (Or.inr rfl)) (hd : (x == ("__debug__" : Str)) = false := by decide)
    (hcd : (x == ("__classdict__" : Str)) = false := by decide) : QV X κ (.Name x pos) (za0 i) := by with_unfolding_all exact L2.za3 i hN hv hd hcd
end
section
variable {X : Cx} {κ : Str -> Addr} {e a b : Expr} {f fa fb : PSt -> Option D}
theorem zb1 {i j pos} : QP X κ (.Constant (.int i) j pos) (fC (.int i)) := by with_unfolding_all exact L2.zb1
end
section
variable {X : Cx} {κ : Str -> Addr} {e a b : Expr} {f fa fb : PSt -> Option D}
theorem zf7 {x j pos} : QP X κ (.Constant (.str x) j pos) (fC (.str x)) := by with_unfolding_all exact L2.zf7
end
section
variable {X : Cx} {κ : Str -> Addr} {e a b : Expr} {f fa fb : PSt -> Option D}
theorem xa7 {b j pos} : QP X κ (.Constant (.bool b) j pos) (fC (.bl b)) := by with_unfolding_all exact L2.xa7
end
section
variable {X : Cx} {κ : Str -> Addr} {e a b : Expr} {f fa fb : PSt -> Option D}
theorem yq1 {j pos} : QP X κ (.Constant .none j pos) (fC .non) := by with_unfolding_all exact L2.yq1
end
section
variable {X : Cx} {κ : Str -> Addr} {e a b : Expr} {f fa fb : PSt -> Option D}
theorem yu6 {x : Str} {v : V} {u : Value} {d : D} {pos : Pos} (hg : Gl X x) (hm : X.mg x = some u) (r : ze0 v u) (hd : ∀ H, Rep X.K κ H v d []) (hdb : (x == ("__debug__" : Str)) = false := by decide) : QP X κ (.Name x pos) (fC d) := by with_unfolding_all exact L2.yu6 hg hm r hd hdb
end
section
variable {X : Cx} {κ : Str -> Addr} {e a b : Expr} {f fa fb : PSt -> Option D}
theorem xk7 {x : Str} {n : String} {pos : Pos} (hg : Gl X x) (hm : X.mg x = none) (hv : bootBuiltins x = some (.type n)) (hn : x ≠ "__name__" := by decide) (hd : (x == ("__debug__" : Str)) = false := by decide) : QP X κ (.Name x pos) (fC (.ty n)) := by with_unfolding_all exact L2.xk7 hg hm hv hn hd
end
section
variable {X : Cx} {κ : Str -> Addr} {e a b : Expr} {f fa fb : PSt -> Option D}
theorem zg3 {op : Operator} {g : D -> D -> Option D} {pos : Pos} (ho : OpR X (binaryOp op) (POp X.K κ g)) (ha : QV X κ a fa) (hb : QV X κ b fb) : QP X κ (.BinOp a op b pos) (f2 g fa fb) := by with_unfolding_all exact L2.zg3 ho ha hb
end
section
variable {X : Cx} {κ : Str -> Addr} {e a b : Expr} {f fa fb : PSt -> Option D}
theorem ye0 {op : CmpOp} {g : D -> D -> Option D} {pos : Pos} (ho : OpR X (compareOp op) (POp X.K κ g)) (ha : QV X κ a fa) (hb : QV X κ b fb) (hm : behindInMarks op b = false) : QP X κ (.Compare a [op] [b] pos) (f2 g fa fb) := by with_unfolding_all exact L2.ye0 ho ha hb hm
end
section
variable {X : Cx} {κ : Str -> Addr} {e a b : Expr} {f fa fb : PSt -> Option D}
theorem zg4 {op : CmpOp} {g : D -> D -> Option D} {pos : Pos} (ho : OpR X (compareOp op) (POp X.K κ g)) (ha : QV X κ a fa) (hb : QV X κ b fb) (hm : behindInMarks op b = false) : QT X κ (.Compare a [op] [b] pos) (fB (f2 g fa fb)) := by with_unfolding_all exact L2.zg4 ho ha hb hm
end
section
variable {X : Cx} {κ : Str -> Addr} {e a b : Expr} {f fa fb : PSt -> Option D}
theorem zx7 (ha : QV X κ a fa) (he : ∀ whole, isTrue a X.env whole = (do let v <- whole; standAt a.pos; holding [v] (truthy v)) := by intro _; rfl) : QT X κ a (fT fa) := by with_unfolding_all exact L2.zx7 ha he
end
section
variable {X : Cx} {κ : Str -> Addr} {e a b : Expr} {f fa fb : PSt -> Option D}
variable {pos : Pos} {zb9 : List Expr} {ta tb : PSt -> Option Bool}
theorem ya1 (ha : QT X κ a ta) : QW X κ (.BoolOp .And [a] pos) ta := by with_unfolding_all exact L2.ya1 ha
end
section
variable {X : Cx} {κ : Str -> Addr} {e a b : Expr} {f fa fb : PSt -> Option D}
variable {pos : Pos} {zb9 : List Expr} {ta tb : PSt -> Option Bool}
theorem yq2 (ha : QT X κ a ta) : QW X κ (.BoolOp .Or [a] pos) ta := by with_unfolding_all exact L2.yq2 ha
end
section
variable {X : Cx} {κ : Str -> Addr} {e a b : Expr} {f fa fb : PSt -> Option D}
variable {pos : Pos} {zb9 : List Expr} {ta tb : PSt -> Option Bool}
theorem ye1 (ha : QT X κ a ta) (hb : QW X κ (.BoolOp .And (b :: zb9) pos) tb) : QW X κ (.BoolOp .And (a :: b :: zb9) pos) (zl9 ta tb) := by with_unfolding_all exact L2.ye1 ha hb
end
section
variable {X : Cx} {κ : Str -> Addr} {e a b : Expr} {f fa fb : PSt -> Option D}
variable {pos : Pos} {zb9 : List Expr} {ta tb : PSt -> Option Bool}
theorem xa8 (ha : QT X κ a ta) (hb : QW X κ (.BoolOp .Or (b :: zb9) pos) tb) : QW X κ (.BoolOp .Or (a :: b :: zb9) pos) (zj6 ta tb) := by with_unfolding_all exact L2.xa8 ha hb
end
section
variable {X : Cx} {κ : Str -> Addr} {e a b : Expr} {f fa fb : PSt -> Option D}
variable {pos : Pos} {zb9 : List Expr} {ta tb : PSt -> Option Bool}
theorem yi3 (h : QW X κ a ta) : QT X κ a ta := by with_unfolding_all exact L2.yi3 h
end
section
variable {X : Cx} {κ : Str -> Addr} {e a b : Expr} {f fa fb : PSt -> Option D}
variable {pos : Pos} {zb9 : List Expr} {ta tb : PSt -> Option Bool}
theorem yq3 (ha : QT X κ a ta) : QT X κ (.UnaryOp .Not a pos) (zu0 ta) := by with_unfolding_all exact L2.yq3 ha
end
section
variable {X : Cx} {κ : Str -> Addr} {e a b : Expr} {f fa fb : PSt -> Option D}
variable {pos : Pos} {zb9 : List Expr} {ta tb : PSt -> Option Bool}
theorem yi4 {op} (h : QP X κ a fa) : QP X κ (.BoolOp op [a] pos) fa := by with_unfolding_all exact L2.yi4 h
end
section
variable {X : Cx} {κ : Str -> Addr} {e a b : Expr} {f fa fb : PSt -> Option D}
variable {pos : Pos} {zb9 : List Expr} {ta tb : PSt -> Option Bool}
theorem yq4 (ha : QP X κ a fa) (hb : QP X κ (.BoolOp .And (b :: zb9) pos) fb) : QP X κ (.BoolOp .And (a :: b :: zb9) pos) (zy6 fa fb) := by with_unfolding_all exact L2.yq4 ha hb
end
section
variable {X : Cx} {κ : Str -> Addr} {e a b : Expr} {f fa fb : PSt -> Option D}
variable {pos : Pos} {zb9 : List Expr} {ta tb : PSt -> Option Bool}
theorem xk8 (ha : QP X κ a fa) (hb : QP X κ (.BoolOp .Or (b :: zb9) pos) fb) : QP X κ (.BoolOp .Or (a :: b :: zb9) pos) (fOr fa fb) := by with_unfolding_all exact L2.xk8 ha hb
end
section
variable {X : Cx} {κ : Str -> Addr} {e a b : Expr} {f fa fb : PSt -> Option D}
variable {pos : Pos} {zb9 : List Expr} {ta tb : PSt -> Option Bool}
theorem zt5 (ha : QV X κ a fa) : QP X κ (.UnaryOp .USub a pos) (zo2 fa) := by with_unfolding_all exact L2.zt5 ha
end
section
variable {X : Cx} {κ : Str -> Addr}
theorem zx3 : OpR X (binaryOp .Add) (POp X.K κ zh2) := by with_unfolding_all exact L2.zx3
end
section
variable {X : Cx} {κ : Str -> Addr}
theorem yq5 : OpR X (binaryOp .Sub) (POp X.K κ zl6) := by with_unfolding_all exact L2.yq5
end
section
variable {X : Cx} {κ : Str -> Addr}
theorem yq6 : OpR X (binaryOp .Mult) (POp X.K κ yd5) := by with_unfolding_all exact L2.yq6
end
section
variable {X : Cx} {κ : Str -> Addr}
theorem zt9 : OpR X (binaryOp .Mod) (POp X.K κ zm2) := by with_unfolding_all exact L2.zt9
end
section
variable {X : Cx} {κ : Str -> Addr}
theorem zz1 : OpR X (binaryOp .FloorDiv) (POp X.K κ zr1) := by with_unfolding_all exact L2.zz1
end
section
variable {X : Cx} {κ : Str -> Addr}
theorem yn6 (hu : X.A.units < cLine) : OpR X (compareOp .Lt) (POp X.K κ dLt) := by with_unfolding_all exact L2.yn6 hu
end
section
variable {X : Cx} {κ : Str -> Addr}
theorem xu9 : OpR X (compareOp .LtE) (POp X.K κ dLe) := by with_unfolding_all exact L2.xu9
end
section
variable {X : Cx} {κ : Str -> Addr}
theorem xc4 : OpR X (compareOp .Gt) (POp X.K κ dGt) := by with_unfolding_all exact L2.xc4
end
section
variable {X : Cx} {κ : Str -> Addr}
theorem xl0 : OpR X (compareOp .GtE) (POp X.K κ dGe) := by with_unfolding_all exact L2.xl0
end
section
variable {X : Cx} {κ : Str -> Addr}
theorem zq8 (hu : X.A.units + 64 < cLine) : OpR X (compareOp .Eq) (POp X.K κ dEq) := by with_unfolding_all exact L2.zq8 hu
end
section
variable {X : Cx} {κ : Str -> Addr}
theorem xv1 : OpR X (compareOp .Is) (POp X.K κ dIs) := by with_unfolding_all exact L2.xv1
end
section
variable {X : Cx} {κ : Str -> Addr}
theorem xv2 : OpR X (compareOp .In) (POp X.K κ dIn) := by with_unfolding_all exact L2.xv2
end
section
variable {X : Cx} {κ : Str -> Addr} {e a b : Expr} {es : List Expr} {f fa fb : PSt -> Option D} {g : PSt -> Option (List D)} {pos p2 : Pos}
theorem ze3 : QVA X κ [] za2 := by with_unfolding_all exact L2.ze3
end
section
variable {X : Cx} {κ : Str -> Addr} {e a b : Expr} {es : List Expr} {f fa fb : PSt -> Option D} {g : PSt -> Option (List D)} {pos p2 : Pos}
theorem zc2 (ha : QV X κ e f) (hr : QVA X κ es g) (hs : starEach (e :: es) X.env = (false, eval e X.env) :: starEach es X.env := by rfl) : QVA X κ (e :: es) (za1 f g) := by with_unfolding_all exact L2.zc2 ha hr hs
end
section
variable {X : Cx} {κ : Str -> Addr} {e a b : Expr} {es : List Expr} {f fa fb : PSt -> Option D} {g : PSt -> Option (List D)} {pos p2 : Pos}
theorem ze7 : QPA X κ [] za2 := by with_unfolding_all exact L2.ze7
end
section
variable {X : Cx} {κ : Str -> Addr} {e a b : Expr} {es : List Expr} {f fa fb : PSt -> Option D} {g : PSt -> Option (List D)} {pos p2 : Pos}
theorem zc8 (ha : QP X κ e f) (hr : QPA X κ es g) (hs : starEach (e :: es) X.env = (false, eval e X.env) :: starEach es X.env := by rfl) : QPA X κ (e :: es) (za1 f g) := by with_unfolding_all exact L2.zc8 ha hr hs
end
section
variable {X : Cx} {κ : Str -> Addr} {e a b : Expr} {es : List Expr} {f fa fb : PSt -> Option D} {g : PSt -> Option (List D)} {pos p2 : Pos}
theorem zq7 {x1} (h : QPA X κ es g) : QP X κ (.Tuple es x1 pos) (zi5 g) := by with_unfolding_all exact L2.zq7 h
end
section
variable {X : Cx} {κ : Str -> Addr} {e a b : Expr} {es : List Expr} {f fa fb : PSt -> Option D} {g : PSt -> Option (List D)} {pos p2 : Pos}
theorem zn3 (h : QPA X κ es g) : QP X κ (.List es pos) (zi4 g) := by with_unfolding_all exact L2.zn3 h
end
section
variable {X : Cx} {κ : Str -> Addr} {e a b : Expr} {es : List Expr} {f fa fb : PSt -> Option D} {g : PSt -> Option (List D)} {pos p2 : Pos}
theorem zg1 (ha : QV X κ a fa) (hb : QV X κ b fb) (hs : zw8 b := by exact fun _ _ => rfl) : QV X κ (.Subscript a b pos) (f2 dIx fa fb) := by with_unfolding_all exact L2.zg1 ha hb hs
end
section
variable {X : Cx} {κ : Str -> Addr} {e a b : Expr} {es : List Expr} {f fa fb : PSt -> Option D} {g : PSt -> Option (List D)} {pos p2 : Pos}
theorem yq7 (ha : QP X κ a fa) (hb : QV X κ b fb) (hs : zw8 b := by exact fun _ _ => rfl) : QP X κ (.Subscript a b pos) (f2 dIx fa fb) := by with_unfolding_all exact L2.yq7 ha hb hs
end
section
variable {X : Cx} {κ : Str -> Addr} {e a b : Expr} {es : List Expr} {f fa fb : PSt -> Option D} {g : PSt -> Option (List D)} {pos p2 : Pos}
theorem yl0 : QO X κ none ye9 := by with_unfolding_all exact L2.yl0
end
section
variable {X : Cx} {κ : Str -> Addr} {e a b : Expr} {es : List Expr} {f fa fb : PSt -> Option D} {g : PSt -> Option (List D)} {pos p2 : Pos}
theorem yl1 (h : QV X κ e f) : QO X κ (some e) (ys3 f) := by with_unfolding_all exact L2.yl1 h
end
section
variable {X : Cx} {κ : Str -> Addr} {e a b : Expr} {es : List Expr} {f fa fb : PSt -> Option D} {g : PSt -> Option (List D)} {pos p2 : Pos}
theorem yf6 {lo hi : Option Expr} {fl fh : PSt -> Option (Option Int)} (he : QV X κ e f) (hl : QO X κ lo fl) (hh : QO X κ hi fh) : QP X κ (.Subscript e (.Slice lo hi none p2) pos) (fSl f fl fh) := by with_unfolding_all exact L2.yf6 he hl hh
end
section
variable {X : Cx} {κ : Str -> Addr} {e a b : Expr} {es : List Expr} {f fa fb : PSt -> Option D} {g : PSt -> Option (List D)} {pos p2 : Pos}
theorem zk5 {x : Str} {id : String} {p : Pos} {h : List D -> Option D} (hc : zi0 X (.builtin id) (PCl X.K κ h)) (hg : Gl X x) (hm : X.mg x = none) (hv : bootBuiltins x = some (.builtin id)) (ha : QVA X κ (e :: es) g) (hn : x ≠ "__name__" := by decide) (hdb : (x == ("__debug__" : Str)) = false := by decide)
    (hs : starEach (e :: es) X.env = (false, eval e X.env) :: starEach es X.env := by rfl) (hpl : (backTo pos (starEach es X.env)).any (·.1) = false := by rfl) : QP X κ (.Call (.Name x p) (e :: es) [] pos) (za5 h g) := by with_unfolding_all exact L2.zk5 hc hg hm hv ha hn hdb hs hpl
end
section
variable {X : Cx} {κ : Str -> Addr} {e a b : Expr} {es : List Expr} {f fa fb : PSt -> Option D} {g : PSt -> Option (List D)} {pos p2 : Pos}
theorem yi5 {x : Str} {T : String} {p : Pos} {h : List D -> Option D} (hc : zi0 X (.type T) (PCl X.K κ h)) (hg : Gl X x) (hm : X.mg x = none) (hv : bootBuiltins x = some (.type T)) (ha : QVA X κ (e :: es) g) (hn : x ≠ "__name__" := by decide) (hdb : (x == ("__debug__" : Str)) = false := by decide)
    (hs : starEach (e :: es) X.env = (false, eval e X.env) :: starEach es X.env := by rfl) (hpl : (backTo pos (starEach es X.env)).any (·.1) = false := by rfl) : QP X κ (.Call (.Name x p) (e :: es) [] pos) (za5 h g) := by with_unfolding_all exact L2.yi5 hc hg hm hv ha hn hdb hs hpl
end
section
variable {X : Cx} {κ : Str -> Addr} {e a b : Expr} {es : List Expr} {f fa fb : PSt -> Option D} {g : PSt -> Option (List D)} {pos p2 : Pos}
theorem zv0 : zi0 X (.builtin "len") (PCl X.K κ zh0) := by with_unfolding_all exact L2.zv0
end
section
variable {X : Cx} {κ : Str -> Addr} {e a b : Expr} {es : List Expr} {f fa fb : PSt -> Option D} {g : PSt -> Option (List D)} {pos p2 : Pos}
theorem xl1 : zi0 X (.builtin "isinstance") (PCl X.K κ yj9) := by with_unfolding_all exact L2.xl1
end
section
variable {X : Cx} {κ : Str -> Addr} {e a b : Expr} {es : List Expr} {f fa fb : PSt -> Option D} {g : PSt -> Option (List D)} {pos p2 : Pos}
theorem ye2 : zi0 X (.type "tuple") (PCl X.K κ zs2) := by with_unfolding_all exact L2.ye2
end
section
variable {X : Cx} {κ : Str -> Addr} {e a b : Expr} {es : List Expr} {f fa fb : PSt -> Option D} {g : PSt -> Option (List D)} {pos p2 : Pos}
theorem xl2 (hc : X.calm = true) : zi0 X (.builtin "sum") (PCl X.K κ yp1) := by with_unfolding_all exact L2.xl2 hc
end
section
variable {X : Cx} {κ : Str -> Addr} {e a b : Expr} {es : List Expr} {f fa fb : PSt -> Option D} {g : PSt -> Option (List D)} {pos p2 : Pos}
theorem yl2 {name : Str} {id : String} {apos : Pos} {h : D -> List D -> Option D} (slot : Slot "str" name id) (hty : typeOf (.builtin id) = pure (.type "method_descriptor")) (hm : MtR X id (PMt X.K κ h)) (ho : QV X κ a fa) (ha : QVA X κ (e :: es) g)
    (hbase : attributeBase a name X.env (eval a X.env) = eval a X.env := by rfl)
    (hfew : ((backTo pos (starEach (e :: es) X.env)).all (fun x => !x.1) && (backToKw pos (keywordEach [] X.env)).all (fun x => x.1.isSome)
      && decide ((e :: es).length + ([] : List Keyword).length + (if ([] : List Keyword).isEmpty then 0 else 1) < 30)) = true := by rfl)
    (hline : (apos.endLine == pos.line) = true := by rfl) (hs : starEach (e :: es) X.env = (false, eval e X.env) :: starEach es X.env := by rfl) (hplain : (backTo pos (starEach es X.env)).any (·.1) = false := by rfl) :
    QP X κ (.Call (.Attribute a name apos) (e :: es) [] pos) (fMt h fa g) := by with_unfolding_all exact L2.yl2 slot hty hm ho ha hbase hfew hline hs hplain
end
section
variable {X : Cx} {κ : Str -> Addr} {e a b : Expr} {es : List Expr} {f fa fb : PSt -> Option D} {g : PSt -> Option (List D)} {pos p2 : Pos}
theorem yq8 : MtR X "str.join" (PMt X.K κ zx5) := by with_unfolding_all exact L2.yq8
end
section
variable {X : Cx} {κ : Str -> Addr} {φ : F0} {st : Stmt} {zb9 : List Stmt} {f g : PSt -> Option (Fl × PSt)} {pos : Pos}
theorem zg6 : QSs X κ φ [] zd7 := by with_unfolding_all exact L2.zg6
end
section
variable {X : Cx} {κ : Str -> Addr} {φ : F0} {st : Stmt} {zb9 : List Stmt} {f g : PSt -> Option (Fl × PSt)} {pos : Pos}
theorem zc1 (h : QS X κ φ st f) : QSs X κ φ [st] f := by with_unfolding_all exact L2.zc1 h
end
section
variable {X : Cx} {κ : Str -> Addr} {φ : F0} {st : Stmt} {zb9 : List Stmt} {f g : PSt -> Option (Fl × PSt)} {pos : Pos}
theorem zb2 (h1 : QS X κ φ st f) (h2 : QSs X κ φ zb9 g) : QSs X κ φ (st :: zb9) (zb8 f g) := by with_unfolding_all exact L2.zb2 h1 h2
end
section
variable {X : Cx} {κ : Str -> Addr} {φ : F0} {st : Stmt} {zb9 : List Stmt} {f g : PSt -> Option (Fl × PSt)} {pos : Pos}
theorem zw3 : QS X κ φ st yf0 := by with_unfolding_all exact L2.zw3
end
section
variable {X : Cx} {κ : Str -> Addr} {φ : F0} {st : Stmt} {zb9 : List Stmt} {f g : PSt -> Option (Fl × PSt)} {pos : Pos}
theorem QP.e {e : Expr} {f : PSt -> Option D} (h : PE X e (tP X.K κ f)) : QE X κ φ e (za4 f) := by with_unfolding_all exact L2.QP.e h
end
section
variable {X : Cx} {κ : Str -> Addr} {φ : F0} {st : Stmt} {zb9 : List Stmt} {f g : PSt -> Option (Fl × PSt)} {pos : Pos}
theorem QT.e {e : Expr} {f : PSt -> Option Bool} (h : PT X e (tQ X.K κ f)) : QTE X κ φ e (za6 f) := by with_unfolding_all exact L2.QT.e h
end
section
variable {X : Cx} {κ : Str -> Addr} {φ : F0} {st : Stmt} {zb9 : List Stmt} {f g : PSt -> Option (Fl × PSt)} {pos : Pos}
theorem zh9 (i : Nat) {x : Str} {e : Expr} {pos' : Pos} {f : PSt -> Option (D × PSt)} (hN : X.N.Nodup) (hi : X.N[i]? = some x) (hx : Loc X.env.scope x) (hb : φ.bor i = false) (hm : φ.M i = false) (he : QE X κ φ e f) (hs : swapsWith e (some (.Name x pos')) pos.line X.env = pure false := by rfl) (hf : X.fn x = true \/ X.env.scope.names.lookup x = some .local := by first | exact .inl rfl | exact .inr rfl | assumption) :
    QS X κ φ (.Assign [.Name x pos'] e pos) (zd1 i f) := by with_unfolding_all exact L2.zh9 i hN hi hx hb hm he hs hf
end
section
variable {X : Cx} {κ : Str -> Addr} {φ : F0} {st : Stmt} {zb9 : List Stmt} {f g : PSt -> Option (Fl × PSt)} {pos : Pos}
theorem zk6 {e : Expr} {f : PSt -> Option (D × PSt)} (he : QE X κ φ e f) (hs : swapsWith e none pos.line X.env = pure false := by rfl) : QS X κ φ (.Expr e pos) (zb4 f) := by with_unfolding_all exact L2.zk6 he hs
end
section
variable {X : Cx} {κ : Str -> Addr} {φ : F0} {st : Stmt} {zb9 : List Stmt} {f g : PSt -> Option (Fl × PSt)} {pos : Pos}
theorem zg2 {e : Expr} {f : PSt -> Option (D × PSt)} (he : QE X κ φ e f) : QS X κ φ (.Return (some e) pos) (ze4 f) := by with_unfolding_all exact L2.zg2 he
end
section
variable {X : Cx} {κ : Str -> Addr} {φ : F0} {st : Stmt} {zb9 : List Stmt} {f g : PSt -> Option (Fl × PSt)} {pos : Pos}
theorem yu9 (i : Nat) {x : Str} {p : Pos} (hb : φ.bor i = false) (hN : X.N[i]? = some x := by rfl) (hv : Vis X.env.scope x := by first | exact Or.inl rfl | exact Or.inr (Or.inl rfl) | exact Or.inr (Or.inr rfl)) (hd : (x == ("__debug__" : Str)) = false := by decide)
    (hcd : (x == ("__classdict__" : Str)) = false := by decide) : QS X κ φ (.Return (some (.Name x p)) pos) (zo6 i) := by with_unfolding_all exact L2.yu9 i hb hN hv hd hcd
end
section
variable {X : Cx} {κ : Str -> Addr} {φ : F0} {st : Stmt} {zb9 : List Stmt} {f g : PSt -> Option (Fl × PSt)} {pos : Pos}
theorem zi7 {c : Expr} {a b : List Stmt} {tc : PSt -> Option (Bool × PSt)} (hc : QTE X κ φ c tc) (ha : QSs X κ φ a f) (hb : QSs X κ φ b g) : QS X κ φ (.If c a b pos) (fIf tc f g) := by with_unfolding_all exact L2.zi7 hc ha hb
end
section
variable {X : Cx} {φ : Fx} {pos : Pos} {body : List Stmt} {f : PSt -> Option (Fl × PSt)}
theorem yn8 {κ : Str -> Addr} {φ : F0} (n : Nat) {c : Expr} {tc : PSt -> Option (Bool × PSt)} (hp : PassesOwn (model X.prog X.w) X.A X.env X.xe) (hc : QTE X κ φ c tc) (hb : QSs X κ φ body f) : QS X κ φ (.While c body [] pos) (zs3 tc f n) := by with_unfolding_all exact L2.yn8 n hp hc hb
end
section
variable {X : Cx} {κ : Str -> Addr} {tg l a b : Expr} {f : PSt -> Option D} {g : PSt -> Option (List D)} {p pos : Pos}
theorem yi6 (hg : Gl X "range") (hm : X.mg "range" = none) (ha : QVA X κ [a] g) (hs : starEach [a] X.env = [(false, eval a X.env)] := by rfl) : QIP X κ tg (.Call (.Name "range" p) [a] [] pos) (ys5 g) := by with_unfolding_all exact L2.yi6 hg hm ha hs
end
section
variable {X : Cx} {κ : Str -> Addr} {tg l a b : Expr} {f : PSt -> Option D} {g : PSt -> Option (List D)} {p pos : Pos}
theorem xc7 (h : QV X κ l f) : QIV X κ tg l (zo0 f) := by with_unfolding_all exact L2.xc7 h
end
section
variable {X : Cx} {φ : Fx} {pos : Pos} {body : List Stmt} {f : PSt -> Option (Fl × PSt)}
theorem xc9 {κ : Str -> Addr} {φ : F0} (i : Nat) {x : Str} {px : Pos} {iter : Expr} {fi : PSt -> Option (List D)} (hp : PassesOwn (model X.prog X.w) X.A X.env X.xe) (hc : X.calm = true) (hN : X.N.Nodup) (hi : X.N[i]? = some x) (hx : Loc X.env.scope x) (hb : φ.bor i = false) (hm : φ.M i = false)
    (hit : PI X (.Name x px) iter (tIP X.K κ fi)) (hbd : QSs X κ φ body f) (hs : ∀ x, foldedSetIterable iter X.env x = pure x := by intro _; rfl) (hf : X.fn x = true \/ X.env.scope.names.lookup x = some .local := by first | exact .inl rfl | exact .inr rfl | assumption) :
    QS X κ φ (.For (.Name x px) iter body [] pos) (yk0 i fi f) := by with_unfolding_all exact L2.xc9 i hp hc hN hi hx hb hm hit hbd hs hf
end
section
variable {X : Cx} {φ : Fx} {pos : Pos} {body : List Stmt} {f : PSt -> Option (Fl × PSt)}
theorem yv1 {κ : Str -> Addr} {φ : F0} (i j : Nat) {x y : Str} {px py : Pos} (hp : PassesOwn (model X.prog X.w) X.A X.env X.xe) (hc : X.calm = true) (hN : X.N.Nodup) (hi : X.N[i]? = some x) (hx : Loc X.env.scope x) (hb : φ.bor i = false) (hm : φ.M i = false) (hj : φ.bor j = true)
    (hbd : QSs X κ φ body f) (hNj : X.N[j]? = some y := by rfl) (hv : Vis X.env.scope y := by first | exact Or.inl rfl | exact Or.inr (Or.inl rfl) | exact Or.inr (Or.inr rfl)) (hd : (y == ("__debug__" : Str)) = false := by decide)
    (hcd : (y == ("__classdict__" : Str)) = false := by decide) (hs : ∀ x, foldedSetIterable (.Name y py) X.env x = pure x := by intro _; rfl) (hf : X.fn x = true \/ X.env.scope.names.lookup x = some .local := by first | exact .inl rfl | exact .inr rfl | assumption) :
    QS X κ φ (.For (.Name x px) (.Name y py) body [] pos) (yk0 i (zo0 (za0 j)) f) := by with_unfolding_all exact L2.yv1 i j hp hc hN hi hx hb hm hj hbd hNj hv hd hcd hs hf
end
section
variable {P : Program} {w : World} {K : PySem.W.Frag} {mg : Str -> Option Value} {base : Heap} {κ : Str -> Addr}
theorem zj8 {x qual : Str} {st : Stmt} {f : Addr} {fd : FuncData} {N ps : List Str} {k : Nat} {fb : PSt -> Option (Fl × PSt)} (F : Fun K x qual st f fd) (S : FnScope N ps (za8 st))
    (hbody : ∀ (cdv : Value) (A : Around) (outer : List Env) (s : Shared) (H : Hp) (E : XK) (B : Nat -> Addr -> Prop), Room k (A.deeper (envOfC qual (za8 st) s.heap.objs.size f cdv)) ->
      QSs (yd4 CX0 P w K mg base N qual (za8 st) f cdv A outer s H E).nox κ (f0P ps.length B) (ze1 st) fb) :
    FnOk P w K mg base CX0 (k + 1) f fd ps (SpP ps.length K κ (gP ps.length (N.length - ps.length) fb)) := by with_unfolding_all exact L2.zj8 F S hbody
end
section
variable {X : Cx} {κ : Str -> Addr} {e : Expr} {es : List Expr} {g : PSt -> Option (List D)} {pos p : Pos}
theorem zp4 {x : Str} {st : Stmt} {ps : List Str} {f : Addr} {fd : FuncData} {k np : Nat} {h : List D -> Option D} (Dd : Dn X.K X.mg x st ps f fd) (G : FnOk X.prog X.w X.K X.mg X.base CX0 k f fd ps (SpP np X.K κ h)) (hr : Room k X.A) (hg : Gl X x) (hnp : (e :: es).length = np) (ha : QVA X κ (e :: es) g)
    (hlen : ∀ ps ds, g ps = some ds -> ds.length = (e :: es).length)
    (hdb : (x == ("__debug__" : Str)) = false := by decide) (he : starEach (e :: es) X.env = (false, eval e X.env) :: starEach es X.env := by rfl) (hpl : (backTo pos (starEach es X.env)).any (·.1) = false := by rfl) :
    QP X κ (.Call (.Name x p) (e :: es) [] pos) (za5 h g) := by with_unfolding_all exact L2.zp4 Dd G hr hg hnp ha hlen hdb he hpl
end
section
variable {X : Cx} {κ : Str -> Addr} {e : Expr} {es : List Expr} {g : PSt -> Option (List D)} {pos p : Pos}
theorem xd0 {x : Str} {st : Stmt} {ps : List Str} {f : Addr} {fd : FuncData} {k : Nat} {h : List D -> Option D} (Dd : Dn X.K X.mg x st ps f fd) (G : FnOk X.prog X.w X.K X.mg X.base CX0 k f fd ps (SpP 0 X.K κ h)) (hr : Room k X.A) (hg : Gl X x)
    (hdb : (x == ("__debug__" : Str)) = false := by decide) : QP X κ (.Call (.Name x p) [] [] pos) (za5 h za2) := by with_unfolding_all exact L2.xd0 Dd G hr hg hdb
end
section
variable {X : Cx} {κ : Str -> Addr} {sc : Scope} {NX N : List Str} {pick : List (Option Nat)} {elt iter : Expr} {ifs : List Expr} {scope : Scope} {pos px : Pos} {x : Str} {fi : PSt -> Option (List D)} {ft : PSt -> Option Bool} {fe : PSt -> Option D}
theorem yv2 {X : Cx} : PTs X [] (tQ X.K κ yp3) := by with_unfolding_all exact L2.yv2
end
section
variable {X : Cx} {κ : Str -> Addr} {sc : Scope} {NX N : List Str} {pick : List (Option Nat)} {elt iter : Expr} {ifs : List Expr} {scope : Scope} {pos px : Pos} {x : Str} {fi : PSt -> Option (List D)} {ft : PSt -> Option Bool} {fe : PSt -> Option D}
theorem yv3 (S : CScope sc NX N pick scope) (hsc : X.env.scope = sc) (hNX : X.N = NX) (hc : X.calm = true) (hi : QIV X κ (.Name x px) iter fi)
    (hg : ∀ cl fp s H, PG (cxB X N scope cl fp s H) (.Name x px) (zz4 0)) (ht : ∀ cl fp s H, PTs (cxB X N scope cl fp s H) ifs (tQ X.K κ ft)) (he : ∀ cl fp s H, PE (cxB X N scope cl fp s H) elt (tP X.K κ fe))
    (hs : ∀ x, foldedSetIterable iter X.env x = pure x := by intro _; rfl) : QP X κ (.ListComp elt [⟨.Name x px, iter, ifs, 0⟩] scope pos) (ys6 pick fi ft fe) := by with_unfolding_all exact L2.yv3 S hsc hNX hc hi hg ht he hs
end
section
variable {X : Cx} {φ : F0} {κ : Str -> Addr} {K : PySem.W.Frag} {o e a b : Expr} {f fb fe : PSt -> Option D} {g : PSt -> Option (List D)} {pf : PSt -> Option (List Ps1)} {j : Nat} {pos apos : Pos}
theorem zd3 (j : Nat) {x : Str} (hN : X.N[j]? = some x := by rfl) (hv : Vis X.env.scope x := by first | exact Or.inl rfl | exact Or.inr (Or.inl rfl) | exact Or.inr (Or.inr rfl)) (hd : (x == ("__debug__" : Str)) = false := by decide)
    (hcd : (x == ("__classdict__" : Str)) = false := by decide) : PE X (.Name x pos) (zk1 K κ j zb0) := by with_unfolding_all exact L2.zd3 j hN hv hd hcd
end
section
variable {X : Cx} {φ : F0} {κ : Str -> Addr} {K : PySem.W.Frag} {o e a b : Expr} {f fb fe : PSt -> Option D} {g : PSt -> Option (List D)} {pf : PSt -> Option (List Ps1)} {j : Nat} {pos apos : Pos}
theorem ya6 (ha : PE X a (zk1 X.K κ j pf)) (hb : QV X κ b fb) (hs : zw8 b := by exact fun _ _ => rfl) : PE X (.Subscript a b pos) (zk1 X.K κ j (zs4 j pf fb)) := by with_unfolding_all exact L2.ya6 ha hb hs
end
section
variable {X : Cx} {φ : F0} {κ : Str -> Addr} {K : PySem.W.Frag} {o e a b : Expr} {f fb fe : PSt -> Option D} {g : PSt -> Option (List D)} {pf : PSt -> Option (List Ps1)} {j : Nat} {pos apos : Pos}
theorem yi7 {C fn : Str} (hc : Cls X.K (κ C)) (hna : ze6 X.K (κ C) fn) (ha : PE X a (zk1 X.K κ j pf)) (hb : attributeBase a fn X.env (eval a X.env) = eval a X.env := by rfl) : PE X (.Attribute a fn pos) (zk1 X.K κ j (zk2 j pf C fn)) := by with_unfolding_all exact L2.yi7 hc hna ha hb
end
section
variable {X : Cx} {φ : F0} {κ : Str -> Addr} {K : PySem.W.Frag} {o e a b : Expr} {f fb fe : PSt -> Option D} {g : PSt -> Option (List D)} {pf : PSt -> Option (List Ps1)} {j : Nat} {pos apos : Pos}
theorem zo5 (hb : φ.bor j = false) (ho : PE X o (zk1 X.K κ j pf)) (ha : PA X [e] (tPA X.K κ g))
    (hbase : attributeBase o "append" X.env (eval o X.env) = eval o X.env := by rfl)
    (hfew : ((backTo pos (starEach [e] X.env)).all (fun x => !x.1) && (backToKw pos (keywordEach [] X.env)).all (fun x => x.1.isSome)
      && decide ([e].length + ([] : List Keyword).length + (if ([] : List Keyword).isEmpty then 0 else 1) < 30)) = true := by rfl)
    (hline : (apos.endLine == pos.line) = true := by rfl) (hs : starEach [e] X.env = (false, eval e X.env) :: starEach [] X.env := by rfl) (hplain : (backTo pos (starEach [] X.env)).any (·.1) = false := by rfl) :
    QE X κ φ (.Call (.Attribute o "append" apos) [e] [] pos) (zc0 j pf g zc5) := by with_unfolding_all exact L2.zo5 hb ho ha hbase hfew hline hs hplain
end
section
variable {X : Cx} {φ : F0} {κ : Str -> Addr} {K : PySem.W.Frag} {o e a b : Expr} {f fi fe : PSt -> Option D} {g : PSt -> Option (List D)} {pf : PSt -> Option (List Ps1)} {j : Nat} {pos apos : Pos}
theorem yq9 (hb : φ.bor j = false) (ho : PE X o (zk1 X.K κ j pf))
    (hbase : attributeBase o "pop" X.env (eval o X.env) = eval o X.env := by rfl) (hline : (apos.endLine == pos.line) = true := by rfl) : QE X κ φ (.Call (.Attribute o "pop" apos) [] [] pos) (zc0 j pf za2 zy7) := by with_unfolding_all exact L2.yq9 hb ho hbase hline
end
section
variable {X : Cx} {φ : F0} {κ : Str -> Addr} {K : PySem.W.Frag} {o e a b : Expr} {f fi fe : PSt -> Option D} {g : PSt -> Option (List D)} {pf : PSt -> Option (List Ps1)} {j : Nat} {pos apos : Pos}
theorem yg0 {i : Expr} (hb : φ.bor j = false) (he : PE X e (tP X.K κ fe)) (ho : PE X o (zk1 X.K κ j pf)) (hi : PE X i (tV X.K κ fi)) (hs : swapsWithSole [.Subscript o i apos] e pos.line X.env = pure false := by rfl) (hw : swappedStores [.Subscript o i apos] e X.env = pure none := by rfl)
    (h1 : (assignEach [.Subscript o i apos] X.env).map (·.2) = [assign (.Subscript o i apos) X.env] := by rfl)
    (ha : ∀ v, assign (.Subscript o i apos) X.env v = (do
      let ov <- holding [v] (eval o X.env)
      let iv <- holding [v, ov] (eval i X.env)
      standAt apos
      holding [v, ov, iv] (setItem ov iv v)
      release [v, ov, iv] []) := by intro _; rfl) : QS X κ φ (.Assign [.Subscript o i apos] e pos) (zv6 j pf fi fe) := by with_unfolding_all exact L2.yg0 hb he ho hi hs hw h1 ha
end
section
variable {P : Program} {w : World} {K : PySem.W.Frag} {mg : Str -> Option Value} {base : Heap} {κ : Str -> Addr}
theorem yc0 {x qual : Str} {st : Stmt} {f : Addr} {fd : FuncData} {N ps : List Str} {k : Nat} {fb : PSt -> Option (Fl × PSt)} {m : Nat -> Bool} (F : Fun K x qual st f fd) (S : FnScope N ps (za8 st)) (hm : ∀ i, m i = true -> i < ps.length)
    (hbody : ∀ (cdv : Value) (A : Around) (outer : List Env) (s : Shared) (H : Hp) (E : XK), Room k (A.deeper (envOfC qual (za8 st) s.heap.objs.size f cdv)) ->
      QSs (yd4 CX0 P w K mg base N qual (za8 st) f cdv A outer s H E).nox κ (f0E ps.length m) (ze1 st) fb) :
    FnOk P w K mg base CX0 (k + 1) f fd ps (SpE ps.length K κ m (gE ps.length (N.length - ps.length) m fb)) := by with_unfolding_all exact L2.yc0 F S hm hbody
end
section
variable {X : Cx} {φ : F0} {κ : Str -> Addr} {e : Expr} {es : List Expr} {as : List L2.Arg} {f : PSt -> Option D} {pos p : Pos}
theorem zp7 : PA X [] (tIO X.K κ []) := by with_unfolding_all exact L2.zp7
end
section
variable {X : Cx} {φ : F0} {κ : Str -> Addr} {e : Expr} {es : List Expr} {as : List L2.Arg} {f : PSt -> Option D} {pos p : Pos}
theorem zk3 (ha : QV X κ e f) (hr : PA X es (tIO X.K κ as)) (hs : starEach (e :: es) X.env = (false, eval e X.env) :: starEach es X.env := by rfl) : PA X (e :: es) (tIO X.K κ (.im f :: as)) := by with_unfolding_all exact L2.zk3 ha hr hs
end
section
variable {X : Cx} {κ : Str -> Addr} {o e : Expr} {C fn : Str} {fo : PSt -> Option D} {pos : Pos}
theorem zj3 (hc : Cls X.K (κ C)) (hna : ze6 X.K (κ C) fn) (ho : QV X κ o fo) (hb : attributeBase o fn X.env (eval o X.env) = eval o X.env := by rfl) : QV X κ (.Attribute o fn pos) (zf9 C fn fo) := by with_unfolding_all exact L2.zj3 hc hna ho hb
end
section
variable {X : Cx} {κ : Str -> Addr} {φ : F0} {o e : Expr} {C fn : Str} {j : Nat} {pf : PSt -> Option (List Ps1)} {fe : PSt -> Option D} {pos pos' : Pos}
theorem zn2 (hc : Cls X.K (κ C)) (hna : ze6 X.K (κ C) fn) (hb : φ.bor j = false) (he : PE X e (tP X.K κ fe)) (ho : PE X o (zk1 X.K κ j pf)) (hs : swapsWith e (some (.Attribute o fn pos')) pos.line X.env = pure false := by rfl) :
    QS X κ φ (.Assign [.Attribute o fn pos'] e pos) (zf2 j pf C fn fe) := by with_unfolding_all exact L2.zn2 hc hna hb he ho hs
end
section
variable {X : Cx} {κ : Str -> Addr} {o e : Expr} {es : List Expr} {C m qual : Str} {st : Stmt} {ps : List Str} {f : Addr} {fd : FuncData} {k np : Nat} {h : List D -> Option D} {fo : PSt -> Option D} {g : PSt -> Option (List D)} {apos pos p : Pos} {pl : Sem Bool}
theorem yo0 (M : Mn X.K κ C m qual st ps f fd) (G : FnOk X.prog X.w X.K X.mg X.base CX0 k f fd ps (SpP 1 X.K κ h)) (hr : Room k X.A) (ho : QV X κ o fo)
    (ht : eval (.Call (.Attribute o m apos) [] [] pos) X.env = (do
      let ov <- eval o X.env
      standAt apos.atName
      let (f, first) <- holding [ov] (getMethod ov m pl)
      callWith pos f first (backTo pos (starEach [] X.env)) (backToKw pos (keywordEach [] X.env))) := by rfl) :
    QP X κ (.Call (.Attribute o m apos) [] [] pos) (za5 h (za1 (zi9 C m fo) za2)) := by with_unfolding_all exact L2.yo0 M G hr ho ht
end
section
variable {X : Cx} {κ : Str -> Addr} {φ : F0} {o e : Expr} {es : List Expr} {C m qual : Str} {st : Stmt} {ps : List Str} {f : Addr} {fd : FuncData} {k np j : Nat} {mk : Nat -> Bool} {g : List D -> Option (D × List D)} {pf : PSt -> Option (List Ps1)} {as : List L2.Arg} {apos pos p : Pos} {pl : Sem Bool}
theorem zw5 (M : Mn X.K κ C m qual st ps f fd) (G : FnOk X.prog X.w X.K X.mg X.base CX0 k f fd ps (SpE np X.K κ mk g)) (hr : Room k X.A) (hb : φ.bor j = false) (ho : PE X o (zk1 X.K κ j pf)) (ha : PA X (e :: es) (tIO X.K κ as)) (has : ym1 as = true) (hnp : np = as.length + 1) (hm : mk = zt1)
    (hst : starEach (e :: es) X.env = (false, eval e X.env) :: starEach es X.env := by rfl) (hpl : (backTo pos (starEach es X.env)).any (·.1) = false := by rfl)
    (ht : eval (.Call (.Attribute o m apos) (e :: es) [] pos) X.env = (do
      let ov <- eval o X.env
      standAt apos.atName
      let (f, first) <- holding [ov] (getMethod ov m pl)
      callWith pos f first (backTo pos (starEach (e :: es) X.env)) (backToKw pos (keywordEach [] X.env))) := by rfl) :
    QE X κ φ (.Call (.Attribute o m apos) (e :: es) [] pos) (zc0 j pf (zb6 as) (zl3 C m g)) := by with_unfolding_all exact L2.zw5 M G hr hb ho ha has hnp hm hst hpl ht
end
section
variable {X : Cx} {κ : Str -> Addr} {e : Expr} {es : List Expr} {C qual : Str} {st : Stmt} {ps : List Str} {f : Addr} {fd : FuncData} {k np : Nat} {mk : Nat -> Bool} {g : List D -> Option (D × List D)} {as : List L2.Arg} {pos p : Pos}
theorem ya2 (Kd : Kn X.K X.mg κ C qual st ps f fd) (G : FnOk X.prog X.w X.K X.mg X.base CX0 k f fd ps (SpE np X.K κ mk g)) (hr : Room (k + 1) X.A) (hg : Gl X C) (ha : PA X (e :: es) (tIO X.K κ as)) (has : ym1 as = true) (hnp : np = as.length + 1) (hm : mk = zt1)
    (hdb : (C == ("__debug__" : Str)) = false := by decide) (he : starEach (e :: es) X.env = (false, eval e X.env) :: starEach es X.env := by rfl) (hpl : (backTo pos (starEach es X.env)).any (·.1) = false := by rfl) :
    QP X κ (.Call (.Name C p) (e :: es) [] pos) (zg9 C (zb6 as) g) := by with_unfolding_all exact L2.ya2 Kd G hr hg ha has hnp hm hdb he hpl
end
section
variable {X : Cx} {κ : Str -> Addr}
theorem ya7 : MtR X "str.startswith" (PMt X.K κ zt8) := by with_unfolding_all exact L2.ya7
end
section
theorem yi9 {X : Cx} {κ : Str -> Addr} {e : Expr} {f : PSt -> Option D} (h : QP X κ e f) : QP X κ e (zx0 f) := by with_unfolding_all exact L2.yi9 h
end
section
variable {X : Cx} {κ : Str -> Addr}
theorem yv5 : MtR X "str.ljust" (PMt X.K κ zv7) := by with_unfolding_all exact L2.yv5
end
section
variable {X : Cx} {pos : Pos} {body : List Stmt} {f : PSt -> Option (Fl × PSt)}
theorem yv6 {κ : Str -> Addr} {φ : F0} (is : List Nat) (j : Nat) {es : List Expr} {k : Nat} {y : Str} {px py : Pos} (hp : PassesOwn (model X.prog X.w) X.A X.env X.xe) (hc : X.calm = true) (hg : PGs X es (zy1 is)) (hb : ∀ i ∈ is, φ.bor i = false /\ φ.M i = false) (hj : φ.bor j = true)
    (hbd : QSs X κ φ body f) (hn : (assignEach es X.env).length = is.length := by rfl) (hst : (assignEach es X.env).findIdx? (·.1) = none := by rfl) (hNj : X.N[j]? = some y := by rfl) (hv : Vis X.env.scope y := by first | exact Or.inl rfl | exact Or.inr (Or.inl rfl) | exact Or.inr (Or.inr rfl)) (hd : (y == ("__debug__" : Str)) = false := by decide)
    (hcd : (y == ("__classdict__" : Str)) = false := by decide) (hs : ∀ x, foldedSetIterable (.Name y py) X.env x = pure x := by intro _; rfl) :
    QS X κ φ (.For (.Tuple es k px) (.Name y py) body [] pos) (ys7 is (zo0 (za0 j)) f) := by with_unfolding_all exact L2.yv6 is j hp hc hg hb hj hbd hn hst hNj hv hd hcd hs
end
section
variable {X : Cx} {κ : Str -> Addr} {φ : F0} {U : Nat -> Prop} {e o : Expr} {es : List Expr} {f : PSt -> Option D} {g : PSt -> Option (List D × PSt)} {pos apos p1 : Pos} {j : Nat} {pf : PSt -> Option (List Ps1)}
theorem yj0 : PA X [] (zr2 (φ.fx X.K κ) U zt2) := by with_unfolding_all exact L2.yj0
end
section
variable {X : Cx} {κ : Str -> Addr} {φ : F0} {U : Nat -> Prop} {e o : Expr} {es : List Expr} {f : PSt -> Option D} {g : PSt -> Option (List D × PSt)} {pos apos p1 : Pos} {j : Nat} {pf : PSt -> Option (List Ps1)}
theorem ya8 (ha : QV X κ e f) (hr : PA X es (zr2 (φ.fx X.K κ) U g)) (hs : starEach (e :: es) X.env = (false, eval e X.env) :: starEach es X.env := by rfl) : PA X (e :: es) (zr2 (φ.fx X.K κ) U (zm0 f g)) := by with_unfolding_all exact L2.ya8 ha hr hs
end
section
variable {X : Cx} {κ : Str -> Addr} {φ : F0} {U : Nat -> Prop} {e o : Expr} {es : List Expr} {f : PSt -> Option D} {g : PSt -> Option (List D × PSt)} {pos apos p1 : Pos} {j : Nat} {pf : PSt -> Option (List Ps1)}
theorem yr4 (k : Nat) {x : Str} {p0 : Pos} (hb : φ.bor k = false) (hU : ∀ i, U i -> i ≠ k) (hr : PA X es (zr2 (φ.fx X.K κ) U g)) (hN : X.N[k]? = some x := by rfl) (hv : Vis X.env.scope x := by first | exact Or.inl rfl | exact Or.inr (Or.inl rfl) | exact Or.inr (Or.inr rfl)) (hd : (x == ("__debug__" : Str)) = false := by decide)
    (hcd : (x == ("__classdict__" : Str)) = false := by decide) (hbase : attributeBase (.Name x p0) "pop" X.env (eval (.Name x p0) X.env) = eval (.Name x p0) X.env := by rfl) (hline : (apos.endLine == pos.line) = true := by rfl)
    (hs : starEach (.Call (.Attribute (.Name x p0) "pop" apos) [] [] pos :: es) X.env = (false, eval (.Call (.Attribute (.Name x p0) "pop" apos) [] [] pos) X.env) :: starEach es X.env := by rfl) : PA X (.Call (.Attribute (.Name x p0) "pop" apos) [] [] pos :: es) (zr2 (φ.fx X.K κ) U (zz6 k g)) := by with_unfolding_all exact L2.yr4 k hb hU hr hN hv hd hcd hbase hline hs
end
section
variable {X : Cx} {κ : Str -> Addr} {φ : F0} {U : Nat -> Prop} {e o : Expr} {es : List Expr} {f : PSt -> Option D} {g : PSt -> Option (List D × PSt)} {pos apos p1 : Pos} {j : Nat} {pf : PSt -> Option (List Ps1)}
theorem yv7 (k : Nat) {x : Str} (hb : φ.bor k = false) (hM : φ.M k = false) (hU : ∀ i, U i -> i ≠ k) (hr : PA X es (zr2 (φ.fx X.K κ) U g)) (hN : X.N[k]? = some x := by rfl) (hv : Vis X.env.scope x := by first | exact Or.inl rfl | exact Or.inr (Or.inl rfl) | exact Or.inr (Or.inr rfl)) (hd : (x == ("__debug__" : Str)) = false := by decide)
    (hcd : (x == ("__classdict__" : Str)) = false := by decide) (hs : starEach (.Name x pos :: es) X.env = (false, eval (.Name x pos) X.env) :: starEach es X.env := by rfl) : PA X (.Name x pos :: es) (zr2 (φ.fx X.K κ) U (yf1 k g)) := by with_unfolding_all exact L2.yv7 k hb hM hU hr hN hv hd hcd hs
end
section
variable {X : Cx} {κ : Str -> Addr} {φ : F0} {U : Nat -> Prop} {e o : Expr} {es : List Expr} {f : PSt -> Option D} {g : PSt -> Option (List D × PSt)} {pos apos p1 : Pos} {j : Nat} {pf : PSt -> Option (List Ps1)}
theorem zz2 {x : Str} {T : String} {h : List D -> Option D} {fe : PSt -> Option (D × PSt)} {p : Pos} (c : zi0 X (.type T) (PCl X.K κ h)) (hg : Gl X x) (hm : X.mg x = none) (hv : bootBuiltins x = some (.type T)) (he : QE X κ φ e fe) (hn : x ≠ "__name__" := by decide) (hdb : (x == ("__debug__" : Str)) = false := by decide)
    (hs : starEach [e] X.env = (false, eval e X.env) :: starEach [] X.env := by rfl) (hpl : (backTo pos (starEach [] X.env)).any (·.1) = false := by rfl) : QE X κ φ (.Call (.Name x p) [e] [] pos) (yb5 h fe) := by with_unfolding_all exact L2.zz2 c hg hm hv he hn hdb hs hpl
end
section
variable {X : Cx} {κ : Str -> Addr} {φ : F0} {U : Nat -> Prop} {e o : Expr} {es : List Expr} {f : PSt -> Option D} {g : PSt -> Option (List D × PSt)} {pos apos p1 : Pos} {j : Nat} {pf : PSt -> Option (List Ps1)}
theorem yv8 {x1} (h : PA X es (zr2 (φ.fx X.K κ) (fun _ => False) g)) : QE X κ φ (.Tuple es x1 pos) (ys8 g) := by with_unfolding_all exact L2.yv8 h
end
section
variable {X : Cx} {κ : Str -> Addr} {φ : F0} {U : Nat -> Prop} {e o : Expr} {es : List Expr} {f : PSt -> Option D} {g : PSt -> Option (List D × PSt)} {pos apos p1 : Pos} {j : Nat} {pf : PSt -> Option (List Ps1)}
theorem yl5 {x1} (hb : φ.bor j = false) (ho : PE X o (zk1 X.K κ j pf)) (ha : PA X es (zr2 (φ.fx X.K κ) (fun i => i = j) g))
    (hbase : attributeBase o "append" X.env (eval o X.env) = eval o X.env := by rfl)
    (hfew : ((backTo pos (starEach [.Tuple es x1 p1] X.env)).all (fun x => !x.1) && (backToKw pos (keywordEach [] X.env)).all (fun x => x.1.isSome)
      && decide (([.Tuple es x1 p1] : List Expr).length + ([] : List Keyword).length + (if ([] : List Keyword).isEmpty then 0 else 1) < 30)) = true := by rfl)
    (hline : (apos.endLine == pos.line) = true := by rfl) (hs : starEach [.Tuple es x1 p1] X.env = (false, eval (.Tuple es x1 p1) X.env) :: starEach [] X.env := by rfl) (hplain : (backTo pos (starEach [] X.env)).any (·.1) = false := by rfl) :
    QE X κ φ (.Call (.Attribute o "append" apos) [.Tuple es x1 p1] [] pos) (ym2 j pf g) := by with_unfolding_all exact L2.yl5 hb ho ha hbase hfew hline hs hplain
end
end L3
namespace L3
open PySem PySem.Spec PyProof.Rows L2
noncomputable def top (i : Nat) : Stmt := PySem.Challenge.pw_linepress_k10_hangs_and_ends.main.body.getD i (.Pass ⟨0, 0, 0, 0⟩)
end L3
namespace My
open PySem PySem.Spec PyProof.Rows L2 L3
variable {P : Program} {w : World} {K : PySem.W.Frag} {mg : Str -> Option Value} {base : Heap} {κ : Str -> Addr}
inductive Leaf where
  | word (x : Str) | gap (x : Str) | stop (c : Int) | fin
inductive Tk where
  | leaf (l : Leaf) | opn | cls | hng (n : Int) | bck | eit | orr | don
inductive Pc where
  | leaf (l : Leaf) | group (r : List Pc) | hang (n : Int) (r : List Pc) | either (rs : List (List Pc))
mutual
noncomputable def zh5 : Pc -> List Tk
  | .leaf l => [.leaf l]
  | .group r => .opn :: (zd2 r ++ [.cls])
  | .hang n r => .hng n :: (zd2 r ++ [.bck])
  | .either rs => .eit :: (yh3 rs ++ [.don])
noncomputable def zd2 : List Pc -> List Tk
  | [] => []
  | p :: r => zh5 p ++ zd2 r
noncomputable def yh3 : List (List Pc) -> List Tk
  | [] => []
  | r :: rs => zd2 r ++ zg8 rs
noncomputable def zg8 : List (List Pc) -> List Tk
  | [] => []
  | r :: rs => .orr :: (zd2 r ++ zg8 rs)
end
theorem ya9 : ∀ r s : List Pc, zd2 (r ++ s) = zd2 r ++ zd2 s
  | [], s => rfl
  | p :: r, s => by
    show zh5 p ++ zd2 (r ++ s) = (zh5 p ++ zd2 r) ++ zd2 s
    rw [ya9 r s, List.append_assoc]
theorem xr3 (p : Pc) : zd2 [p] = zh5 p := by
  show zh5 p ++ [] = zh5 p
  rw [List.append_nil]
noncomputable def xz1 : List (List Pc) -> List Tk
  | [] => []
  | r :: rs => zd2 r ++ .orr :: xz1 rs
structure Fm where
  op : Option Tk
  full : List (List Pc)
  parts : List Pc
noncomputable def opT : Option Tk -> List Tk
  | none => []
  | some t => [t]
noncomputable def flat : List Fm -> List Tk
  | [] => []
  | f :: fs => flat fs ++ (opT f.op ++ (xz1 f.full ++ zd2 f.parts))
noncomputable def put (f : Fm) (p : Pc) : Fm := { f with parts := f.parts ++ [p] }
noncomputable def step : List Fm -> Tk -> Option (List Fm)
  | f :: fs, .leaf l => some (put f (.leaf l) :: fs)
  | fs, .opn => some (⟨some .opn, [], []⟩ :: fs)
  | fs, .hng n => some (⟨some (.hng n), [], []⟩ :: fs)
  | fs, .eit => some (⟨some .eit, [], []⟩ :: fs)
  | ⟨some .eit, full, parts⟩ :: fs, .orr => some (⟨some .eit, full ++ [parts], []⟩ :: fs)
  | ⟨some .opn, _, parts⟩ :: g :: fs, .cls => some (put g (.group parts) :: fs)
  | ⟨some (.hng n), _, parts⟩ :: g :: fs, .bck => some (put g (.hang n parts) :: fs)
  | ⟨some .eit, full, parts⟩ :: g :: fs, .don => if full = [] then none else some (put g (.either (full ++ [parts])) :: fs)
  | _, _ => none
noncomputable def Fm.ok (f : Fm) : Prop := f.op ≠ some .eit -> f.full = []
noncomputable def run (fs : List Fm) : List Tk -> Option (List Fm)
  | [] => some fs
  | t :: ts => (step fs t).bind fun fs' => run fs' ts
mutual
noncomputable def zr3 : Pc -> Nat
  | .leaf _ => 0
  | .group r => zf6 r + 1
  | .hang _ r => zf6 r + 1
  | .either rs => zr6 rs + 1
noncomputable def zf6 : List Pc -> Nat
  | [] => 0
  | p :: r => max (zr3 p) (zf6 r)
noncomputable def zr6 : List (List Pc) -> Nat
  | [] => 0
  | r :: rs => max (zf6 r) (zr6 rs)
end
theorem yj1 : ∀ (r : List Pc) (p : Pc), zf6 (r ++ [p]) = max (zf6 r) (zr3 p)
  | [], p => by
    exact Nat.max_comm (zr3 p) 0
  | q :: r, p => by
    show max (zr3 q) (zf6 (r ++ [p])) = max (max (zr3 q) (zf6 r)) (zr3 p)
    rw [yj1 r p, Nat.max_assoc]
theorem yg1 : ∀ (rs : List (List Pc)) (r : List Pc), zr6 (rs ++ [r]) = max (zr6 rs) (zf6 r)
  | [], r => by
    exact Nat.max_comm (zf6 r) 0
  | q :: rs, r => by
    show max (zf6 q) (zr6 (rs ++ [r])) = max (max (zf6 q) (zr6 rs)) (zf6 r)
    rw [yg1 rs r, Nat.max_assoc]
noncomputable def xn8 (c : Nat) : Bool := decide (33 <= c) && decide (c <= 126)
noncomputable def xf8 (z : Str) : Prop := 1 <= z.length /\ z.length <= 12 /\ z.cps.toList.all xn8 = true
noncomputable def zp8 : Leaf -> Prop
  | .word x => xf8 x
  | .gap x => x = "" \/ x = " "
  | .stop c => 0 <= c /\ c <= 40
  | .fin => True
end My
namespace My
open PySem PySem.Spec PyProof.Rows L2 L3
variable {P : Program} {w : World} {K : PySem.W.Frag} {mg : Str -> Option Value} {base : Heap} {κ : Str -> Addr}
noncomputable def yk2 (ns : List Int) (k : Int) : Int := ns.getD (k % (ns.length : Int)).toNat 0
noncomputable def ys9 (ns : List Int) (k : Int) : Int := k / (if (ns.length : Int) > 1 then (ns.length : Int) else 1)
noncomputable def wj2 (ns : List Int) (k salt : Int) : Int := PySem.Builtin.bitAnd (yk2 ns k) 2147483647 + 1009 * k * k + 7919 * salt * salt + 12
noncomputable def ym3 (ns : List Int) (k salt : Int) : Int := wj2 ns k salt * 48271 % 2147483647
noncomputable def xz2 (ns : List Int) (k salt : Int) : Int := ym3 ns k salt * ym3 ns k salt % 2147483629
noncomputable def yh4 (ns : List Int) (k salt : Int) : Int := PySem.Builtin.bitAnd (yk2 ns k / 2 ^ (31 * (salt + 128 * ys9 ns k)).toNat + xz2 ns k salt) 2147483647
theorem xg5 (ns : List Int) (k salt : Int) : 0 <= yh4 ns k salt /\ yh4 ns k salt < 2147483648 := by
  have e : yh4 ns k salt = (yk2 ns k / 2 ^ (31 * (salt + 128 * ys9 ns k)).toNat + xz2 ns k salt) % 2147483648 := PySem.W.kbt_mask _ 31
  rw [e]
  exact ⟨Int.emod_nonneg _ (by decide), Int.emod_lt_of_pos _ (by decide)⟩
noncomputable def xt0 (K : PySem.W.Frag) : Sp := fun vs H Q _ => ∃ (a : Addr) (ns : List Int) (k : Int), vs = [.ref a, .int k] /\ SqL K H a (ns.map V.int) /\ Q (.int (yk2 ns k)) H
noncomputable def xi7 (K : PySem.W.Frag) : Sp := fun vs H Q _ => ∃ (a : Addr) (ns : List Int) (k salt : Int), vs = [.ref a, .int k, .int salt] /\ SqL K H a (ns.map V.int) /\ ns.length <= 63 /\ (0 <= k /\ k < 1000000) /\ (0 <= salt /\ salt < 1000000) /\ Q (.int (yh4 ns k salt)) H
noncomputable abbrev zn7 : Stmt := top 18
theorem xd6 : FnScope ["_law_script", "_law_k"] ["_law_script", "_law_k"] (za8 zn7) := ⟨rfl, rfl, rfl, by decide +kernel, rfl, by decide +kernel, by decide +kernel⟩
theorem xd7 {n : Nat} {f : Addr} {fd : FuncData} (D : Dn K mg "_law_cell_at" zn7 ["_law_script", "_law_k"] f fd) (z_len : mg "len" = none) :
    FnOk P w K mg base CX0 (n + 1) f fd ["_law_script", "_law_k"] (xt0 K) := by
  refine D.F.ok xd6 (fun vs H Q E h => ?_) (fun cdv A outer s H vs Q E hr h => ?_)
  . obtain ⟨a, ns, k, rfl, _⟩ := h
    rfl
  obtain ⟨a, ns, k, rfl, hS, q⟩ := h
  refine ⟨_, (zu1 (xy2 (xh1 xj3 (ya4 zp6 rfl z_len boot_len (zk4 (pv 0) zr8)) zo4 (zf8 _)) (yk6 (yi0 zo4)) xg9)
    (yk6 (yi0 (xa6 yu4 (pv 0) (zl2 yp5 (pv 1) (ya4 zp6 rfl z_len boot_len (zk4 (pv 0) zr8))) (fun _ _ => rfl))))), ?_⟩
  have hl : (ns.map V.int).length = ns.length := List.length_map _
  refine ⟨_, rfl, a, _, rfl, .inl hS, rfl, _, rfl, ?_⟩
  refine wm0 (fun c => ?_) (fun c => ?_)
  . have e : (((ns.map V.int).length : Nat) : Int) = 0 := by simpa using c
    have e' : ns = [] := by
      rw [hl] at e
      exact List.eq_nil_of_length_eq_zero (by omega)
    subst e'
    exact q
  . have e : ¬ (((ns.map V.int).length : Nat) : Int) = 0 := by simpa using c
    rw [hl] at e
    have hp : (0 : Int) < ((ns.map V.int).length : Nat) := by rw [hl]; omega
    refine ⟨_, rfl, _, rfl, _, rfl, a, _, rfl, .inl hS, _, _, rfl, rfl, hp, a, _, _, _, rfl, rfl, hS, ?_, q⟩
    rw [hl]
    have h0 := Int.emod_nonneg k e
    have h1 := Int.emod_lt_of_pos k (show (0 : Int) < ns.length by omega)
    have ek : k % (ns.length : Int) = (((k % (ns.length : Int)).toNat : Nat) : Int) := by omega
    rw [ek]
    refine yu3 ?_
    rw [List.getElem?_map, List.getElem?_eq_getElem (by omega)]
    unfold yk2
    rw [List.getD_eq_getElem?_getD, List.getElem?_eq_getElem (by omega)]
    rfl
noncomputable abbrev zo7 : Stmt := top 19
theorem zs8 : FnScope ["_law_script", "_law_k", "_law_salt", "_law_cell", "_law_lap", "_law_near"] ["_law_script", "_law_k", "_law_salt"] (za8 zo7) := ⟨rfl, rfl, rfl, by decide +kernel, rfl, by decide +kernel, by decide +kernel⟩
theorem xl7 {n : Nat} {f f1 : Addr} {fd fd1 : FuncData} (D : Dn K mg "_law_mixed" zo7 ["_law_script", "_law_k", "_law_salt"] f fd) (D_l_cell_at : Dn K mg "_law_cell_at" zn7 ["_law_script", "_law_k"] f1 fd1)
    (G_l_cell_at : FnOk P w K mg base CX0 n f1 fd1 ["_law_script", "_law_k"] (xt0 K)) (z_len : mg "len" = none) (z_max : mg "max" = none) :
    FnOk P w K mg base CX0 (n + 1) f fd ["_law_script", "_law_k", "_law_salt"] (xi7 K) := by
  refine D.F.ok zs8 (fun vs H Q E h => ?_) (fun cdv A outer s H vs Q E hr h => ?_)
  . obtain ⟨a, ns, k, salt, rfl, _⟩ := h
    rfl
  obtain ⟨a, ns, k, salt, rfl, hS, h63, ⟨hk0, hk1⟩, ⟨hs0, hs1⟩, q⟩ := h
  refine ⟨_, (zu1 (yd8 (i := 3) zs8.nd rfl (by first | exact Or.inl rfl | exact Or.inr rfl) (xy3 D_l_cell_at G_l_cell_at hr rfl (zk4 (pv 0) (zk4 (pv 1) zr8))))
    (zu1 (yd8 (i := 4) zs8.nd rfl (by first | exact Or.inl rfl | exact Or.inr rfl) (zl2 xh0 (pv 1) (ya4 (xo7 rfl) rfl z_max boot_max (zk4 zo4 (zk4 (ya4 zp6 rfl z_len boot_len (zk4 (pv 0) zr8)) zr8)))))
    (zu1 (yd8 (i := 5) zs8.nd rfl (by first | exact Or.inl rfl | exact Or.inr rfl) (zl2 yd9 (zl2 yd9 (zl2 yd9 (zl2 xo6 (pv 3) zo4) (zl2 zu8 (zl2 zu8 zo4 (pv 1)) (pv 1))) (zl2 zu8 (zl2 zu8 zo4 (pv 2)) (pv 2))) zo4))
    (zu1 (yd8 (i := 5) zs8.nd rfl (by first | exact Or.inl rfl | exact Or.inr rfl) (zl2 yp5 (zl2 zu8 (pv 5) zo4) zo4))
    (zu1 (yd8 (i := 5) zs8.nd rfl (by first | exact Or.inl rfl | exact Or.inr rfl) (zl2 yp5 (zl2 zu8 (pv 5) (pv 5)) zo4))
    (yk6 (yi0 (zl2 xo6 (zl2 yd9 (zl2 wf4 (pv 3) (zl2 zu8 zo4 (zl2 yd9 (pv 2) (zl2 zu8 zo4 (pv 4))))) (pv 5)) zo4)))))))), ?_⟩
  have hl : (ns.map V.int).length = ns.length := List.length_map _
  have hlap : 0 <= ys9 ns k := by unfold ys9; exact Int.ediv_nonneg hk0 (by split <;> omega)
  have hn1 : 0 <= ym3 ns k salt /\ ym3 ns k salt < 2147483647 := ⟨Int.emod_nonneg _ (by decide), Int.emod_lt_of_pos _ (by decide)⟩
  refine ⟨_, rfl, _, rfl, a, ns, k, rfl, hS, ?_⟩
  refine ⟨_, rfl, _, rfl, a, _, rfl, .inl hS, _, _, rfl, _, _, rfl, rfl, ?_, ?_⟩
  . rw [hl]; constructor
    . split <;> omega
    . split <;> omega
  rw [hl]
  refine ⟨_, rfl, _, _, rfl, rfl, _, rfl, _, _, rfl, rfl, .inl ⟨by decide, by decide⟩, _, rfl, _, _, rfl, rfl, .inr ⟨by omega, by omega⟩, _, _, rfl, rfl, _, rfl, _, _, rfl, rfl, .inl ⟨by decide, by decide⟩, _, rfl, _, _, rfl, rfl, .inr ⟨by omega, by omega⟩, _, _, rfl, rfl, _, _, rfl, rfl, ?_⟩
  refine ⟨_, rfl, _, _, rfl, rfl, .inr ⟨by decide, by decide⟩, _, _, rfl, rfl, (by show (0 : Int) < 2147483647; decide), ?_⟩
  refine ⟨_, rfl, _, rfl, _, _, rfl, rfl, .inl ⟨by show -(2 ^ 64) < ym3 ns k salt; omega, by show ym3 ns k salt < 2 ^ 64; omega⟩, _, _, rfl, rfl, (by show (0 : Int) < 2147483629; decide), ?_⟩
  refine ⟨_, rfl, _, rfl, _, rfl, _, _, rfl, rfl, .inl ⟨by decide, by decide⟩, _, _, rfl, rfl, _, _, rfl, rfl, .inl ⟨by decide, by decide⟩, _, _, rfl, rfl, ?_, _, rfl, _, _, rfl, rfl, _, _, rfl, rfl, q⟩
  show 0 <= 31 * (salt + 128 * ys9 ns k)
  omega
end My
namespace L3
open PySem PySem.Spec PyProof.Rows L2 My
variable {P : Program} {w : World} {K : PySem.W.Frag} {mg : Str -> Option Value} {base : Heap} {κ : Str -> Addr}
noncomputable def yb6 (g_Place_init : (List D -> Option (D × List D))) : PSt -> Option (Fl × PSt) :=
  (ze4 (za4 (zx0 (zg9 "Place" (zb6 [.im (fC (.bl true)), .im (fC (.int 0))]) g_Place_init))))
noncomputable abbrev zj2 : Stmt := top 6
theorem yo1 : FnScope [] [] (za8 zj2) := ⟨rfl, rfl, rfl, by decide +kernel, rfl, by decide +kernel, by decide +kernel⟩
theorem yo2 {n : Nat} {f : Addr} {fd : FuncData} {g_Place_init : (List D -> Option (D × List D))} {f_Place_init : Addr} {fd_Place_init : FuncData} (D_p_first_place : Dn K mg "first_place" zj2 [] f fd)
    (K_Place : Kn K mg κ "Place" "Place.__init__" zj9 ["self", "broken", "margin"] f_Place_init fd_Place_init) (G_Place_init : FnOk P w K mg base CX0 n f_Place_init fd_Place_init ["self", "broken", "margin"] (SpE 3 K κ (zd9 [true, false, false]) g_Place_init)) :
    FnOk P w K mg base CX0 ((n + 1) + 1) f fd [] (SpP 0 K κ (gP 0 0 (yb6 g_Place_init))) :=
  zj8 D_p_first_place.F yo1 fun cdv A outer s H E B hr =>
  (zc1 (zg2 (QP.e (yi9 (ya2 K_Place G_Place_init hr rfl (zk3 (QP.v xa7) (zk3 (QP.v zb1) zp7)) rfl rfl (zm8 2))))))
noncomputable def yc6  : PSt -> Option (Fl × PSt) :=
  (ze4 (za4 (f2 dIn (f2 dIx (za0 0) (fC (.int 0))) (fC (.tup [(.str "group"), (.str "hang"), (.str "either")])))))
noncomputable abbrev zj7 : Stmt := top 7
theorem yr5 : FnScope ["piece"] ["piece"] (za8 zj7) := ⟨rfl, rfl, rfl, by decide +kernel, rfl, by decide +kernel, by decide +kernel⟩
theorem yr6 {n : Nat} {f : Addr} {fd : FuncData} {a_HOLDERS : Addr} (D_p_holds_rows : Dn K mg "holds_rows" zj7 ["piece"] f fd)
    (g_HOLDERS : mg "HOLDERS" = some (.ref a_HOLDERS)) (k_HOLDERS : ∀ H, Rep K κ H (.ref a_HOLDERS) (.tup [(.str "group"), (.str "hang"), (.str "either")]) []) :
    FnOk P w K mg base CX0 (n + 1) f fd ["piece"] (SpP 1 K κ (gP 1 0 (yc6 ))) :=
  zj8 D_p_holds_rows.F yr5 fun cdv A outer s H E B hr =>
  (zc1 (zg2 (QP.e (ye0 xv2 (zg1 (za3 0) (QP.v zb1)) (QP.v (yu6 (v := .ref a_HOLDERS) (d := (.tup [(.str "group"), (.str "hang"), (.str "either")])) rfl g_HOLDERS rfl k_HOLDERS)) (by with_unfolding_all rfl)))))
noncomputable def zy9  : PSt -> Option (Fl × PSt) :=
  (ze4 (za4 (fOr (f2 dEq (f2 dIx (za0 0) (fC (.int 0))) (fC (.str "either"))) (zy6 (f2 dEq (f2 dIx (za0 0) (fC (.int 0))) (fC (.str "group"))) (za9 (zf9 "Place" "broken" (za0 1)))))))
noncomputable abbrev zi6 : Stmt := top 8
theorem ym7 : FnScope ["piece", "place"] ["piece", "place"] (za8 zi6) := ⟨rfl, rfl, rfl, by decide +kernel, rfl, by decide +kernel, by decide +kernel⟩
theorem ym8 {n : Nat} {f : Addr} {fd : FuncData}  (D_p_takes_choice : Dn K mg "takes_choice" zi6 ["piece", "place"] f fd)
    (cl_Place : Cls K (κ "Place"))
    (na_broken : ze6 K (κ "Place") "broken") :
    FnOk P w K mg base CX0 (n + 1) f fd ["piece", "place"] (SpP 2 K κ (gP 2 0 (zy9 ))) :=
  zj8 D_p_takes_choice.F ym7 fun cdv A outer s H E B hr =>
  (zc1 (zg2 (QP.e (xk8 (ye0 (zq8 (Room.units hr)) (zg1 (za3 0) (QP.v zb1)) (QP.v zf7) (zf8 _)) (yi4 (yq4 (ye0 (zq8 (Room.units hr)) (zg1 (za3 0) (QP.v zb1)) (QP.v zf7) (zf8 _)) (yi4 (QV.p (zj3 (C := "Place") cl_Place na_broken (za3 1))))))))))
noncomputable def zs6 (g_Place_init : (List D -> Option (D × List D))) : PSt -> Option (Fl × PSt) :=
  (zb8 (zd1 2 (za4 (za9 (f2 dIx (za0 0) (fC (.int 0))))))
  (zb8 (fIf (za6 (fB (f2 dEq (za0 2) (fC (.str "hang")))))
   (ze4 (za4 (zi4 (za1 (zi5 (za1 (za9 (f2 dIx (za0 0) (fC (.int 2)))) (za1 (zx0 (zg9 "Place" (zb6 [.im (zf9 "Place" "broken" (za0 1)), .im (f2 zh2 (zf9 "Place" "margin" (za0 1)) (f2 dIx (za0 0) (fC (.int 1))))]) g_Place_init)) za2))) za2))))
   zd7)
  (zb8 (fIf (za6 (fB (f2 dEq (za0 2) (fC (.str "either")))))
   (ze4 (za4 (ys6 [none, some 1] (zo0 (f2 dIx (za0 0) (fC (.int 1)))) yp3 (zi5 (za1 (za9 (za0 0)) (za1 (za9 (za0 1)) za2))))))
   zd7)
  (zb8 (zd1 3 (za4 (zi5 (za1 (za9 (f2 dIx (za0 0) (fC (.int 1)))) (za1 (zx0 (zg9 "Place" (zb6 [.im (fC (.bl false)), .im (zf9 "Place" "margin" (za0 1))]) g_Place_init)) za2)))))
  (zb8 (fIf (za6 (fT (zf9 "Place" "broken" (za0 1))))
   (ze4 (za4 (zi4 (za1 (za9 (za0 3)) (za1 (zi5 (za1 (za9 (f2 dIx (za0 0) (fC (.int 1)))) (za1 (za9 (za0 1)) za2))) za2)))))
   zd7)
  (ze4 (za4 (zi4 (za1 (za9 (za0 3)) za2)))))))))
noncomputable abbrev zq0 : Stmt := top 9
theorem yj2 : FnScope ["piece", "place", "kind", "on_one_line"] ["piece", "place"] (za8 zq0) := ⟨rfl, rfl, rfl, by decide +kernel, rfl, by decide +kernel, by decide +kernel⟩
theorem xr4 {n : Nat} {f : Addr} {fd : FuncData} {g_Place_init : (List D -> Option (D × List D))} {f_Place_init : Addr} {fd_Place_init : FuncData} (D_p_ways : Dn K mg "ways" zq0 ["piece", "place"] f fd)
    (K_Place : Kn K mg κ "Place" "Place.__init__" zj9 ["self", "broken", "margin"] f_Place_init fd_Place_init) (G_Place_init : FnOk P w K mg base CX0 n f_Place_init fd_Place_init ["self", "broken", "margin"] (SpE 3 K κ (zd9 [true, false, false]) g_Place_init))
    (cl_Place : Cls K (κ "Place"))
    (na_broken : ze6 K (κ "Place") "broken")
    (na_margin : ze6 K (κ "Place") "margin") :
    FnOk P w K mg base CX0 ((n + 1) + 1) f fd ["piece", "place"] (SpP 2 K κ (gP 2 2 (zs6 g_Place_init))) :=
  zj8 D_p_ways.F yj2 fun cdv A outer s H E B hr =>
  (zb2 (zh9 2 yj2.nd rfl (by first | exact Or.inl rfl | exact Or.inr rfl) rfl rfl (QP.e (QV.p (zg1 (za3 0) (QP.v zb1)))))
  (zb2 (zi7 (QT.e (zg4 (zq8 (Room.units hr)) (za3 2) (QP.v zf7) (zf8 _)))
   (zc1 (zg2 (QP.e (zn3 (zc8 (zq7 (zc8 (QV.p (zg1 (za3 0) (QP.v zb1))) (zc8 (yi9 (ya2 K_Place G_Place_init hr rfl (zk3 (zj3 (C := "Place") cl_Place na_broken (za3 1)) (zk3 (QP.v (zg3 zx3 (zj3 (C := "Place") cl_Place na_margin (za3 1)) (zg1 (za3 0) (QP.v zb1)))) zp7)) rfl rfl (zm8 2))) ze7))) ze7)))))
   zg6)
  (zb2 (zi7 (QT.e (zg4 (zq8 (Room.units hr)) (za3 2) (QP.v zf7) (zf8 _)))
   (zc1 (zg2 (QP.e (yv3 (sc := za8 zq0) (NX := ["piece", "place", "kind", "on_one_line"]) (N := ["row", "place"]) (pick := [none, some 1]) ⟨rfl, by decide +kernel, by decide +kernel, by decide +kernel, by decide +kernel, by decide, rfl⟩ rfl rfl rfl (xc7 (zg1 (za3 0) (QP.v zb1))) (fun _ _ _ _ => (zw2 (i := 0) (show (["row", "place"] : List Str).Nodup by decide) rfl (by first | exact Or.inl rfl | exact Or.inr rfl))) (fun _ _ _ _ => yv2) (fun _ _ _ _ => (zq7 (zc8 (QV.p (za3 0)) (zc8 (QV.p (za3 1)) ze7))))))))
   zg6)
  (zb2 (zh9 3 yj2.nd rfl (by first | exact Or.inl rfl | exact Or.inr rfl) rfl rfl (QP.e (zq7 (zc8 (QV.p (zg1 (za3 0) (QP.v zb1))) (zc8 (yi9 (ya2 K_Place G_Place_init hr rfl (zk3 (QP.v xa7) (zk3 (zj3 (C := "Place") cl_Place na_margin (za3 1)) zp7)) rfl rfl (zm8 2))) ze7)))))
  (zb2 (zi7 (QT.e (zx7 (zj3 (C := "Place") cl_Place na_broken (za3 1))))
   (zc1 (zg2 (QP.e (zn3 (zc8 (QV.p (za3 3)) (zc8 (zq7 (zc8 (QV.p (zg1 (za3 0) (QP.v zb1))) (zc8 (QV.p (za3 1)) ze7))) ze7))))))
   zg6)
  (zc1 (zg2 (QP.e (zn3 (zc8 (QV.p (za3 3)) ze7))))))))))
noncomputable def yh7  : PSt -> Option (Fl × PSt) :=
  (ze4 (za4 (f2 zh2 (fC (.str "\n")) (f2 yd5 (fC (.str " ")) (za0 0)))))
noncomputable abbrev zm4 : Stmt := top 10
theorem xa2 : FnScope ["blanks"] ["blanks"] (za8 zm4) := ⟨rfl, rfl, rfl, by decide +kernel, rfl, by decide +kernel, by decide +kernel⟩
theorem xa3 {n : Nat} {f : Addr} {fd : FuncData}  (D_p_new_line : Dn K mg "new_line" zm4 ["blanks"] f fd)
     :
    FnOk P w K mg base CX0 (n + 1) f fd ["blanks"] (SpP 1 K κ (gP 1 0 (yh7 ))) :=
  zj8 D_p_new_line.F xa2 fun cdv A outer s H E B hr =>
  (zc1 (zg2 (QP.e (zg3 zx3 (QP.v zf7) (QP.v (zg3 yq6 (QP.v zf7) (za3 0)))))))
noncomputable def zv8 (g_p_new_line : (List D -> Option D)) : PSt -> Option (Fl × PSt) :=
  (zb8 (zd1 3 (za4 (za9 (f2 dIx (za0 0) (fC (.int 0))))))
  (zb8 (fIf (za6 (fB (f2 dEq (za0 3) (fC (.str "word")))))
   (ze4 (za4 (za9 (f2 dIx (za0 0) (fC (.int 1))))))
   zd7)
  (zb8 (fIf (za6 (zl9 (fB (f2 dEq (za0 3) (fC (.str "gap")))) (zu0 (fT (zf9 "Place" "broken" (za0 1))))))
   (ze4 (za4 (za9 (f2 dIx (za0 0) (fC (.int 1))))))
   zd7)
  (zb8 (fIf (za6 (zl9 (fB (f2 dEq (za0 3) (fC (.str "stop")))) (fB (f2 dLe (za0 2) (f2 dIx (za0 0) (fC (.int 1)))))))
   (ze4 (za4 (f2 yd5 (fC (.str " ")) (f2 zl6 (f2 dIx (za0 0) (fC (.int 1))) (za0 2)))))
   zd7)
  (zb8 (fIf (za6 (zu0 (fT (zf9 "Place" "broken" (za0 1)))))
   (ze4 (za4 (fC .non)))
   zd7)
  (zb8 (fIf (za6 (fB (f2 dEq (za0 3) (fC (.str "stop")))))
   (ze4 (za4 (za5 g_p_new_line (za1 (f2 dIx (za0 0) (fC (.int 1))) za2))))
   zd7)
  (ze4 (za4 (za5 g_p_new_line (za1 (zf9 "Place" "margin" (za0 1)) za2))))))))))
noncomputable abbrev zn8 : Stmt := top 11
theorem yj3 : FnScope ["piece", "place", "column", "kind"] ["piece", "place", "column"] (za8 zn8) := ⟨rfl, rfl, rfl, by decide +kernel, rfl, by decide +kernel, by decide +kernel⟩
theorem xd8 {n : Nat} {f : Addr} {fd : FuncData} {g_p_new_line : (List D -> Option D)} {f_p_new_line : Addr} {fd_p_new_line : FuncData} (D_p_writing : Dn K mg "writing" zn8 ["piece", "place", "column"] f fd)
    (D_p_new_line : Dn K mg "new_line" zm4 ["blanks"] f_p_new_line fd_p_new_line) (G_p_new_line : FnOk P w K mg base CX0 n f_p_new_line fd_p_new_line ["blanks"] (SpP 1 K κ g_p_new_line))
    (cl_Place : Cls K (κ "Place"))
    (na_broken : ze6 K (κ "Place") "broken")
    (na_margin : ze6 K (κ "Place") "margin") :
    FnOk P w K mg base CX0 (n + 1) f fd ["piece", "place", "column"] (SpP 3 K κ (gP 3 1 (zv8 g_p_new_line))) :=
  zj8 D_p_writing.F yj3 fun cdv A outer s H E B hr =>
  (zb2 (zh9 3 yj3.nd rfl (by first | exact Or.inl rfl | exact Or.inr rfl) rfl rfl (QP.e (QV.p (zg1 (za3 0) (QP.v zb1)))))
  (zb2 (zi7 (QT.e (zg4 (zq8 (Room.units hr)) (za3 3) (QP.v zf7) (zf8 _)))
   (zc1 (zg2 (QP.e (QV.p (zg1 (za3 0) (QP.v zb1))))))
   zg6)
  (zb2 (zi7 (QT.e (yi3 (ye1 (zg4 (zq8 (Room.units hr)) (za3 3) (QP.v zf7) (zf8 _)) (ya1 (yq3 (zx7 (zj3 (C := "Place") cl_Place na_broken (za3 1))))))))
   (zc1 (zg2 (QP.e (QV.p (zg1 (za3 0) (QP.v zb1))))))
   zg6)
  (zb2 (zi7 (QT.e (yi3 (ye1 (zg4 (zq8 (Room.units hr)) (za3 3) (QP.v zf7) (zf8 _)) (ya1 (zg4 xu9 (za3 2) (zg1 (za3 0) (QP.v zb1)) (zf8 _))))))
   (zc1 (zg2 (QP.e (zg3 yq6 (QP.v zf7) (QP.v (zg3 yq5 (zg1 (za3 0) (QP.v zb1)) (za3 2)))))))
   zg6)
  (zb2 (zi7 (QT.e (yq3 (zx7 (zj3 (C := "Place") cl_Place na_broken (za3 1)))))
   (zc1 (zg2 (QP.e yq1)))
   zg6)
  (zb2 (zi7 (QT.e (zg4 (zq8 (Room.units hr)) (za3 3) (QP.v zf7) (zf8 _)))
   (zc1 (zg2 (QP.e (zp4 D_p_new_line G_p_new_line hr rfl rfl (zc2 (zg1 (za3 0) (QP.v zb1)) ze3) (zf4 zl8)))))
   zg6)
  (zc1 (zg2 (QP.e (zp4 D_p_new_line G_p_new_line hr rfl rfl (zc2 (zj3 (C := "Place") cl_Place na_margin (za3 1)) ze3) (zf4 zl8)))))))))))
noncomputable def zx1  : PSt -> Option (Fl × PSt) :=
  (ze4 (za4 (fMt zt8 (za0 0) (za1 (fC (.str "\n")) za2))))
noncomputable abbrev zk9 : Stmt := top 12
theorem yv9 : FnScope ["wrote"] ["wrote"] (za8 zk9) := ⟨rfl, rfl, rfl, by decide +kernel, rfl, by decide +kernel, by decide +kernel⟩
theorem yw0 {n : Nat} {f : Addr} {fd : FuncData}  (D_p_ends_line : Dn K mg "ends_line" zk9 ["wrote"] f fd)
     :
    FnOk P w K mg base CX0 (n + 1) f fd ["wrote"] (SpP 1 K κ (gP 1 0 (zx1 ))) :=
  zj8 D_p_ends_line.F yv9 fun cdv A outer s H E B hr =>
  (zc1 (zg2 (QP.e (yl2 PySem.F.slot_str_startswith PySem.F.type_str_startswith ya7 (za3 0) (zc2 (QP.v zf7) ze3)))))
noncomputable def zl7 (g_p_ends_line : (List D -> Option D)) : PSt -> Option (Fl × PSt) :=
  (zb8 (fIf (za6 (fT (za5 g_p_ends_line (za1 (za0 1) za2))))
   (ze4 (za4 (f2 zl6 (za5 zh0 (za1 (za0 1) za2)) (fC (.int 1)))))
   zd7)
  (ze4 (za4 (f2 zh2 (za0 0) (za5 zh0 (za1 (za0 1) za2))))))
noncomputable abbrev zi2 : Stmt := top 13
theorem yj4 : FnScope ["column", "wrote"] ["column", "wrote"] (za8 zi2) := ⟨rfl, rfl, rfl, by decide +kernel, rfl, by decide +kernel, by decide +kernel⟩
theorem yj5 {n : Nat} {f : Addr} {fd : FuncData} {g_p_ends_line : (List D -> Option D)} {f_p_ends_line : Addr} {fd_p_ends_line : FuncData} (D_p_column_behind : Dn K mg "column_behind" zi2 ["column", "wrote"] f fd)
    (D_p_ends_line : Dn K mg "ends_line" zk9 ["wrote"] f_p_ends_line fd_p_ends_line) (G_p_ends_line : FnOk P w K mg base CX0 n f_p_ends_line fd_p_ends_line ["wrote"] (SpP 1 K κ g_p_ends_line))
    (z_len : mg "len" = none) :
    FnOk P w K mg base CX0 (n + 1) f fd ["column", "wrote"] (SpP 2 K κ (gP 2 0 (zl7 g_p_ends_line))) :=
  zj8 D_p_column_behind.F yj4 fun cdv A outer s H E B hr =>
  (zb2 (zi7 (QT.e (zx7 (QP.v (zp4 D_p_ends_line G_p_ends_line hr rfl rfl (zc2 (za3 1) ze3) (zf4 zl8)))))
   (zc1 (zg2 (QP.e (zg3 yq5 (QP.v (zk5 zv0 rfl z_len boot_len (zc2 (za3 1) ze3))) (QP.v zb1)))))
   zg6)
  (zc1 (zg2 (QP.e (zg3 zx3 (za3 0) (QP.v (zk5 zv0 rfl z_len boot_len (zc2 (za3 1) ze3))))))))
noncomputable def yd7 (g_Setter_init : (List D -> Option (D × List D))) (g_Setter_set_row : (List D -> Option (D × List D))) (g_p_first_place : (List D -> Option D)) (g_Setter_whole_text : (List D -> Option D)) : PSt -> Option (Fl × PSt) :=
  (zb8 (zd1 2 (za4 (zg9 "Setter" (zb6 [.im (za0 1)]) g_Setter_init)))
  (zb8 (zb4 (zc0 2 zb0 (zb6 [.im (za0 0), .im (za5 g_p_first_place za2)]) (zl3 "Setter" "set_row" g_Setter_set_row)))
  (ze4 (za4 (za5 g_Setter_whole_text (za1 (zi9 "Setter" "whole_text" (za0 2)) za2))))))
noncomputable abbrev zp1 : Stmt := top 16
theorem yn2 : FnScope ["row", "choices", "setter"] ["row", "choices"] (za8 zp1) := ⟨rfl, rfl, rfl, by decide +kernel, rfl, by decide +kernel, by decide +kernel⟩
theorem xg6 {n : Nat} {f : Addr} {fd : FuncData} {g_Setter_init : (List D -> Option (D × List D))} {f_Setter_init : Addr} {fd_Setter_init : FuncData} {g_Setter_set_row : (List D -> Option (D × List D))} {f_Setter_set_row : Addr} {fd_Setter_set_row : FuncData} {g_p_first_place : (List D -> Option D)} {f_p_first_place : Addr} {fd_p_first_place : FuncData} {g_Setter_whole_text : (List D -> Option D)} {f_Setter_whole_text : Addr} {fd_Setter_whole_text : FuncData} (D_p_set_by : Dn K mg "set_by" zp1 ["row", "choices"] f fd)
    (K_Setter : Kn K mg κ "Setter" "Setter.__init__" zl0 ["self", "choices"] f_Setter_init fd_Setter_init) (G_Setter_init : FnOk P w K mg base CX0 n f_Setter_init fd_Setter_init ["self", "choices"] (SpE 2 K κ (zd9 [true, false]) g_Setter_init))
    (M_Setter_set_row : Mn K κ "Setter" "set_row" "Setter.set_row" zh7 ["self", "row", "place"] f_Setter_set_row fd_Setter_set_row) (G_Setter_set_row : FnOk P w K mg base CX0 (n + 1) f_Setter_set_row fd_Setter_set_row ["self", "row", "place"] (SpE 3 K κ (zd9 [true, false, false]) g_Setter_set_row))
    (D_p_first_place : Dn K mg "first_place" zj2 [] f_p_first_place fd_p_first_place) (G_p_first_place : FnOk P w K mg base CX0 (n + 1) f_p_first_place fd_p_first_place [] (SpP 0 K κ g_p_first_place))
    (M_Setter_whole_text : Mn K κ "Setter" "whole_text" "Setter.whole_text" zh4 ["self"] f_Setter_whole_text fd_Setter_whole_text) (G_Setter_whole_text : FnOk P w K mg base CX0 (n + 1) f_Setter_whole_text fd_Setter_whole_text ["self"] (SpP 1 K κ g_Setter_whole_text)) :
    FnOk P w K mg base CX0 ((n + 1) + 1) f fd ["row", "choices"] (SpP 2 K κ (gP 2 1 (yd7 g_Setter_init g_Setter_set_row g_p_first_place g_Setter_whole_text))) :=
  zj8 D_p_set_by.F yn2 fun cdv A outer s H E B hr =>
  (zb2 (zh9 2 yn2.nd rfl (by first | exact Or.inl rfl | exact Or.inr rfl) rfl rfl (QP.e (ya2 K_Setter G_Setter_init hr rfl (zk3 (za3 1) zp7) rfl rfl (zm8 1))))
  (zb2 (zk6 (zw5 M_Setter_set_row G_Setter_set_row hr rfl (zd3 2) (zk3 (za3 0) (zk3 (QP.v (xd0 D_p_first_place G_p_first_place hr rfl)) zp7)) rfl rfl (zm8 2)))
  (zc1 (zg2 (QP.e (yo0 M_Setter_whole_text G_Setter_whole_text hr (za3 2)))))))
noncomputable def zt3  : PSt -> Option (Fl × PSt) :=
  (zb8 (zd1 1 (za4 (f2 zm2 (za0 0) (fC (.int 7)))))
  (zb8 (fIf (za6 (fB (f2 dLt (za0 1) (fC (.int 3)))))
   (ze4 (za4 (zi5 (za1 (fC (.str "word")) (za1 (fSl (fSl (fC (.str "Line-press+12")) (ys3 (f2 zm2 (f2 zr1 (za0 0) (fC (.int 7))) (fC (.int 12)))) ye9) ye9 (ys3 (f2 zh2 (fC (.int 1)) (f2 zm2 (f2 zr1 (za0 0) (fC (.int 84))) (fC (.int 12)))))) za2)))))
   zd7)
  (zb8 (fIf (za6 (fB (f2 dLt (za0 1) (fC (.int 5)))))
   (ze4 (za4 (zi5 (za1 (fC (.str "gap")) (za1 (f2 dIx (zi4 (za1 (fC (.str "")) (za1 (fC (.str " ")) za2))) (f2 zl6 (za0 1) (fC (.int 3)))) za2)))))
   zd7)
  (zb8 (fIf (za6 (fB (f2 dEq (za0 1) (fC (.int 5)))))
   (ze4 (za4 (zi5 (za1 (fC (.str "end")) za2))))
   zd7)
  (ze4 (za4 (zi5 (za1 (fC (.str "stop")) (za1 (f2 zm2 (f2 zr1 (za0 0) (fC (.int 7))) (fC (.int 41))) za2)))))))))
noncomputable abbrev zq4 : Stmt := top 20
theorem yr7 : FnScope ["_law_number", "_law_way"] ["_law_number"] (za8 zq4) := ⟨rfl, rfl, rfl, by decide +kernel, rfl, by decide +kernel, by decide +kernel⟩
theorem xl8 {n : Nat} {f : Addr} {fd : FuncData}  (D_l_piece : Dn K mg "_law_piece" zq4 ["_law_number"] f fd)
     :
    FnOk P w K mg base CX0 (n + 1) f fd ["_law_number"] (SpP 1 K κ (gP 1 1 (zt3 ))) :=
  zj8 D_l_piece.F yr7 fun cdv A outer s H E B hr =>
  (zb2 (zh9 1 yr7.nd rfl (by first | exact Or.inl rfl | exact Or.inr rfl) rfl rfl (QP.e (zg3 zt9 (za3 0) (QP.v zb1))))
  (zb2 (zi7 (QT.e (zg4 (yn6 (Room.units0 hr)) (za3 1) (QP.v zb1) (zf8 _)))
   (zc1 (zg2 (QP.e (zq7 (zc8 zf7 (zc8 (yf6 (QP.v (yf6 (QP.v zf7) (yl1 (QP.v (zg3 zt9 (QP.v (zg3 zz1 (za3 0) (QP.v zb1))) (QP.v zb1)))) yl0)) yl0 (yl1 (QP.v (zg3 zx3 (QP.v zb1) (QP.v (zg3 zt9 (QP.v (zg3 zz1 (za3 0) (QP.v zb1))) (QP.v zb1))))))) ze7))))))
   zg6)
  (zb2 (zi7 (QT.e (zg4 (yn6 (Room.units0 hr)) (za3 1) (QP.v zb1) (zf8 _)))
   (zc1 (zg2 (QP.e (zq7 (zc8 zf7 (zc8 (yq7 (zn3 (zc8 zf7 (zc8 zf7 ze7))) (QP.v (zg3 yq5 (za3 1) (QP.v zb1)))) ze7))))))
   zg6)
  (zb2 (zi7 (QT.e (zg4 (zq8 (Room.units hr)) (za3 1) (QP.v zb1) (zf8 _)))
   (zc1 (zg2 (QP.e (zq7 (zc8 zf7 ze7)))))
   zg6)
  (zc1 (zg2 (QP.e (zq7 (zc8 zf7 (zc8 (zg3 zt9 (QP.v (zg3 zz1 (za3 0) (QP.v zb1))) (QP.v zb1)) ze7))))))))))
noncomputable def yt0 (g_l_mixed : (List D -> Option D)) (g_l_piece : (List D -> Option D)) : PSt -> Option (Fl × PSt) :=
  (zb8 (zd1 3 (za4 (zi4 (za1 (zi4 za2) za2))))
  (zb8 (zd1 4 (za4 (zi4 za2)))
  (zb8 (zd1 5 (za4 (zi4 za2)))
  (zb8 (yk0 6 (ys5 (za1 (za0 1) za2))
   (zb8 (zd1 7 (za4 (za5 g_l_mixed (za1 (za0 0) (za1 (f2 zh2 (fC (.int 2)) (za0 6)) (za1 (fC (.int 2)) za2))))))
  (fIf (za6 (zl9 (fB (f2 dEq (f2 zm2 (za0 7) (fC (.int 4))) (fC (.int 0)))) (fB (f2 dLt (za5 zh0 (za1 (za0 4) za2)) (za0 2)))))
   (zb8 (zb4 (zc0 4 zb0 (za1 (f2 dIx (zi4 (za1 (f2 zm2 (f2 zr1 (za0 7) (fC (.int 4))) (fC (.int 13))) (za1 (fC (.int 1)) (za1 (fC (.int 2)) (za1 (fC (.int 4)) za2))))) (f2 zm2 (f2 zr1 (za0 7) (fC (.int 52))) (fC (.int 4)))) za2) zc5))
  (zb4 (zc0 3 zb0 (za1 (zi4 za2) za2) zc5)))
   (fIf (za6 (zl9 (fB (f2 dEq (f2 zm2 (za0 7) (fC (.int 4))) (fC (.int 1)))) (fB (f2 dGt (za5 zh0 (za1 (za0 4) za2)) (fC (.int 0))))))
   (zb8 (zd1 8 (yb5 zs2 (zc0 3 zb0 za2 zy7)))
  (zb4 (ym2 3 (zs4 3 zb0 (zo2 (fC (.int 1)))) (zm0 (fC (.str "hang")) (zz6 4 (zm0 (za0 8) zt2))))))
   (zb8 (zd1 9 (za4 (za5 g_l_piece (za1 (f2 zr1 (za0 7) (fC (.int 4))) za2))))
  (zb8 (zb4 (zc0 3 (zs4 3 zb0 (zo2 (fC (.int 1)))) (za1 (za9 (za0 9)) za2) zc5))
  (zb4 (zc0 5 zb0 (za1 (zi5 (za1 (za9 (za0 9)) (za1 (za5 yp1 (za1 (za0 4) za2)) za2))) za2) zc5))))))))
  (zb8 (zs3 (za6 (fB (f2 dGt (za5 zh0 (za1 (za0 4) za2)) (fC (.int 0)))))
   (zb8 (zd1 8 (yb5 zs2 (zc0 3 zb0 za2 zy7)))
  (zb4 (ym2 3 (zs4 3 zb0 (zo2 (fC (.int 1)))) (zm0 (fC (.str "hang")) (zz6 4 (zm0 (za0 8) zt2)))))) 400)
  (ze4 (ys8 (zm0 (za5 zs2 (za1 (f2 dIx (za0 3) (fC (.int 0))) za2)) (yf1 5 zt2)))))))))
noncomputable abbrev zq5 : Stmt := top 21
theorem zm9 : FnScope ["_law_script", "_law_many", "_law_deep", "_law_rows", "_law_hangs", "_law_flat", "_law_k", "_law_number", "_law_inner", "_law_piece_here"] ["_law_script", "_law_many", "_law_deep"] (za8 zq5) := ⟨rfl, rfl, rfl, by decide +kernel, rfl, by decide +kernel, by decide +kernel⟩
theorem xl9 {n : Nat} {f : Addr} {fd : FuncData} {g_l_mixed : (List D -> Option D)} {f_l_mixed : Addr} {fd_l_mixed : FuncData} {g_l_piece : (List D -> Option D)} {f_l_piece : Addr} {fd_l_piece : FuncData} (D_l_built : Dn K mg "_law_built" zq5 ["_law_script", "_law_many", "_law_deep"] f fd)
    (D_l_mixed : Dn K mg "_law_mixed" zo7 ["_law_script", "_law_k", "_law_salt"] f_l_mixed fd_l_mixed) (G_l_mixed : FnOk P w K mg base CX0 n f_l_mixed fd_l_mixed ["_law_script", "_law_k", "_law_salt"] (SpP 3 K κ g_l_mixed))
    (D_l_piece : Dn K mg "_law_piece" zq4 ["_law_number"] f_l_piece fd_l_piece) (G_l_piece : FnOk P w K mg base CX0 n f_l_piece fd_l_piece ["_law_number"] (SpP 1 K κ g_l_piece))
    (z_range : mg "range" = none)
    (z_len : mg "len" = none)
    (z_tuple : mg "tuple" = none)
    (z_sum : mg "sum" = none) :
    FnOk P w K mg base CX0 (n + 1) f fd ["_law_script", "_law_many", "_law_deep"] (SpP 3 K κ (gP 3 7 (yt0 g_l_mixed g_l_piece))) :=
  zj8 D_l_built.F zm9 fun cdv A outer s H E B hr =>
  (zb2 (zh9 3 zm9.nd rfl (by first | exact Or.inl rfl | exact Or.inr rfl) rfl rfl (QP.e (zn3 (zc8 (zn3 ze7) ze7))))
  (zb2 (zh9 4 zm9.nd rfl (by first | exact Or.inl rfl | exact Or.inr rfl) rfl rfl (QP.e (zn3 ze7)))
  (zb2 (zh9 5 zm9.nd rfl (by first | exact Or.inl rfl | exact Or.inr rfl) rfl rfl (QP.e (zn3 ze7)))
  (zb2 (xc9 6 PassesOwn.never rfl zm9.nd rfl (by first | exact Or.inl rfl | exact Or.inr rfl) rfl rfl (yi6 rfl z_range (zc2 (za3 1) ze3))
   (zb2 (zh9 7 zm9.nd rfl (by first | exact Or.inl rfl | exact Or.inr rfl) rfl rfl (QP.e (zp4 D_l_mixed G_l_mixed hr rfl rfl (zc2 (za3 0) (zc2 (QP.v (zg3 zx3 (QP.v zb1) (za3 6))) (zc2 (QP.v zb1) ze3))) (zf4 (zf4 (zf4 zl8))))))
  (zc1 (zi7 (QT.e (yi3 (ye1 (zg4 (zq8 (Room.units hr)) (QP.v (zg3 zt9 (za3 7) (QP.v zb1))) (QP.v zb1) (zf8 _)) (ya1 (zg4 (yn6 (Room.units0 hr)) (QP.v (zk5 zv0 rfl z_len boot_len (zc2 (za3 4) ze3))) (za3 2) (zf8 _))))))
   (zb2 (zk6 (zo5 (j := 4) rfl (zd3 4) (zc8 (yq7 (zn3 (zc8 (zg3 zt9 (QP.v (zg3 zz1 (za3 7) (QP.v zb1))) (QP.v zb1)) (zc8 zb1 (zc8 zb1 (zc8 zb1 ze7))))) (QP.v (zg3 zt9 (QP.v (zg3 zz1 (za3 7) (QP.v zb1))) (QP.v zb1)))) ze7)))
  (zc1 (zk6 (zo5 (j := 3) rfl (zd3 3) (zc8 (zn3 ze7) ze7)))))
   (zc1 (zi7 (QT.e (yi3 (ye1 (zg4 (zq8 (Room.units hr)) (QP.v (zg3 zt9 (za3 7) (QP.v zb1))) (QP.v zb1) (zf8 _)) (ya1 (zg4 xc4 (QP.v (zk5 zv0 rfl z_len boot_len (zc2 (za3 4) ze3))) (QP.v zb1) (zf8 _))))))
   (zb2 (zh9 8 zm9.nd rfl (by first | exact Or.inl rfl | exact Or.inr rfl) rfl rfl (zz2 ye2 rfl z_tuple boot_tuple (yq9 (j := 3) rfl (zd3 3))))
  (zc1 (zk6 (yl5 (j := 3) rfl (ya6 (zd3 3) (QP.v (zt5 (QP.v zb1)))) (ya8 (QP.v zf7) (yr4 4 rfl (fun i h => by subst h; decide) (ya8 (za3 8) yj0)))))))
   (zb2 (zh9 9 zm9.nd rfl (by first | exact Or.inl rfl | exact Or.inr rfl) rfl rfl (QP.e (zp4 D_l_piece G_l_piece hr rfl rfl (zc2 (QP.v (zg3 zz1 (za3 7) (QP.v zb1))) ze3) (zf4 zl8))))
  (zb2 (zk6 (zo5 (j := 3) rfl (ya6 (zd3 3) (QP.v (zt5 (QP.v zb1)))) (zc8 (QV.p (za3 9)) ze7)))
  (zc1 (zk6 (zo5 (j := 5) rfl (zd3 5) (zc8 (zq7 (zc8 (QV.p (za3 9)) (zc8 (zk5 (xl2 rfl) rfl z_sum boot_sum (zc2 (za3 4) ze3)) ze7))) ze7))))))))))))
  (zb2 (yn8 400 PassesOwn.never (QT.e (zg4 xc4 (QP.v (zk5 zv0 rfl z_len boot_len (zc2 (za3 4) ze3))) (QP.v zb1) (zf8 _)))
   (zb2 (zh9 8 zm9.nd rfl (by first | exact Or.inl rfl | exact Or.inr rfl) rfl rfl (zz2 ye2 rfl z_tuple boot_tuple (yq9 (j := 3) rfl (zd3 3))))
  (zc1 (zk6 (yl5 (j := 3) rfl (ya6 (zd3 3) (QP.v (zt5 (QP.v zb1)))) (ya8 (QP.v zf7) (yr4 4 rfl (fun i h => by subst h; decide) (ya8 (za3 8) yj0))))))))
  (zc1 (zg2 (yv8 (ya8 (QP.v (yi5 ye2 rfl z_tuple boot_tuple (zc2 (zg1 (za3 3) (QP.v zb1)) ze3))) (yv7 5 rfl rfl (fun _ h => h.elim) yj0))))))))))
noncomputable def xf9  : PSt -> Option (Fl × PSt) :=
  (zb8 (zd1 1 (za4 (zi4 (za1 (fC (.str "")) za2))))
  (zb8 (ys7 [2, 3] (zo0 (za0 0))
   (zb8 (fIf (za6 (fB (f2 dEq (f2 dIx (za0 2) (fC (.int 0))) (fC (.str "word")))))
   (zv6 1 zb0 (zo2 (fC (.int 1))) (f2 zh2 (f2 dIx (za0 1) (zo2 (fC (.int 1)))) (f2 dIx (za0 2) (fC (.int 1)))))
   zd7)
  (zb8 (fIf (za6 (zj6 (fB (f2 dEq (f2 dIx (za0 2) (fC (.int 0))) (fC (.str "gap")))) (fB (f2 dEq (f2 dIx (za0 2) (fC (.int 0))) (fC (.str "end"))))))
   (zb4 (zc0 1 zb0 (za1 (f2 yd5 (fC (.str " ")) (za0 3)) za2) zc5))
   zd7)
  (fIf (za6 (fB (f2 dEq (f2 dIx (za0 2) (fC (.int 0))) (fC (.str "stop")))))
   (zb8 (fIf (za6 (fB (f2 dGt (za5 zh0 (za1 (f2 dIx (za0 1) (zo2 (fC (.int 1)))) za2)) (f2 dIx (za0 2) (fC (.int 1))))))
   (zb4 (zc0 1 zb0 (za1 (fC (.str "")) za2) zc5))
   zd7)
  (zv6 1 zb0 (zo2 (fC (.int 1))) (fMt zv7 (f2 dIx (za0 1) (zo2 (fC (.int 1)))) (za1 (f2 dIx (za0 2) (fC (.int 1))) za2))))
   zd7))))
  (ze4 (za4 (fMt zx5 (fC (.str "\n")) (za1 (za0 1) za2))))))
noncomputable abbrev zu6 : Stmt := top 22
theorem yg2 : FnScope ["_law_flat", "_law_lines", "_law_piece_here", "_law_blanks"] ["_law_flat"] (za8 zu6) := ⟨rfl, rfl, rfl, by decide +kernel, rfl, by decide +kernel, by decide +kernel⟩
theorem xw0 {n : Nat} {f : Addr} {fd : FuncData}  (D_l_due : Dn K mg "_law_due" zu6 ["_law_flat"] f fd)
    (z_len : mg "len" = none) :
    FnOk P w K mg base CX0 (n + 1) f fd ["_law_flat"] (SpP 1 K κ (gP 1 3 (xf9 ))) :=
  zj8 D_l_due.F yg2 fun cdv A outer s H E B hr =>
  (zb2 (zh9 1 yg2.nd rfl (by first | exact Or.inl rfl | exact Or.inr rfl) rfl rfl (QP.e (zn3 (zc8 zf7 ze7))))
  (zb2 (yv6 [2, 3] 0 PassesOwn.never rfl (yf2 (zw2 (i := 2) yg2.nd rfl (by first | exact Or.inl rfl | exact Or.inr rfl)) (yf2 (zw2 (i := 3) yg2.nd rfl (by first | exact Or.inl rfl | exact Or.inr rfl)) yu2)) (fun j hj => by simp only [List.mem_cons, List.not_mem_nil, or_false] at hj; rcases hj with rfl | rfl <;> exact ⟨rfl, rfl⟩) rfl
   (zb2 (zi7 (QT.e (zg4 (zq8 (Room.units hr)) (zg1 (za3 2) (QP.v zb1)) (QP.v zf7) (zf8 _)))
   (zc1 (yg0 (j := 1) rfl (zg3 zx3 (zg1 (za3 1) (QP.v (zt5 (QP.v zb1)))) (zg1 (za3 2) (QP.v zb1))) (zd3 1) (QP.v (zt5 (QP.v zb1)))))
   zg6)
  (zb2 (zi7 (QT.e (yi3 (xa8 (zg4 (zq8 (Room.units hr)) (zg1 (za3 2) (QP.v zb1)) (QP.v zf7) (zf8 _)) (yq2 (zg4 (zq8 (Room.units hr)) (zg1 (za3 2) (QP.v zb1)) (QP.v zf7) (zf8 _))))))
   (zc1 (zk6 (zo5 (j := 1) rfl (zd3 1) (zc8 (zg3 yq6 (QP.v zf7) (za3 3)) ze7))))
   zg6)
  (zc1 (zi7 (QT.e (zg4 (zq8 (Room.units hr)) (zg1 (za3 2) (QP.v zb1)) (QP.v zf7) (zf8 _)))
   (zb2 (zi7 (QT.e (zg4 xc4 (QP.v (zk5 zv0 rfl z_len boot_len (zc2 (zg1 (za3 1) (QP.v (zt5 (QP.v zb1)))) ze3))) (zg1 (za3 2) (QP.v zb1)) (zf8 _)))
   (zc1 (zk6 (zo5 (j := 1) rfl (zd3 1) (zc8 zf7 ze7))))
   zg6)
  (zc1 (yg0 (j := 1) rfl (yl2 PySem.F.slot_str_ljust PySem.F.type_str_ljust yv5 (zg1 (za3 1) (QP.v (zt5 (QP.v zb1)))) (zc2 (zg1 (za3 2) (QP.v zb1)) ze3)) (zd3 1) (QP.v (zt5 (QP.v zb1))))))
   zg6)))))
  (zc1 (zg2 (QP.e (yl2 PySem.F.slot_str_join PySem.F.type_str_join yq8 (QP.v zf7) (zc2 (za3 1) ze3)))))))
noncomputable def xg0 (g_l_mixed : (List D -> Option D)) (g_l_built : (List D -> Option D)) (g_p_set_by : (List D -> Option D)) (g_l_due : (List D -> Option D)) : PSt -> Option (Fl × PSt) :=
  (zb8 (zd1 1 (za4 (za5 g_l_mixed (za1 (za0 0) (za1 (fC (.int 0)) (za1 (fC (.int 1)) za2))))))
  (zb8 (zd1 2 (za4 (za5 g_l_built (za1 (za0 0) (za1 (f2 zh2 (fC (.int 4)) (f2 zm2 (za0 1) (fC (.int 37)))) (za1 (f2 dIx (zi4 (za1 (fC (.int 3)) (za1 (fC (.int 12)) za2))) (f2 zm2 (f2 zr1 (za0 1) (fC (.int 37))) (fC (.int 2)))) za2))))))
  (zb8 (zd1 3 (za4 (za5 g_p_set_by (za1 (f2 dIx (za0 2) (fC (.int 0))) (za1 (zi5 za2) za2)))))
  (ze4 (za4 (zy6 (za5 yj9 (za1 (za0 3) (za1 (fC (.ty "str")) za2))) (f2 dEq (za0 3) (za5 g_l_due (za1 (f2 dIx (za0 2) (fC (.int 1))) za2)))))))))
noncomputable abbrev zv9 : Stmt := top 23
theorem yr8 : FnScope ["_law_script", "_law_number", "_law_built_here", "_law_found"] ["_law_script"] (za8 zv9) := ⟨rfl, rfl, rfl, by decide +kernel, rfl, by decide +kernel, by decide +kernel⟩
theorem wh5 {n : Nat} {f : Addr} {fd : FuncData} {g_l_mixed : (List D -> Option D)} {f_l_mixed : Addr} {fd_l_mixed : FuncData} {g_l_built : (List D -> Option D)} {f_l_built : Addr} {fd_l_built : FuncData} {g_p_set_by : (List D -> Option D)} {f_p_set_by : Addr} {fd_p_set_by : FuncData} {g_l_due : (List D -> Option D)} {f_l_due : Addr} {fd_l_due : FuncData} (D_law : Dn K mg "law" zv9 ["_law_script"] f fd)
    (D_l_mixed : Dn K mg "_law_mixed" zo7 ["_law_script", "_law_k", "_law_salt"] f_l_mixed fd_l_mixed) (G_l_mixed : FnOk P w K mg base CX0 n f_l_mixed fd_l_mixed ["_law_script", "_law_k", "_law_salt"] (SpP 3 K κ g_l_mixed))
    (D_l_built : Dn K mg "_law_built" zq5 ["_law_script", "_law_many", "_law_deep"] f_l_built fd_l_built) (G_l_built : FnOk P w K mg base CX0 n f_l_built fd_l_built ["_law_script", "_law_many", "_law_deep"] (SpP 3 K κ g_l_built))
    (D_p_set_by : Dn K mg "set_by" zp1 ["row", "choices"] f_p_set_by fd_p_set_by) (G_p_set_by : FnOk P w K mg base CX0 n f_p_set_by fd_p_set_by ["row", "choices"] (SpP 2 K κ g_p_set_by))
    (D_l_due : Dn K mg "_law_due" zu6 ["_law_flat"] f_l_due fd_l_due) (G_l_due : FnOk P w K mg base CX0 n f_l_due fd_l_due ["_law_flat"] (SpP 1 K κ g_l_due))
    (z_isinstance : mg "isinstance" = none)
    (z_str : mg "str" = none) :
    FnOk P w K mg base CX0 (n + 1) f fd ["_law_script"] (SpP 1 K κ (gP 1 3 (xg0 g_l_mixed g_l_built g_p_set_by g_l_due))) :=
  zj8 D_law.F yr8 fun cdv A outer s H E B hr =>
  (zb2 (zh9 1 yr8.nd rfl (by first | exact Or.inl rfl | exact Or.inr rfl) rfl rfl (QP.e (zp4 D_l_mixed G_l_mixed hr rfl rfl (zc2 (za3 0) (zc2 (QP.v zb1) (zc2 (QP.v zb1) ze3))) (zf4 (zf4 (zf4 zl8))))))
  (zb2 (zh9 2 yr8.nd rfl (by first | exact Or.inl rfl | exact Or.inr rfl) rfl rfl (QP.e (zp4 D_l_built G_l_built hr rfl rfl (zc2 (za3 0) (zc2 (QP.v (zg3 zx3 (QP.v zb1) (QP.v (zg3 zt9 (za3 1) (QP.v zb1))))) (zc2 (QP.v (yq7 (zn3 (zc8 zb1 (zc8 zb1 ze7))) (QP.v (zg3 zt9 (QP.v (zg3 zz1 (za3 1) (QP.v zb1))) (QP.v zb1))))) ze3))) (zf4 (zf4 (zf4 zl8))))))
  (zb2 (zh9 3 yr8.nd rfl (by first | exact Or.inl rfl | exact Or.inr rfl) rfl rfl (QP.e (zp4 D_p_set_by G_p_set_by hr rfl rfl (zc2 (zg1 (za3 2) (QP.v zb1)) (zc2 (QP.v (zq7 ze7)) ze3)) (zf4 (zf4 zl8)))))
  (zc1 (zg2 (QP.e (yq4 (zk5 xl1 rfl z_isinstance boot_isinstance (zc2 (za3 3) (zc2 (QP.v (xk7 rfl z_str boot_str)) ze3))) (yi4 (ye0 (zq8 (Room.units hr)) (za3 3) (QP.v (zp4 D_l_due G_l_due hr rfl rfl (zc2 (zg1 (za3 2) (QP.v zb1)) ze3) (zf4 zl8))) (zf8 _))))))))))
noncomputable def yh8  : PSt -> Option (Fl × PSt) :=
  (zb8 (zf2 0 zb0 "Place" "broken" (za9 (za0 1)))
  (zf2 0 zb0 "Place" "margin" (za9 (za0 2))))
noncomputable abbrev zj9 : Stmt := zw9 (top 5) 0
theorem xa4 : FnScope ["self", "broken", "margin"] ["self", "broken", "margin"] (za8 zj9) := ⟨rfl, rfl, rfl, by decide +kernel, rfl, by decide +kernel, by decide +kernel⟩
theorem xa5 {n : Nat} {f : Addr} {fd : FuncData}  (K_Place : Kn K mg κ "Place" "Place.__init__" zj9 ["self", "broken", "margin"] f fd)
    (cl_Place : Cls K (κ "Place"))
    (na_broken : ze6 K (κ "Place") "broken")
    (na_margin : ze6 K (κ "Place") "margin") :
    FnOk P w K mg base CX0 (n + 1) f fd ["self", "broken", "margin"] (SpE 3 K κ (zd9 [true, false, false]) (gE 3 0 (zd9 [true, false, false]) (yh8 ))) :=
  yc0 K_Place.F xa4 (fun i hi => zw4 hi) fun cdv A outer s H E hr =>
  (zb2 (zn2 (C := "Place") cl_Place na_broken rfl (QV.p (za3 1)) (zd3 0))
  (zc1 (zn2 (C := "Place") cl_Place na_margin rfl (QV.p (za3 2)) (zd3 0))))
noncomputable def zx2  : PSt -> Option (Fl × PSt) :=
  (zb8 (zf2 0 zb0 "Setter" "choices" (za9 (za0 1)))
  (zb8 (zf2 0 zb0 "Setter" "used" (fC (.int 0)))
  (zb8 (zf2 0 zb0 "Setter" "column" (fC (.int 0)))
  (zf2 0 zb0 "Setter" "parts" (zi4 za2)))))
noncomputable abbrev zl0 : Stmt := zw9 (top 15) 0
theorem yw1 : FnScope ["self", "choices"] ["self", "choices"] (za8 zl0) := ⟨rfl, rfl, rfl, by decide +kernel, rfl, by decide +kernel, by decide +kernel⟩
theorem yw2 {n : Nat} {f : Addr} {fd : FuncData}  (K_Setter : Kn K mg κ "Setter" "Setter.__init__" zl0 ["self", "choices"] f fd)
    (cl_Setter : Cls K (κ "Setter"))
    (na_choices : ze6 K (κ "Setter") "choices")
    (na_used : ze6 K (κ "Setter") "used")
    (na_column : ze6 K (κ "Setter") "column")
    (na_parts : ze6 K (κ "Setter") "parts") :
    FnOk P w K mg base CX0 (n + 1) f fd ["self", "choices"] (SpE 2 K κ (zd9 [true, false]) (gE 2 0 (zd9 [true, false]) (zx2 ))) :=
  yc0 K_Setter.F yw1 (fun i hi => zw4 hi) fun cdv A outer s H E hr =>
  (zb2 (zn2 (C := "Setter") cl_Setter na_choices rfl (QV.p (za3 1)) (zd3 0))
  (zb2 (zn2 (C := "Setter") cl_Setter na_used rfl zb1 (zd3 0))
  (zb2 (zn2 (C := "Setter") cl_Setter na_column rfl zb1 (zd3 0))
  (zc1 (zn2 (C := "Setter") cl_Setter na_parts rfl (zn3 ze7) (zd3 0))))))
noncomputable def zp2  : PSt -> Option (Fl × PSt) :=
  (zb8 (fIf (za6 (fB (f2 dGe (zf9 "Setter" "used" (za0 0)) (za5 zh0 (za1 (zf9 "Setter" "choices" (za0 0)) za2)))))
   yf0
   zd7)
  (zb8 (zd1 2 (za4 (za9 (f2 dIx (zf9 "Setter" "choices" (za0 0)) (zf9 "Setter" "used" (za0 0))))))
  (zb8 (fIf (za6 (zj6 (fB (f2 dLt (za0 2) (fC (.int 0)))) (fB (f2 dGe (za0 2) (za0 1)))))
   yf0
   zd7)
  (zb8 (zf2 0 zb0 "Setter" "used" (f2 zh2 (zf9 "Setter" "used" (za0 0)) (fC (.int 1))))
  (zo6 2)))))
noncomputable abbrev zg0 : Stmt := zw9 (top 15) 1
theorem zt6 : FnScope ["self", "count", "number"] ["self", "count"] (za8 zg0) := ⟨rfl, rfl, rfl, by decide +kernel, rfl, by decide +kernel, by decide +kernel⟩
theorem yd3 {n : Nat} {f : Addr} {fd : FuncData}  (M_Setter_choice_below : Mn K κ "Setter" "choice_below" "Setter.choice_below" zg0 ["self", "count"] f fd)
    (cl_Setter : Cls K (κ "Setter"))
    (na_used : ze6 K (κ "Setter") "used")
    (na_choices : ze6 K (κ "Setter") "choices")
    (z_len : mg "len" = none) :
    FnOk P w K mg base CX0 (n + 1) f fd ["self", "count"] (SpE 2 K κ (zd9 [true, false]) (gE 2 1 (zd9 [true, false]) (zp2 ))) :=
  yc0 M_Setter_choice_below.F zt6 (fun i hi => zw4 hi) fun cdv A outer s H E hr =>
  (zb2 (zi7 (QT.e (zg4 xl0 (zj3 (C := "Setter") cl_Setter na_used (za3 0)) (QP.v (zk5 zv0 rfl z_len boot_len (zc2 (zj3 (C := "Setter") cl_Setter na_choices (za3 0)) ze3))) (zf8 _)))
   (zc1 zw3)
   zg6)
  (zb2 (zh9 2 zt6.nd rfl (by first | exact Or.inl rfl | exact Or.inr rfl) rfl rfl (QP.e (QV.p (zg1 (zj3 (C := "Setter") cl_Setter na_choices (za3 0)) (zj3 (C := "Setter") cl_Setter na_used (za3 0))))))
  (zb2 (zi7 (QT.e (yi3 (xa8 (zg4 (yn6 (Room.units0 hr)) (za3 2) (QP.v zb1) (zf8 _)) (yq2 (zg4 xl0 (za3 2) (za3 1) (zf8 _))))))
   (zc1 zw3)
   zg6)
  (zb2 (zn2 (C := "Setter") cl_Setter na_used rfl (zg3 zx3 (zj3 (C := "Setter") cl_Setter na_used (za3 0)) (QP.v zb1)) (zd3 0))
  (zc1 (yu9 2 rfl))))))
noncomputable def zo1 (g_p_writing : (List D -> Option D)) (g_p_column_behind : (List D -> Option D)) : PSt -> Option (Fl × PSt) :=
  (zb8 (zd1 3 (za4 (za5 g_p_writing (za1 (za0 1) (za1 (za0 2) (za1 (zf9 "Setter" "column" (za0 0)) za2))))))
  (zb8 (fIf (za6 (fB (f2 dIs (za0 3) (fC .non))))
   yf0
   zd7)
  (zb8 (zb4 (zc0 0 (zk2 0 zb0 "Setter" "parts") (za1 (za9 (za0 3)) za2) zc5))
  (zf2 0 zb0 "Setter" "column" (za5 g_p_column_behind (za1 (zf9 "Setter" "column" (za0 0)) (za1 (za0 3) za2)))))))
noncomputable abbrev zh8 : Stmt := zw9 (top 15) 2
theorem zw1 : FnScope ["self", "piece", "place", "wrote"] ["self", "piece", "place"] (za8 zh8) := ⟨rfl, rfl, rfl, by decide +kernel, rfl, by decide +kernel, by decide +kernel⟩
theorem yh9 {n : Nat} {f : Addr} {fd : FuncData} {g_p_writing : (List D -> Option D)} {f_p_writing : Addr} {fd_p_writing : FuncData} {g_p_column_behind : (List D -> Option D)} {f_p_column_behind : Addr} {fd_p_column_behind : FuncData} (M_Setter_set_plain : Mn K κ "Setter" "set_plain" "Setter.set_plain" zh8 ["self", "piece", "place"] f fd)
    (D_p_writing : Dn K mg "writing" zn8 ["piece", "place", "column"] f_p_writing fd_p_writing) (G_p_writing : FnOk P w K mg base CX0 n f_p_writing fd_p_writing ["piece", "place", "column"] (SpP 3 K κ g_p_writing))
    (D_p_column_behind : Dn K mg "column_behind" zi2 ["column", "wrote"] f_p_column_behind fd_p_column_behind) (G_p_column_behind : FnOk P w K mg base CX0 n f_p_column_behind fd_p_column_behind ["column", "wrote"] (SpP 2 K κ g_p_column_behind))
    (cl_Setter : Cls K (κ "Setter"))
    (na_column : ze6 K (κ "Setter") "column")
    (na_parts : ze6 K (κ "Setter") "parts") :
    FnOk P w K mg base CX0 (n + 1) f fd ["self", "piece", "place"] (SpE 3 K κ (zd9 [true, false, false]) (gE 3 1 (zd9 [true, false, false]) (zo1 g_p_writing g_p_column_behind))) :=
  yc0 M_Setter_set_plain.F zw1 (fun i hi => zw4 hi) fun cdv A outer s H E hr =>
  (zb2 (zh9 3 zw1.nd rfl (by first | exact Or.inl rfl | exact Or.inr rfl) rfl rfl (QP.e (zp4 D_p_writing G_p_writing hr rfl rfl (zc2 (za3 1) (zc2 (za3 2) (zc2 (zj3 (C := "Setter") cl_Setter na_column (za3 0)) ze3))) (zf4 (zf4 (zf4 zl8))))))
  (zb2 (zi7 (QT.e (zg4 xv1 (za3 3) (QP.v yq1) (zf8 _)))
   (zc1 zw3)
   zg6)
  (zb2 (zk6 (zo5 (j := 0) rfl (yi7 (C := "Setter") cl_Setter na_parts (zd3 0)) (zc8 (QV.p (za3 3)) ze7)))
  (zc1 (zn2 (C := "Setter") cl_Setter na_column rfl (zp4 D_p_column_behind G_p_column_behind hr rfl rfl (zc2 (zj3 (C := "Setter") cl_Setter na_column (za3 0)) (zc2 (za3 3) ze3)) (zf4 (zf4 zl8))) (zd3 0))))))
noncomputable def zn0 (g_p_ways : (List D -> Option D)) (g_p_takes_choice : (List D -> Option D)) (g_Setter_choice_below : (List D -> Option (D × List D))) (g_Setter_set_row : (List D -> Option (D × List D))) : PSt -> Option (Fl × PSt) :=
  (zb8 (zd1 3 (za4 (za5 g_p_ways (za1 (za0 1) (za1 (za0 2) za2)))))
  (zb8 (zd1 4 (za4 (fC (.int 0))))
  (zb8 (fIf (za6 (fT (za5 g_p_takes_choice (za1 (za0 1) (za1 (za0 2) za2)))))
   (zd1 4 (zc0 0 zb0 (zb6 [.im (za5 zh0 (za1 (za0 3) za2))]) (zl3 "Setter" "choice_below" g_Setter_choice_below)))
   zd7)
  (zb8 (zd1 5 (za4 (za9 (f2 dIx (za0 3) (za0 4)))))
  (zb4 (zc0 0 zb0 (zb6 [.im (f2 dIx (za0 5) (fC (.int 0))), .im (f2 dIx (za0 5) (fC (.int 1)))]) (zl3 "Setter" "set_row" g_Setter_set_row)))))))
noncomputable abbrev zh3 : Stmt := zw9 (top 15) 3
theorem zj5 : FnScope ["self", "piece", "place", "found", "number", "way"] ["self", "piece", "place"] (za8 zh3) := ⟨rfl, rfl, rfl, by decide +kernel, rfl, by decide +kernel, by decide +kernel⟩
theorem yg3 {n : Nat} {f : Addr} {fd : FuncData} {g_p_ways : (List D -> Option D)} {f_p_ways : Addr} {fd_p_ways : FuncData} {g_p_takes_choice : (List D -> Option D)} {f_p_takes_choice : Addr} {fd_p_takes_choice : FuncData} {g_Setter_choice_below : (List D -> Option (D × List D))} {f_Setter_choice_below : Addr} {fd_Setter_choice_below : FuncData} {g_Setter_set_row : (List D -> Option (D × List D))} {f_Setter_set_row : Addr} {fd_Setter_set_row : FuncData} (M_Setter_set_holder : Mn K κ "Setter" "set_holder" "Setter.set_holder" zh3 ["self", "piece", "place"] f fd)
    (D_p_ways : Dn K mg "ways" zq0 ["piece", "place"] f_p_ways fd_p_ways) (G_p_ways : FnOk P w K mg base CX0 n f_p_ways fd_p_ways ["piece", "place"] (SpP 2 K κ g_p_ways))
    (D_p_takes_choice : Dn K mg "takes_choice" zi6 ["piece", "place"] f_p_takes_choice fd_p_takes_choice) (G_p_takes_choice : FnOk P w K mg base CX0 n f_p_takes_choice fd_p_takes_choice ["piece", "place"] (SpP 2 K κ g_p_takes_choice))
    (M_Setter_choice_below : Mn K κ "Setter" "choice_below" "Setter.choice_below" zg0 ["self", "count"] f_Setter_choice_below fd_Setter_choice_below) (G_Setter_choice_below : FnOk P w K mg base CX0 n f_Setter_choice_below fd_Setter_choice_below ["self", "count"] (SpE 2 K κ (zd9 [true, false]) g_Setter_choice_below))
    (M_Setter_set_row : Mn K κ "Setter" "set_row" "Setter.set_row" zh7 ["self", "row", "place"] f_Setter_set_row fd_Setter_set_row) (G_Setter_set_row : FnOk P w K mg base CX0 n f_Setter_set_row fd_Setter_set_row ["self", "row", "place"] (SpE 3 K κ (zd9 [true, false, false]) g_Setter_set_row))
    (z_len : mg "len" = none) :
    FnOk P w K mg base CX0 (n + 1) f fd ["self", "piece", "place"] (SpE 3 K κ (zd9 [true, false, false]) (gE 3 3 (zd9 [true, false, false]) (zn0 g_p_ways g_p_takes_choice g_Setter_choice_below g_Setter_set_row))) :=
  yc0 M_Setter_set_holder.F zj5 (fun i hi => zw4 hi) fun cdv A outer s H E hr =>
  (zb2 (zh9 3 zj5.nd rfl (by first | exact Or.inl rfl | exact Or.inr rfl) rfl rfl (QP.e (zp4 D_p_ways G_p_ways hr rfl rfl (zc2 (za3 1) (zc2 (za3 2) ze3)) (zf4 (zf4 zl8)))))
  (zb2 (zh9 4 zj5.nd rfl (by first | exact Or.inl rfl | exact Or.inr rfl) rfl rfl (QP.e zb1))
  (zb2 (zi7 (QT.e (zx7 (QP.v (zp4 D_p_takes_choice G_p_takes_choice hr rfl rfl (zc2 (za3 1) (zc2 (za3 2) ze3)) (zf4 (zf4 zl8))))))
   (zc1 (zh9 4 zj5.nd rfl (by first | exact Or.inl rfl | exact Or.inr rfl) rfl rfl (zw5 M_Setter_choice_below G_Setter_choice_below hr rfl (zd3 0) (zk3 (QP.v (zk5 zv0 rfl z_len boot_len (zc2 (za3 3) ze3))) zp7) rfl rfl (zm8 1))))
   zg6)
  (zb2 (zh9 5 zj5.nd rfl (by first | exact Or.inl rfl | exact Or.inr rfl) rfl rfl (QP.e (QV.p (zg1 (za3 3) (za3 4)))))
  (zc1 (zk6 (zw5 M_Setter_set_row G_Setter_set_row hr rfl (zd3 0) (zk3 (zg1 (za3 5) (QP.v zb1)) (zk3 (zg1 (za3 5) (QP.v zb1)) zp7)) rfl rfl (zm8 2))))))))
noncomputable def zp5 (g_p_holds_rows : (List D -> Option D)) (g_Setter_set_holder : (List D -> Option (D × List D))) (g_Setter_set_plain : (List D -> Option (D × List D))) : PSt -> Option (Fl × PSt) :=
  (yk0 3 (zo0 (za0 1))
   (fIf (za6 (fT (za5 g_p_holds_rows (za1 (za0 3) za2))))
   (zb4 (zc0 0 zb0 (zb6 [.im (za0 3), .im (za0 2)]) (zl3 "Setter" "set_holder" g_Setter_set_holder)))
   (zb4 (zc0 0 zb0 (zb6 [.im (za0 3), .im (za0 2)]) (zl3 "Setter" "set_plain" g_Setter_set_plain)))))
noncomputable abbrev zh7 : Stmt := zw9 (top 15) 4
theorem zy8 : FnScope ["self", "row", "place", "piece"] ["self", "row", "place"] (za8 zh7) := ⟨rfl, rfl, rfl, by decide +kernel, rfl, by decide +kernel, by decide +kernel⟩
theorem ym9 {n : Nat} {f : Addr} {fd : FuncData} {g_p_holds_rows : (List D -> Option D)} {f_p_holds_rows : Addr} {fd_p_holds_rows : FuncData} {g_Setter_set_holder : (List D -> Option (D × List D))} {f_Setter_set_holder : Addr} {fd_Setter_set_holder : FuncData} {g_Setter_set_plain : (List D -> Option (D × List D))} {f_Setter_set_plain : Addr} {fd_Setter_set_plain : FuncData} (M_Setter_set_row : Mn K κ "Setter" "set_row" "Setter.set_row" zh7 ["self", "row", "place"] f fd)
    (D_p_holds_rows : Dn K mg "holds_rows" zj7 ["piece"] f_p_holds_rows fd_p_holds_rows) (G_p_holds_rows : FnOk P w K mg base CX0 n f_p_holds_rows fd_p_holds_rows ["piece"] (SpP 1 K κ g_p_holds_rows))
    (M_Setter_set_holder : Mn K κ "Setter" "set_holder" "Setter.set_holder" zh3 ["self", "piece", "place"] f_Setter_set_holder fd_Setter_set_holder) (G_Setter_set_holder : FnOk P w K mg base CX0 n f_Setter_set_holder fd_Setter_set_holder ["self", "piece", "place"] (SpE 3 K κ (zd9 [true, false, false]) g_Setter_set_holder))
    (M_Setter_set_plain : Mn K κ "Setter" "set_plain" "Setter.set_plain" zh8 ["self", "piece", "place"] f_Setter_set_plain fd_Setter_set_plain) (G_Setter_set_plain : FnOk P w K mg base CX0 n f_Setter_set_plain fd_Setter_set_plain ["self", "piece", "place"] (SpE 3 K κ (zd9 [true, false, false]) g_Setter_set_plain)) :
    FnOk P w K mg base CX0 (n + 1) f fd ["self", "row", "place"] (SpE 3 K κ (zd9 [true, false, false]) (gE 3 1 (zd9 [true, false, false]) (zp5 g_p_holds_rows g_Setter_set_holder g_Setter_set_plain))) :=
  yc0 M_Setter_set_row.F zy8 (fun i hi => zw4 hi) fun cdv A outer s H E hr =>
  (zc1 (yv1 3 1 PassesOwn.never rfl zy8.nd rfl (by first | exact Or.inl rfl | exact Or.inr rfl) rfl rfl rfl
   (zc1 (zi7 (QT.e (zx7 (QP.v (zp4 D_p_holds_rows G_p_holds_rows hr rfl rfl (zc2 (za3 3) ze3) (zf4 zl8)))))
   (zc1 (zk6 (zw5 M_Setter_set_holder G_Setter_set_holder hr rfl (zd3 0) (zk3 (za3 3) (zk3 (za3 2) zp7)) rfl rfl (zm8 2))))
   (zc1 (zk6 (zw5 M_Setter_set_plain G_Setter_set_plain hr rfl (zd3 0) (zk3 (za3 3) (zk3 (za3 2) zp7)) rfl rfl (zm8 2))))))))
noncomputable def zq6  : PSt -> Option (Fl × PSt) :=
  (zb8 (fIf (za6 (fB (f2 dLt (zf9 "Setter" "used" (za0 0)) (za5 zh0 (za1 (zf9 "Setter" "choices" (za0 0)) za2)))))
   yf0
   zd7)
  (ze4 (za4 (fMt zx5 (fC (.str "")) (za1 (zf9 "Setter" "parts" (za0 0)) za2)))))
noncomputable abbrev zh4 : Stmt := zw9 (top 15) 5
theorem yg4 : FnScope ["self"] ["self"] (za8 zh4) := ⟨rfl, rfl, rfl, by decide +kernel, rfl, by decide +kernel, by decide +kernel⟩
theorem yg5 {n : Nat} {f : Addr} {fd : FuncData}  (M_Setter_whole_text : Mn K κ "Setter" "whole_text" "Setter.whole_text" zh4 ["self"] f fd)
    (cl_Setter : Cls K (κ "Setter"))
    (na_used : ze6 K (κ "Setter") "used")
    (na_parts : ze6 K (κ "Setter") "parts")
    (na_choices : ze6 K (κ "Setter") "choices")
    (z_len : mg "len" = none) :
    FnOk P w K mg base CX0 (n + 1) f fd ["self"] (SpP 1 K κ (gP 1 0 (zq6 ))) :=
  zj8 M_Setter_whole_text.F yg4 fun cdv A outer s H E B hr =>
  (zb2 (zi7 (QT.e (zg4 (yn6 (Room.units0 hr)) (zj3 (C := "Setter") cl_Setter na_used (za3 0)) (QP.v (zk5 zv0 rfl z_len boot_len (zc2 (zj3 (C := "Setter") cl_Setter na_choices (za3 0)) ze3))) (zf8 _)))
   (zc1 zw3)
   zg6)
  (zc1 (zg2 (QP.e (yl2 PySem.F.slot_str_join PySem.F.type_str_join yq8 (QP.v zf7) (zc2 (zj3 (C := "Setter") cl_Setter na_parts (za3 0)) ze3))))))
end L3
namespace My
open PySem PySem.Spec PyProof.Rows L2 L3
noncomputable def ze5 : Leaf -> D
  | .word x => .tup [.str "word", .str x]
  | .gap x => .tup [.str "gap", .str x]
  | .stop c => .tup [.str "stop", .int c]
  | .fin => .tup [.str "end"]
mutual
noncomputable def pcD : Pc -> D
  | .leaf l => ze5 l
  | .group r => .tup [.str "group", .tup (zb7 r)]
  | .hang n r => .tup [.str "hang", .int n, .tup (zb7 r)]
  | .either rs => .tup [.str "either", .tup (zr7 rs)]
noncomputable def zb7 : List Pc -> List D
  | [] => []
  | p :: r => pcD p :: zb7 r
noncomputable def zr7 : List (List Pc) -> List D
  | [] => []
  | r :: rs => .tup (zb7 r) :: zr7 rs
end
theorem xd9 (l : Leaf) : (ze5 l).imm = true := by cases l <;> rfl
mutual
theorem xr5 : ∀ p : Pc, (pcD p).imm = true
  | .leaf l => xd9 l
  | .group r => by show (D.imm (.str "group") && (D.imm (.tup (zb7 r)) && D.imms [])) = true; rw [show D.imm (.tup (zb7 r)) = D.imms (zb7 r) from rfl, zk7 r]; rfl
  | .hang n r => by show (D.imm (.str "hang") && (D.imm (.int n) && (D.imm (.tup (zb7 r)) && D.imms []))) = true; rw [show D.imm (.tup (zb7 r)) = D.imms (zb7 r) from rfl, zk7 r]; rfl
  | .either rs => by show (D.imm (.str "either") && (D.imm (.tup (zr7 rs)) && D.imms [])) = true; rw [show D.imm (.tup (zr7 rs)) = D.imms (zr7 rs) from rfl, xe0 rs]; rfl
theorem zk7 : ∀ r : List Pc, D.imms (zb7 r) = true
  | [] => rfl
  | p :: r => by show (D.imm (pcD p) && D.imms (zb7 r)) = true; rw [xr5 p, zk7 r]; rfl
theorem xe0 : ∀ rs : List (List Pc), D.imms (zr7 rs) = true
  | [] => rfl
  | r :: rs => by show (D.imm (.tup (zb7 r)) && D.imms (zr7 rs)) = true; rw [show D.imm (.tup (zb7 r)) = D.imms (zb7 r) from rfl, zk7 r, xe0 rs]; rfl
end
theorem yo3 : ∀ a b : List Pc, zb7 (a ++ b) = zb7 a ++ zb7 b
  | [], b => rfl
  | p :: a, b => by show pcD p :: zb7 (a ++ b) = pcD p :: (zb7 a ++ zb7 b); rw [yo3 a b]
theorem yo4 : ∀ a : List Pc, (zb7 a).length = a.length
  | [] => rfl
  | p :: a => by show (zb7 a).length + 1 = a.length + 1; rw [yo4 a]
theorem yz0 : ∀ a : List (List Pc), (zr7 a).length = a.length
  | [] => rfl
  | p :: a => by show (zr7 a).length + 1 = a.length + 1; rw [yz0 a]
theorem xh9 {α β : Type} (f : α -> β) (hf : ∀ a b, f a = f b -> a = b) : ∀ {l m : List α}, l.map f = m.map f -> l = m
  | [], [], _ => rfl
  | [], _ :: _, h => by simp at h
  | _ :: _, [], h => by simp at h
  | a :: l, b :: m, h => by
    simp only [List.map_cons, List.cons.injEq] at h
    rw [hf a b h.1, xh9 f hf h.2]
theorem zf0 (a b : String) : (Str.ofString a = Str.ofString b) = (a = b) := by
  refine propext ⟨fun h => ?_, fun h => by rw [h]⟩
  rw [Str.ofString_eq_toList, Str.ofString_eq_toList] at h
  have h1 : (a.toList.map Char.toNat).toArray = (b.toList.map Char.toNat).toArray := (Str.mk.inj h)
  have h2 : a.toList.map Char.toNat = b.toList.map Char.toNat := by simpa using congrArg Array.toList h1
  have h3 : a.toList = b.toList := xh9 _ (fun x y e => by
    have : Char.ofNat x.toNat = Char.ofNat y.toNat := by rw [e]
    simpa using this) h2
  exact String.toList_inj.mp h3
theorem zm1 {α : Type} (a : α) (l : List α) : atI (a :: l) 0 = some a := by simp [atI, ixN]
theorem zj0 {α : Type} (a b : α) (l : List α) : atI (a :: b :: l) 1 = some b := by
  have h : ixN (a :: b :: l).length 1 = some 1 := by unfold ixN; rw [if_pos (by decide), if_pos (by simp only [List.length_cons]; omega)]; rfl
  simp only [atI, h]; rfl
theorem yw3 {α : Type} (a b c : α) (l : List α) : atI (a :: b :: c :: l) 2 = some c := by
  have h : ixN (a :: b :: c :: l).length 2 = some 2 := by unfold ixN; rw [if_pos (by decide), if_pos (by simp only [List.length_cons]; omega)]; rfl
  simp only [atI, h]; rfl
theorem sz {n : Nat} (h : n <= 1000) : n <= sizeLine := yk9 h
theorem sz1 {n : Nat} (h : n <= 1000) : n < sizeLine := yy3 h
theorem xg7 {rs : List (List Pc)} {r : List Pc} (h : r ∈ rs) : (zd2 r).length <= (zg8 rs).length := by
  induction rs with
  | nil => simp at h
  | cons q rs ih =>
    show _ <= (Tk.orr :: (zd2 q ++ zg8 rs)).length
    rw [List.length_cons, List.length_append]
    rcases List.mem_cons.mp h with e | e
    . subst e; omega
    . have := ih e; omega
theorem xg8 {rs : List (List Pc)} {r : List Pc} (h : r ∈ rs) : (zd2 r).length <= (yh3 rs).length := by
  cases rs with
  | nil => simp at h
  | cons q rs =>
    show _ <= (zd2 q ++ zg8 rs).length
    rw [List.length_append]
    rcases List.mem_cons.mp h with e | e
    . subst e; omega
    . have := xg7 e; omega
end My
namespace My
open PySem PySem.Spec PyProof.Rows L2 L3
theorem yo5 (n : Nat) : ixN (n + 1) (-1) = some n := by
  unfold ixN
  rw [if_neg (by decide), if_pos (by omega)]
  congr 1
  omega
theorem yo6 {α : Type} (l : List α) (a b : α) : (l ++ [a]).set l.length b = l ++ [b] := by
  induction l with
  | nil => rfl
  | cons x l ih => show x :: (l ++ [a]).set l.length b = _; rw [ih]; rfl
theorem ze8 (i j : Int) : zm2 (.int i) (.int j) = if 0 < j then some (.int (i % j)) else none := by simp [zm2, dII]
theorem ze9 (i j : Int) : zr1 (.int i) (.int j) = if 0 < j /\ j < 1073741824 then some (.int (i / j)) else none := by simp [zr1, dII]
theorem zd4 (x y : Str) : (x ++ y).cps.toList = x.cps.toList ++ y.cps.toList := by
  show (x.cps ++ y.cps).toList = _
  simp
theorem zi3 (x y : Str) : (x ++ y).length = x.length + y.length := by
  show (x.cps ++ y.cps).size = x.cps.size + y.cps.size
  simp
theorem yw4 {α : Type} (xs : List α) (i : Int) (h0 : 0 <= i) (h1 : i < xs.length) : ∃ v ∈ xs, atI xs i = some v := by
  have hn : i.toNat < xs.length := by omega
  obtain ⟨v, hv⟩ : ∃ v, xs[i.toNat]? = some v := ⟨_, List.getElem?_eq_getElem hn⟩
  refine ⟨v, List.mem_of_getElem? hv, ?_⟩
  have e : i = ((i.toNat : Nat) : Int) := by omega
  rw [e]
  exact yu3 hv
theorem wc3 {j : Int} (h3 : -1000000 <= j) (h4 : j <= 1000000) : ys4 [.int j] = some (zv4 0 j.toNat) := by
  rw [ys4]
  exact if_pos ⟨by omega, by omega⟩
theorem zb3 {f g : PSt -> Option (Fl × PSt)} {p p' : PSt} (h : f p = some (.nx, p')) : zb8 f g p = g p' := by unfold zb8; rw [h]; rfl
theorem zq2 {f g : PSt -> Option (Fl × PSt)} {p p' : PSt} {d : D} (h : f p = some (.ret d, p')) : zb8 f g p = some (.ret d, p') := by unfold zb8; rw [h]; rfl
theorem xm0 {c : PSt -> Option (Bool × PSt)} {f g : PSt -> Option (Fl × PSt)} {p p' : PSt} (h : c p = some (true, p')) : fIf c f g p = f p' := by unfold fIf; rw [h]; rfl
theorem zx4 {c : PSt -> Option (Bool × PSt)} {f g : PSt -> Option (Fl × PSt)} {p p' : PSt} (h : c p = some (false, p')) : fIf c f g p = g p' := by unfold fIf; rw [h]; rfl
theorem zo3 {i : Nat} {f : PSt -> Option D} {p : PSt} {d : D} (h : f p = some d) : zd1 i (za4 f) p = some (.nx, p.set i (some d)) := by unfold zd1 za4; rw [h]; rfl
theorem zj4 {f : PSt -> Option D} {p : PSt} {d : D} (h : f p = some d) : ze4 (za4 f) p = some (.ret d, p) := by unfold ze4 za4; rw [h]; rfl
theorem zt7 {np n : Nat} {f : PSt -> Option (Fl × PSt)} {ds : List D} {d : D} {p : PSt} (hl : ds.length = np) (h : f (ds.map some ++ List.replicate n none) = some (.ret d, p)) : gP np n f ds = some d := by
  unfold gP; rw [if_pos hl, h]; rfl
theorem ze2 {g : D -> D -> Option D} {fa fb : PSt -> Option D} {p : PSt} {x y d : D} (h1 : fa p = some x) (h2 : fb p = some y) (h3 : g x y = some d) : f2 g fa fb p = some d := by unfold f2; rw [h1, h2]; exact h3
theorem zi1 {h : List D -> Option D} {g : PSt -> Option (List D)} {p : PSt} {ds : List D} {d : D} (h1 : g p = some ds) (h2 : h ds = some d) : za5 h g p = some d := by unfold za5; rw [h1]; exact h2
theorem zc4 {f : PSt -> Option D} {g : PSt -> Option (List D)} {p : PSt} {d : D} {ds : List D} (h1 : f p = some d) (h2 : g p = some ds) : za1 f g p = some (d :: ds) := by unfold za1; rw [h1, h2]; rfl
noncomputable def zd5 (ws : List Str) : List D := ws.map .str
theorem yz1 (a b : List Str) : zd5 (a ++ b) = zd5 a ++ zd5 b := by simp [zd5]
theorem yc1 (a : List Str) : (zd5 a).length = a.length := by simp [zd5]
theorem ye5 {g : PSt -> Option (List D)} {p : PSt} {ds : List D} (h : g p = some ds) (hl : ds.length <= 1000) : zi4 g p = some (.lst true ds) := by unfold zi4; rw [h]; exact if_pos hl
theorem yw5 (a : Int) (b c : Nat) (hc : 0 < c) : ∃ n : Nat, (b : Int) + a % (c : Int) = (n : Int) /\ n < b + c := by
  have h1 := Int.emod_nonneg a (show (c : Int) ≠ 0 by omega)
  have h2 := Int.emod_lt_of_pos a (show (0 : Int) < c by omega)
  exact ⟨(b + a % c).toNat, by omega, by omega⟩
theorem xm1 (k : Nat) (n : Nat) : zv4 (k : Int) (n + 1) = .int k :: zv4 ((k + 1 : Nat) : Int) n := by
  unfold zv4
  rw [List.range_succ_eq_map, List.map_cons, List.map_map]
  congr 1
  . simp
    intro j _
    omega
theorem wm1 {n : Nat} (h : n <= 1000) : ys4 [.int (n : Int)] = some (zv4 ((0 : Nat) : Int) n) := wc3 (j := (n : Int)) (by omega) (by omega)
end My
namespace My
open PySem PySem.Spec PyProof.Rows L2 L3
theorem yl6 {i : Nat} {p : PSt} {d : D} (h : p[i]? = some (some d)) : za0 i p = some d := by unfold za0; rw [h]; rfl
theorem zn4 {f : PSt -> Option Bool} {p : PSt} {b : Bool} (h : f p = some b) : za6 f p = some (b, p) := by unfold za6; rw [h]; rfl
theorem yc2 {f : PSt -> Option D} {p : PSt} {b : Bool} (h : f p = some (.bl b)) : fB f p = some b := by unfold fB; rw [h]; rfl
theorem xy5 {f : PSt -> Option D} {p : PSt} {b : Bool} (h : f p = some (.bl b)) : fT f p = some b := by unfold fT; rw [h]; rfl
theorem zv2 {f g : PSt -> Option Bool} {p : PSt} (h : f p = some false) : zl9 f g p = some false := by unfold zl9; rw [h]; rfl
theorem zx8 {f g : PSt -> Option Bool} {p : PSt} {b : Bool} (h : f p = some true) (h2 : g p = some b) : zl9 f g p = some b := by unfold zl9; rw [h]; exact h2
theorem wk5 {f g : PSt -> Option Bool} {p : PSt} (h : f p = some true) : zj6 f g p = some true := by unfold zj6; rw [h]; rfl
theorem xm2 {f g : PSt -> Option Bool} {p : PSt} {b : Bool} (h : f p = some false) (h2 : g p = some b) : zj6 f g p = some b := by unfold zj6; rw [h]; exact h2
theorem zw6 {f : PSt -> Option Bool} {p : PSt} {b : Bool} (h : f p = some b) : zu0 f p = some (!b) := by unfold zu0; rw [h]; rfl
theorem zf5 {c : PSt -> Option Bool} {F : PSt -> Option (Fl × PSt)} {p : PSt} (h : c p = some false) : fIf (za6 c) F zd7 p = some (.nx, p) := (zx4 (zn4 h)).trans rfl
theorem zj1 {c : PSt -> Option Bool} {F G : PSt -> Option (Fl × PSt)} {p : PSt} (h : c p = some true) : fIf (za6 c) F G p = F p := xm0 (zn4 h)
noncomputable def kdT (i : Nat) (w : String) : PSt -> Option Bool := fB (f2 dEq (f2 dIx (za0 i) (fC (.int 0))) (fC (.str w)))
theorem zn5 {i : Nat} {p : PSt} {k w : String} {ds : List D} {b : Bool} (hp : p[i]? = some (some (.tup (.str k :: ds)))) (h : decide (k = w) = b) : kdT i w p = some b := by
  refine yc2 (ze2 (ze2 (yl6 hp) rfl (zm1 _ _)) rfl ?_)
  show some (D.bl (decide ((k : Str) = (w : Str)))) = _
  rw [<- h]
  congr 2
  exact decide_eq_decide.mpr (by rw [zf0])
theorem yg6 {f : PSt -> Option (D × PSt)} {p p' : PSt} {d : D} (h : f p = some (d, p')) : zb4 f p = some (.nx, p') := by unfold zb4; rw [h]; rfl
theorem zk8 {f : PSt -> Option D} {p : PSt} {d : D} (h : f p = some d) (hi : d.imm = true) : za9 f p = some d := by unfold za9; rw [h]; exact if_pos hi
theorem xw1 {p : PSt} : zb6 [] p = some [] := rfl
theorem xi0 {f : PSt -> Option D} {as : List L2.Arg} {p : PSt} {d : D} {ds : List D} (h : f p = some d) (hi : d.imm = true) (h2 : zb6 as p = some ds) : zb6 (.im f :: as) p = some (d :: ds) := by
  show (za9 f p).bind _ = _
  rw [zk8 h hi, Option.bind_some, h2]; rfl
theorem wk6 (t : Str) : yj9 [.str t, .ty "str"] = some (.bl true) := by
  unfold yj9
  show (if "str" ∈ ["bool", "int", "str", "list", "tuple", "dict"] then some (D.bl (ys2 "str" "str")) else none) = _
  rw [if_pos (by simp)]
  rfl
end My
namespace My
open PySem PySem.Spec PyProof.Rows L2 L3
section
variable {c : Nat}
theorem zn6 (x y : Str) (r : List Str) : (Str.join ⟨#[c]⟩ (x :: y :: r)).cps.toList = x.cps.toList ++ c :: (Str.join ⟨#[c]⟩ (y :: r)).cps.toList := by
  show ((x ++ ⟨#[c]⟩) ++ Str.join ⟨#[c]⟩ (y :: r)).cps.toList = _
  rw [zd4, zd4]
  show (x.cps.toList ++ [c]) ++ _ = _
  simp
end
end My
namespace My
open PySem PySem.Spec PyProof.Rows L2 L3
structure Gm where
  kd : Nat
  n : Int
  full : List (List Pc)
  parts : List Pc
noncomputable def yt1 : List Pc := [.leaf (.word "or")]
noncomputable def zz7 (f : Gm) : List (List Pc) := if f.full = [] then [f.parts, yt1] else f.full ++ [f.parts]
noncomputable def zz8 (f : Gm) : Pc := match f.kd with
  | 1 => .group f.parts
  | 2 => .hang f.n f.parts
  | _ => .either (zz7 f)
noncomputable def wj3 (g : Gm) (p : Pc) : Gm := { g with parts := g.parts ++ [p] }
mutual
noncomputable def okP : Pc -> Prop
  | .leaf l => zp8 l
  | .group r => okR r
  | .hang n r => (0 <= n /\ n <= 12) /\ okR r
  | .either rs => (2 <= rs.length /\ rs.length <= 4) /\ zt4 rs
noncomputable def okR : List Pc -> Prop
  | [] => True
  | p :: r => okP p /\ okR r
noncomputable def zt4 : List (List Pc) -> Prop
  | [] => True
  | r :: rs => okR r /\ zt4 rs
end
theorem ye6 : ∀ a b : List Pc, okR (a ++ b) ↔ okR a /\ okR b
  | [], b => by simp [okR]
  | p :: a, b => by rw [List.cons_append, okR, okR, ye6 a b, and_assoc]
theorem yo7 : ∀ a b : List (List Pc), zt4 (a ++ b) ↔ zt4 a /\ zt4 b
  | [], b => by simp [zt4]
  | p :: a, b => by rw [List.cons_append, zt4, zt4, yo7 a b, and_assoc]
theorem yl7 (p : Pc) : okR [p] ↔ okP p := by simp [okR]
theorem xe1 (r : List Pc) : zt4 [r] ↔ okR r := by simp [zt4]
theorem yb0 : ∀ a b : List (List Pc), zg8 (a ++ b) = zg8 a ++ zg8 b
  | [], b => rfl
  | r :: a, b => by
    show Tk.orr :: (zd2 r ++ zg8 (a ++ b)) = (Tk.orr :: (zd2 r ++ zg8 a)) ++ zg8 b
    rw [yb0 a b]; simp
noncomputable def wF (f : Gm) : Nat := (zg8 f.full).length + (zd2 f.parts).length + 4
noncomputable def wG : List Gm -> Nat
  | [] => 0
  | f :: fs => wF f + wG fs
noncomputable def wj4 (f : Gm) : Prop := zt4 f.full /\ okR f.parts /\ f.full.length <= 3 /\ (f.kd ≠ 3 -> f.full = []) /\ 0 <= f.n /\ f.n <= 12
noncomputable def xt1 : List Gm -> Prop
  | [] => False
  | [f] => f.kd = 0
  | f :: g :: fs => (1 <= f.kd /\ f.kd <= 3) /\ xt1 (g :: fs)
noncomputable def xz3 (m : Nat) : List Gm -> Prop
  | [] => True
  | f :: fs => zf6 f.parts + fs.length <= m /\ zr6 f.full + fs.length <= m /\ xz3 m fs
structure GInv (nest k : Nat) (fs : List Gm) : Prop where
  len : fs.length <= nest + 1
  wt : wG fs <= 4 * k + 4
  each : ∀ f ∈ fs, wj4 f
  kinds : xt1 fs
  deep : xz3 nest fs
theorem xm3 {f : Gm} (h : f.kd ≠ 3 -> f.full = []) (hk : 1 <= f.kd /\ f.kd <= 3) : (zh5 (zz8 f)).length <= wF f := by
  have e : f.kd = 1 \/ f.kd = 2 \/ f.kd = 3 := by omega
  unfold wF zz8
  rcases e with e | e | e
  . rw [e]; show (Tk.opn :: (zd2 f.parts ++ [.cls])).length <= _; rw [List.length_cons, List.length_append]; simp; omega
  . rw [e]; show (Tk.hng f.n :: (zd2 f.parts ++ [.bck])).length <= _; rw [List.length_cons, List.length_append]; simp; omega
  . rw [e]
    show (Tk.eit :: (yh3 (zz7 f) ++ [.don])).length <= _
    rw [List.length_cons, List.length_append]
    unfold zz7
    cases hf : f.full with
    | nil =>
      rw [if_pos rfl]
      show (zd2 f.parts ++ (Tk.orr :: (zd2 yt1 ++ []))).length + 1 + 1 <= _
      simp [yt1, zd2, zh5, zg8]
    | cons r rs =>
      rw [if_neg (by simp)]
      show (zd2 r ++ zg8 (rs ++ [f.parts])).length + 1 + 1 <= (Tk.orr :: (zd2 r ++ zg8 rs)).length + _ + 4
      rw [yb0]
      simp [zg8]; omega
theorem xw2 {f : Gm} (h : wj4 f) (hk : 1 <= f.kd /\ f.kd <= 3) : okP (zz8 f) := by
  obtain ⟨h1, h2, h3, h4, h5, h6⟩ := h
  have e : f.kd = 1 \/ f.kd = 2 \/ f.kd = 3 := by omega
  unfold zz8
  rcases e with e | e | e
  . rw [e]; exact h2
  . rw [e]; exact ⟨⟨h5, h6⟩, h2⟩
  . rw [e]
    show (2 <= (zz7 f).length /\ (zz7 f).length <= 4) /\ zt4 (zz7 f)
    unfold zz7
    by_cases c : f.full = []
    . rw [if_pos c]
      refine ⟨⟨by simp, by simp⟩, h2, ?_, trivial⟩
      exact ⟨⟨by decide +kernel, by decide +kernel, by decide +kernel⟩, trivial⟩
    . rw [if_neg c]
      have hp : 1 <= f.full.length := by cases hf : f.full with | nil => exact absurd hf c | cons a l => simp
      refine ⟨⟨by rw [List.length_append]; simp; omega, by rw [List.length_append]; simp; omega⟩, ?_⟩
      rw [yo7, xe1]; exact ⟨h1, h2⟩
theorem xr6 {f : Gm} {m k : Nat} (h1 : zf6 f.parts + (k + 1) <= m) (h2 : zr6 f.full + (k + 1) <= m) : zr3 (zz8 f) + k <= m := by
  unfold zz8
  split
  . show zf6 f.parts + 1 + k <= m; omega
  . show zf6 f.parts + 1 + k <= m; omega
  . show zr6 (zz7 f) + 1 + k <= m
    unfold zz7
    split
    . show max (zf6 f.parts) (max (zf6 yt1) 0) + 1 + k <= m
      have : zf6 yt1 = 0 := rfl
      omega
    . rw [yg1]; omega
theorem GInv.leaf {nest k : Nat} {f : Gm} {fs : List Gm} {l : Leaf} (h : GInv nest k (f :: fs)) (hl : zp8 l) : GInv nest (k + 1) (wj3 f (.leaf l) :: fs) := by
  obtain ⟨h1, h2, h3, h4, h5⟩ := h
  have hf := h3 f List.mem_cons_self
  refine ⟨h1, ?_, ?_, ?_, ?_⟩
  . have h2' : wF f + wG fs <= 4 * k + 4 := h2
    show (zg8 f.full).length + (zd2 (f.parts ++ [.leaf l])).length + 4 + wG fs <= _
    rw [ya9, List.length_append]
    unfold wF at h2'
    show _ + (_ + 1) + 4 + _ <= _
    omega
  . intro x hx
    rcases List.mem_cons.mp hx with rfl | hx
    . obtain ⟨a1, a2, a3, a4, a5⟩ := hf
      exact ⟨a1, (ye6 _ _).mpr ⟨a2, (yl7 _).mpr hl⟩, a3, a4, a5⟩
    . exact h3 x (List.mem_cons_of_mem _ hx)
  . cases fs with
    | nil => exact h4
    | cons g fs => exact ⟨h4.1, h4.2⟩
  . refine ⟨?_, h5.2.1, h5.2.2⟩
    show zf6 (f.parts ++ [.leaf l]) + fs.length <= nest
    rw [yj1]
    have := h5.1
    show max _ 0 + _ <= _
    omega
theorem GInv.orr {nest k : Nat} {f : Gm} {fs : List Gm} (h : GInv nest k (f :: fs)) (hf3 : f.full.length < 3) (hk : f.kd = 3) : GInv nest (k + 1) ({ f with full := f.full ++ [f.parts], parts := [] } :: fs) := by
  obtain ⟨h1, h2, h3, h4, h5⟩ := h
  have hf := h3 f List.mem_cons_self
  refine ⟨h1, ?_, ?_, ?_, ?_⟩
  . have h2' : wF f + wG fs <= 4 * k + 4 := h2
    show (zg8 (f.full ++ [f.parts])).length + 0 + 4 + wG fs <= _
    rw [yb0, List.length_append]
    unfold wF at h2'
    simp [zg8]; omega
  . intro x hx
    rcases List.mem_cons.mp hx with rfl | hx
    . obtain ⟨a1, a2, a3, a4, a5⟩ := hf
      exact ⟨(yo7 _ _).mpr ⟨a1, (xe1 _).mpr a2⟩, trivial, by show (f.full ++ [f.parts]).length <= 3; rw [List.length_append]; simp; omega, fun z => absurd hk z, a5⟩
    . exact h3 x (List.mem_cons_of_mem _ hx)
  . cases fs with
    | nil => exact h4
    | cons g fs => exact ⟨h4.1, h4.2⟩
  . refine ⟨?_, ?_, h5.2.2⟩
    . show 0 + _ <= _
      have := h5.1; omega
    . show zr6 (f.full ++ [f.parts]) + fs.length <= nest
      rw [yg1]
      have a1 := h5.1; have a2 := h5.2.1
      omega
theorem GInv.shut {nest k : Nat} {f g : Gm} {fs : List Gm} (h : GInv nest k (f :: g :: fs)) : GInv nest k (wj3 g (zz8 f) :: fs) := by
  obtain ⟨h1, h2, h3, h4, h5⟩ := h
  have hf := h3 f List.mem_cons_self
  have hg := h3 g (List.mem_cons_of_mem _ List.mem_cons_self)
  have hk := h4.1
  refine ⟨by simp at h1 |-; omega, ?_, ?_, ?_, ?_⟩
  . have h2' : wF f + (wF g + wG fs) <= 4 * k + 4 := h2
    have t := xm3 hf.2.2.2.1 hk
    show (zg8 g.full).length + (zd2 (g.parts ++ [zz8 f])).length + 4 + wG fs <= _
    rw [ya9, List.length_append, xr3]
    unfold wF at h2' t
    omega
  . intro x hx
    rcases List.mem_cons.mp hx with rfl | hx
    . obtain ⟨a1, a2, a3, a4, a5⟩ := hg
      exact ⟨a1, (ye6 _ _).mpr ⟨a2, (yl7 _).mpr (xw2 hf hk)⟩, a3, a4, a5⟩
    . exact h3 x (List.mem_cons_of_mem _ (List.mem_cons_of_mem _ hx))
  . cases fs with
    | nil => exact h4.2
    | cons g' fs => exact ⟨h4.2.1, h4.2.2⟩
  . obtain ⟨d1, d2, d3, d4, d5⟩ := h5
    refine ⟨?_, d4, d5⟩
    show zf6 (g.parts ++ [zz8 f]) + fs.length <= nest
    rw [yj1]
    have := xr6 (f := f) (m := nest) (k := fs.length) d1 d2
    omega
theorem GInv.more {nest k k' : Nat} {fs : List Gm} (h : GInv nest k fs) (hk : k <= k') : GInv nest k' fs := ⟨h.len, by have := h.wt; omega, h.each, h.kinds, h.deep⟩
theorem xr7 : ∀ {fs : List Gm} {f : Gm}, f ∈ fs -> wF f <= wG fs
  | [], _, h => by simp at h
  | g :: fs, f, h => by
    show wF f <= wF g + wG fs
    rcases List.mem_cons.mp h with rfl | h
    . omega
    . have := xr7 h; omega
theorem xm4 (p : Pc) : 1 <= (zh5 p).length := by cases p <;> simp [zh5]
theorem zv3 : ∀ r : List Pc, r.length <= (zd2 r).length
  | [] => Nat.le_refl _
  | p :: r => by
    show r.length + 1 <= (zh5 p ++ zd2 r).length
    rw [List.length_append]
    have := zv3 r; have := xm4 p; omega
theorem GInv.parts {nest k : Nat} {fs : List Gm} {f : Gm} (h : GInv nest k fs) (hf : f ∈ fs) : f.parts.length <= 4 * k + 4 := by
  have h1 := xr7 hf; have h2 := h.wt; have h3 := zv3 f.parts
  unfold wF at h1; omega
end My
namespace My
open PySem PySem.Spec PyProof.Rows L2 L3
theorem xm5 : ("\n" : Str) = ⟨#[10]⟩ := by decide +kernel
theorem xy6 : (" " : Str) = ⟨#[32]⟩ := by decide +kernel
theorem xe2 : ("" : Str) = ⟨#[]⟩ := by decide +kernel
theorem zo8 {x y : Str} (h : x.cps.toList = y.cps.toList) : x = y := by
  cases x; cases y
  simp only at h
  rw [Array.toList_inj.mp h]
theorem zs0 (x : Str) : x.length = x.cps.toList.length := by simp [Str.length]
theorem yz2 : ∀ (n : Nat) (a b : Array Nat), ((List.replicate n a).foldl (· ++ ·) b).toList = b.toList ++ (List.replicate n a.toList).flatten
  | 0, a, b => by simp
  | n + 1, a, b => by
    rw [List.replicate_succ, List.foldl_cons, yz2 n a (b ++ a), List.replicate_succ, List.flatten_cons]
    simp
theorem yb1 (n : Int) : (Txt.mul " " n).cps.toList = List.replicate n.toNat 32 := by
  rw [xy6]
  unfold Txt.mul
  by_cases h : n < 1
  . rw [if_pos h, show n.toNat = 0 by omega]; rfl
  . rw [if_neg h]
    by_cases h1 : n = 1
    . subst h1; rfl
    . rw [if_neg]
      . show ((List.replicate n.toNat #[32]).foldl (· ++ ·) #[]).toList = _
        rw [yz2]
        simp
      . simp [h1, Str.length]
theorem zw7 (n : Int) : (Txt.mul " " n).length = n.toNat := by rw [zs0, yb1, List.length_replicate]
theorem yr9 (n : Int) : (10 : Nat) ∉ (Txt.mul " " n).cps.toList := by rw [yb1]; simp
noncomputable def col (t : Str) : Nat := (t.cps.toList.reverse.takeWhile (· != 10)).length
theorem xr8 {l : List Nat} (h : (10 : Nat) ∉ l) : ∀ a ∈ l, (a != 10) = true := fun a ha => by
  simp only [bne_iff_ne, ne_eq]
  intro e; subst e; exact h ha
theorem yw6 {t w : Str} (h : (10 : Nat) ∉ w.cps.toList) : col (t ++ w) = col t + w.length := by
  unfold col
  rw [zd4, List.reverse_append, List.takeWhile_append_of_pos (xr8 (by simpa using h)), List.length_append, List.length_reverse, zs0]
  omega
theorem xr9 {t w : Str} (h : (10 : Nat) ∉ w.cps.toList) : col (t ++ ((⟨#[10]⟩ : Str) ++ w)) = w.length := by
  unfold col
  rw [zd4, zd4, List.reverse_append, List.reverse_append, List.append_assoc, List.takeWhile_append_of_pos (xr8 (by simpa using h)), List.length_append, List.length_reverse, zs0]
  simp
theorem wh6 (t : Str) : col t <= t.length := by
  unfold col
  rw [zs0, <- List.length_reverse (as := t.cps.toList)]
  exact (List.takeWhile_sublist _).length_le
theorem wk7 {t : Str} {i : Nat} : StrLaws.At t ⟨#[10]⟩ t.length i ↔ t.cps.toList[i]? = some 10 := by
  unfold StrLaws.At Builtin.Str.subAt
  show i + 1 <= t.length /\ (t.cps.extract i (i + 1) == #[10]) = true ↔ _
  rw [beq_iff_eq, <- Array.toList_inj]
  have e : (t.cps.extract i (i + 1)).toList = (t.cps.toList.drop i).take 1 := by simp [Array.toList_extract, List.extract]
  rw [e, zs0]
  constructor
  . intro ⟨h1, h2⟩
    rw [List.getElem?_eq_getElem (by omega)]
    rw [List.drop_eq_getElem_cons (by omega)] at h2
    simpa using h2
  . intro h
    obtain ⟨hi, h2⟩ := List.getElem?_eq_some_iff.mp h
    refine ⟨by omega, ?_⟩
    rw [List.drop_eq_getElem_cons hi, h2]
    rfl
noncomputable def nlw (m : Int) : Str := (⟨#[10]⟩ : Str) ++ Txt.mul " " m
noncomputable def wr (b : Bool) (m : Int) (k : Nat) : Leaf -> Option Str
  | .word x => some x
  | .gap x => if b then some (nlw m) else some x
  | .stop c => if (k : Int) <= c then some (Txt.mul " " (c - k)) else if b then some (nlw c) else none
  | .fin => if b then some (nlw m) else none
noncomputable def Wr (w : Str) : Prop := (10 : Nat) ∉ w.cps.toList \/ ∃ m : Int, w = nlw m
theorem xi1 {x : Str} (h : xf8 x) : (10 : Nat) ∉ x.cps.toList := fun hm => by
  have := List.all_eq_true.mp h.2.2 _ hm
  simp [xn8] at this
theorem wh7 {x : Str} (h : x = "" \/ x = " ") : (10 : Nat) ∉ x.cps.toList := by
  rcases h with rfl | rfl
  . simp [show ("" : Str) = ⟨#[]⟩ from by decide +kernel]
  . simp [xy6]
theorem xm6 {b : Bool} {m : Int} {k : Nat} {l : Leaf} {w : Str} (hl : zp8 l) (h0 : 0 <= m) (h1 : m <= 200) (h : wr b m k l = some w) : Wr w /\ w.length <= 201 := by
  have nl : ∀ c : Int, 0 <= c -> c <= 200 -> Wr (nlw c) /\ (nlw c).length <= 201 := fun c c0 c1 => ⟨.inr ⟨c, rfl⟩, by unfold nlw; rw [zi3, zw7]; show 1 + _ <= _; omega⟩
  cases l with
  | word x => cases h; exact ⟨.inl (xi1 hl), by have := hl.2.1; omega⟩
  | gap x =>
    cases b with
    | true => cases h; exact nl m h0 h1
    | false =>
      have e : x = w := by simpa [wr] using h
      subst e
      have hl' : x = "" \/ x = " " := hl
      refine ⟨.inl (wh7 hl'), ?_⟩
      rcases hl' with e | e <;> subst e
      . show (0 : Nat) <= 201; decide
      . show (1 : Nat) <= 201; decide
  | stop c =>
    have hc : 0 <= c /\ c <= 40 := hl
    change (if (k : Int) <= c then some (Txt.mul " " (c - k)) else if b = true then some (nlw c) else none) = some w at h
    by_cases hk : (k : Int) <= c
    . rw [if_pos hk] at h; cases h
      exact ⟨.inl (yr9 _), by rw [zw7]; omega⟩
    . rw [if_neg hk] at h
      cases b with
      | true => cases h; exact nl c hc.1 (by omega)
      | false => cases h
  | fin =>
    cases b with
    | true => cases h; exact nl m h0 h1
    | false => cases h
mutual
noncomputable def yb7 : Bool -> Int -> Pc -> List Int -> Str -> Option (List Int × Str)
  | b, m, .leaf l, cs, t => (wr b m (col t) l).map fun w => (cs, t ++ w)
  | b, m, .group r, cs, t => if b = true then (match cs with
      | [] => none
      | c :: cs => if c = 0 then zr4 false m r cs t else if c = 1 then zr4 true m r cs t else none) else zr4 false m r cs t
  | b, m, .hang n r, cs, t => zr4 b (m + n) r cs t
  | b, m, .either rs, cs, t => match cs with
      | [] => none
      | c :: cs => if 0 <= c then yc7 b m rs c.toNat cs t else none
noncomputable def zr4 : Bool -> Int -> List Pc -> List Int -> Str -> Option (List Int × Str)
  | _, _, [], cs, t => some (cs, t)
  | b, m, p :: r, cs, t => (yb7 b m p cs t).bind fun s => zr4 b m r s.1 s.2
noncomputable def yc7 : Bool -> Int -> List (List Pc) -> Nat -> List Int -> Str -> Option (List Int × Str)
  | _, _, [], _, _, _ => none
  | b, m, r :: _, 0, cs, t => zr4 b m r cs t
  | b, m, _ :: rs, i + 1, cs, t => yc7 b m rs i cs t
end
theorem yz3 : ∀ {rs : List (List Pc)} {i : Nat} {b : Bool} {m : Int} {cs : List Int} {t : Str} {r : List Pc}, rs[i]? = some r -> yc7 b m rs i cs t = zr4 b m r cs t
  | [], i, _, _, _, _, _, h => by simp at h
  | q :: rs, 0, _, _, _, _, _, h => by simp at h; subst h; rw [yc7]
  | q :: rs, i + 1, _, _, _, _, _, h => by rw [yc7]; exact yz3 (by simpa using h)
theorem ys0 : ∀ {rs : List (List Pc)} {i : Nat} {b : Bool} {m : Int} {cs : List Int} {t : Str}, rs[i]? = none -> yc7 b m rs i cs t = none
  | [], i, _, _, _, _, h => by rw [yc7]
  | q :: rs, 0, _, _, _, _, h => by simp at h
  | q :: rs, i + 1, _, _, _, _, h => by rw [yc7]; exact ys0 (by simpa using h)
end My
namespace My
open PySem PySem.Spec PyProof.Rows L2 L3
noncomputable abbrev nsP : List Str := ["broken", "margin"]
noncomputable def za7 (b : Bool) (m : Int) : D := .obj false "Place" nsP [.bl b, .int m]
noncomputable abbrev zn1 : List D -> Option (D × List D) := gE 3 0 (zd9 [true, false, false]) yh8
theorem xm7 (b : Bool) (m : Int) : zn1 [.obj true "Place" [] [], .bl b, .int m] = some (.non, [.obj true "Place" nsP [.bl b, .int m], .bl b, .int m]) := by
  kernel_rfl
noncomputable abbrev yt2 : List D -> Option D := gP 0 0 (yb6 zn1)
noncomputable abbrev zy2 : List D -> Option D := gP 1 0 yc6
noncomputable def yk3 : Pc -> Bool
  | .leaf _ => false
  | _ => true
theorem xe3 (p : Pc) : zy2 [pcD p] = some (.bl (yk3 p)) := by
  cases p with
  | leaf l => cases l <;> kernel_rfl
  | _ => kernel_rfl
noncomputable abbrev yb8 : List D -> Option D := gP 2 0 zy9
noncomputable def yt3 (b : Bool) : Pc -> Bool
  | .either _ => true
  | .group _ => b
  | _ => false
theorem xw3 (p : Pc) (b : Bool) (m : Int) (hp : yk3 p = true) : yb8 [pcD p, za7 b m] = some (.bl (yt3 b p)) := by
  cases p with
  | leaf l => cases hp
  | group r => cases b <;> kernel_rfl
  | _ => kernel_rfl
noncomputable def yc8 (b : Bool) (m : Int) : Pc -> List (List Pc × Bool × Int)
  | .leaf _ => []
  | .group r => if b = true then [(r, false, m), (r, true, m)] else [(r, false, m)]
  | .hang n r => [(r, b, m + n)]
  | .either rs => rs.map fun r => (r, b, m)
noncomputable def zp3 (x : List Pc × Bool × Int) : D := .tup [.tup (zb7 x.1), za7 x.2.1 x.2.2]
noncomputable abbrev yt4 : List D -> Option D := gP 2 2 (zs6 zn1)
theorem zx9 (b : Bool) (m : Int) : (za7 b m).imm = true := rfl
theorem yw7 (x : List Pc × Bool × Int) : (zp3 x).imm = true := by
  show (D.imm (.tup (zb7 x.1)) && (D.imm (za7 x.2.1 x.2.2) && D.imms [])) = true
  rw [show D.imm (.tup (zb7 x.1)) = D.imms (zb7 x.1) from rfl, zk7]; rfl
theorem yz4 (b : Bool) (m : Int) : ∀ (rs : List (List Pc)) (x : Option D), zv5 [x, some (za7 b m)] yp3 (zi5 (za1 (za9 (za0 0)) (za1 (za9 (za0 1)) za2))) (zr7 rs) = some ((rs.map fun r => (r, b, m)).map zp3)
  | [], _ => rfl
  | r :: rs, x => by
    have ih := yz4 b m rs x
    have hi := zx9 b m
    have hp := zk7 r
    show zv5 _ _ _ (.tup (zb7 r) :: zr7 rs) = _
    rw [zv5]
    show (yp3 [some (.tup (zb7 r)), some (za7 b m)]).bind _ = _
    rw [List.map_cons, List.map_cons]
    have e : zi5 (za1 (za9 (za0 0)) (za1 (za9 (za0 1)) za2)) [some (.tup (zb7 r)), some (za7 b m)] = some (zp3 (r, b, m)) := by
      unfold zp3
      generalize za7 b m = q at hi |-
      simp [gP, gE, zb8, zd7, zd1, za4, fIf, za6, fB, f2, za0, fC, za9, ze4, zb4, zc0, zb0, zc9, zd6, za1, za2, zi4, zi5, za5, dEq, dNe, eqB, dB, dIx, zh0, zc5, D.imm, D.imms, zh2, zl6, fT, zc7, zf0, zm1, zj0, yw3, zs4, dIn, inB, zz5, D.flat, D.flats, inV, eqV, zu0, zl9, zj6, zy6, fOr, zb6, zk2, zf2, zg7, zd0, zp0, zf9, zi9, zg9, zx0, zm3, zd9, dLe, dLt, dGe, dIs, zk0, fMt, zo0, yp2, hp, hi]
    show ((zi5 (za1 (za9 (za0 0)) (za1 (za9 (za0 1)) za2)) [some (.tup (zb7 r)), some (za7 b m)]).bind _) = _
    rw [e, Option.bind_some, ih]; rfl
noncomputable def yt5 : Pc -> Nat
  | .either rs => rs.length
  | _ => 0
theorem kd2 {p : PSt} {k w : String} {b : Bool} (hp : p[2]? = some (some (.str k))) (h : decide (k = w) = b) : fB (f2 dEq (za0 2) (fC (.str w))) p = some b := by
  refine yc2 (ze2 (yl6 hp) rfl ?_)
  show some (D.bl (decide ((k : Str) = (w : Str)))) = _
  rw [<- h]
  congr 2
  exact decide_eq_decide.mpr (by rw [zf0])
theorem yo8 {p : PSt} {f g : PSt -> Option D} {b : Bool} {m : Int} (h1 : f p = some (.bl b)) (h2 : g p = some (.int m)) : zx0 (zg9 "Place" (zb6 [.im f, .im g]) zn1) p = some (za7 b m) := by
  have q := xm7 b m
  have e : zg9 "Place" (zb6 [.im f, .im g]) zn1 p = some (.obj true "Place" nsP [.bl b, .int m]) := by
    unfold zg9
    rw [xi0 h1 rfl (xi0 h2 rfl xw1), Option.bind_some, q]; rfl
  unfold zx0
  rw [e]; rfl
theorem xw4 : yt2 [] = some (za7 true 0) := zt7 (p := []) rfl (zj4 (yo8 rfl rfl))
theorem yw8 {p : PSt} {f g : PSt -> Option D} {r : List Pc} {b : Bool} {m : Int} (h1 : f p = some (.tup (zb7 r))) (h2 : g p = some (za7 b m)) : zi5 (za1 f (za1 g za2)) p = some (zp3 (r, b, m)) := by
  unfold zi5
  rw [zc4 h1 (zc4 h2 rfl)]
  refine (if_pos ?_).trans rfl
  have := yw7 (r, b, m)
  rw [show D.imms [.tup (zb7 r), za7 b m] = true from this]; rfl
theorem wc4 (p : Pc) (b : Bool) (m : Int) (hp : yk3 p = true) (hl : yt5 p <= 1000) : yt4 [pcD p, za7 b m] = some (.lst true ((yc8 b m p).map zp3)) := by
  show gP 2 2 (zs6 zn1) _ = _
  cases p with
  | leaf l => cases hp
  | group r =>
    have s1 : zd1 2 (za4 (za9 (f2 dIx (za0 0) (fC (.int 0))))) [some (pcD (.group r)), some (za7 b m), none, none] = some (.nx, [some (pcD (.group r)), some (za7 b m), some (.str "group"), none]) := zo3 (zk8 (ze2 rfl rfl (zm1 _ _)) rfl)
    have s4 : zd1 3 (za4 (zi5 (za1 (za9 (f2 dIx (za0 0) (fC (.int 1)))) (za1 (zx0 (zg9 "Place" (zb6 [.im (fC (.bl false)), .im (zf9 "Place" "margin" (za0 1))]) zn1)) za2)))) [some (pcD (.group r)), some (za7 b m), some (.str "group"), none] = some (.nx, [some (pcD (.group r)), some (za7 b m), some (.str "group"), some (zp3 (r, false, m))]) := zo3 (yw8 (zk8 (ze2 rfl rfl (zj0 _ _ _)) (zk7 r)) (yo8 rfl (by kernel_rfl)))
    have w3 : za9 (za0 3) [some (pcD (.group r)), some (za7 b m), some (.str "group"), some (zp3 (r, false, m))] = some (zp3 (r, false, m)) := zk8 rfl (yw7 _)
    have br : fT (zf9 "Place" "broken" (za0 1)) [some (pcD (.group r)), some (za7 b m), some (.str "group"), some (zp3 (r, false, m))] = some b := xy5 (by kernel_rfl)
    suffices h : ∃ q, zs6 zn1 [some (pcD (.group r)), some (za7 b m), none, none] = some (.ret (.lst true ((yc8 b m (.group r)).map zp3)), q) from by
      obtain ⟨q, hq⟩ := h; exact zt7 rfl hq
    unfold zs6
    rw [zb3 s1, zb3 (zf5 (kd2 rfl (by decide))), zb3 (zf5 (kd2 rfl (by decide))), zb3 s4]
    cases b with
    | true => exact ⟨_, zq2 ((zj1 br).trans (zj4 (ye5 (zc4 w3 (zc4 (yw8 (zk8 (ze2 rfl rfl (zj0 _ _ _)) (zk7 r)) (zk8 rfl rfl)) rfl)) (Nat.le_of_ble_eq_true rfl))))⟩
    | false => exact ⟨_, (zb3 (zf5 br)).trans (zj4 (ye5 (zc4 w3 rfl) (Nat.le_of_ble_eq_true rfl)))⟩
  | hang n r =>
    have s1 : zd1 2 (za4 (za9 (f2 dIx (za0 0) (fC (.int 0))))) [some (pcD (.hang n r)), some (za7 b m), none, none] = some (.nx, [some (pcD (.hang n r)), some (za7 b m), some (.str "hang"), none]) := zo3 (zk8 (ze2 rfl rfl (zm1 _ _)) rfl)
    refine zt7 (p := [some (pcD (.hang n r)), some (za7 b m), some (.str "hang"), none]) rfl ?_
    unfold zs6
    exact (zb3 s1).trans (zq2 ((zj1 (kd2 rfl (by decide))).trans (zj4 (ye5 (zc4 (yw8 (zk8 (ze2 rfl rfl (yw3 _ _ _ _)) (zk7 r)) (yo8 (by kernel_rfl) (ze2 (x := .int m) (by kernel_rfl) (ze2 rfl rfl (zj0 _ _ _)) rfl))) rfl) (Nat.le_of_ble_eq_true rfl)))))
  | either rs =>
    generalize zn1 = G
    have hz : (zr7 rs).length <= sizeLine := by rw [yz0]; exact sz hl
    have e := yz4 b m rs none
    have e2 : ys6 [none, some 1] (zo0 (f2 dIx (za0 0) (fC (.int 1)))) yp3 (zi5 (za1 (za9 (za0 0)) (za1 (za9 (za0 1)) za2))) [some (pcD (.either rs)), some (za7 b m), some (.str "either"), none] = some (.lst true ((yc8 b m (.either rs)).map zp3)) := by
      unfold ys6
      have e3 : zo0 (f2 dIx (za0 0) (fC (.int 1))) [some (pcD (.either rs)), some (za7 b m), some (.str "either"), none] = some (zr7 rs) := by simp [gP, gE, zb8, zd7, zd1, za4, fIf, za6, fB, f2, za0, fC, za9, ze4, zb4, zc0, zb0, zc9, zd6, za1, za2, zi4, zi5, za5, dEq, dNe, eqB, dB, dIx, zh0, zc5, D.imm, D.imms, zh2, zl6, fT, zc7, zf0, zm1, zj0, yw3, zs4, dIn, inB, zz5, D.flat, D.flats, inV, eqV, zu0, zl9, zj6, zy6, fOr, zb6, zk2, zf2, zg7, zd0, zp0, zf9, zi9, zg9, zx0, zm3, zd9, dLe, dLt, dGe, dIs, zk0, fMt, zo0, yp2, pcD]
      rw [e3, Option.bind_some, if_pos hz]
      have e4 : zv5 (yb4 [none, some 1] [some (pcD (.either rs)), some (za7 b m), some (.str "either"), none]) yp3 (zi5 (za1 (za9 (za0 0)) (za1 (za9 (za0 1)) za2))) (zr7 rs) = some ((rs.map fun r => (r, b, m)).map zp3) := e
      rw [e4]; rfl
    have s1 : zd1 2 (za4 (za9 (f2 dIx (za0 0) (fC (.int 0))))) [some (pcD (.either rs)), some (za7 b m), none, none] = some (.nx, [some (pcD (.either rs)), some (za7 b m), some (.str "either"), none]) := by simp [gP, gE, zb8, zd7, zd1, za4, fIf, za6, fB, f2, za0, fC, za9, ze4, zb4, zc0, zb0, zc9, zd6, za1, za2, zi4, zi5, za5, dEq, dNe, eqB, dB, dIx, zh0, zc5, D.imm, D.imms, zh2, zl6, fT, zc7, zf0, zm1, zj0, yw3, zs4, dIn, inB, zz5, D.flat, D.flats, inV, eqV, zu0, zl9, zj6, zy6, fOr, zb6, zk2, zf2, zg7, zd0, zp0, zf9, zi9, zg9, zx0, zm3, zd9, dLe, dLt, dGe, dIs, zk0, fMt, zo0, yp2, pcD]
    have s2 : ∀ F : PSt -> Option (Fl × PSt), fIf (za6 (fB (f2 dEq (za0 2) (fC (.str "hang"))))) F zd7 [some (pcD (.either rs)), some (za7 b m), some (.str "either"), none] = some (.nx, [some (pcD (.either rs)), some (za7 b m), some (.str "either"), none]) := fun F => by simp [gP, gE, zb8, zd7, zd1, za4, fIf, za6, fB, f2, za0, fC, za9, ze4, zb4, zc0, zb0, zc9, zd6, za1, za2, zi4, zi5, za5, dEq, dNe, eqB, dB, dIx, zh0, zc5, D.imm, D.imms, zh2, zl6, fT, zc7, zf0, zm1, zj0, yw3, zs4, dIn, inB, zz5, D.flat, D.flats, inV, eqV, zu0, zl9, zj6, zy6, fOr, zb6, zk2, zf2, zg7, zd0, zp0, zf9, zi9, zg9, zx0, zm3, zd9, dLe, dLt, dGe, dIs, zk0, fMt, zo0, yp2]
    have s3 : ∀ F : PSt -> Option (Fl × PSt), fIf (za6 (fB (f2 dEq (za0 2) (fC (.str "either"))))) F zd7 [some (pcD (.either rs)), some (za7 b m), some (.str "either"), none] = F [some (pcD (.either rs)), some (za7 b m), some (.str "either"), none] := fun F => by simp [gP, gE, zb8, zd7, zd1, za4, fIf, za6, fB, f2, za0, fC, za9, ze4, zb4, zc0, zb0, zc9, zd6, za1, za2, zi4, zi5, za5, dEq, dNe, eqB, dB, dIx, zh0, zc5, D.imm, D.imms, zh2, zl6, fT, zc7, zf0, zm1, zj0, yw3, zs4, dIn, inB, zz5, D.flat, D.flats, inV, eqV, zu0, zl9, zj6, zy6, fOr, zb6, zk2, zf2, zg7, zd0, zp0, zf9, zi9, zg9, zx0, zm3, zd9, dLe, dLt, dGe, dIs, zk0, fMt, zo0, yp2]
    refine zt7 rfl ?_ (p := [some (pcD (.either rs)), some (za7 b m), some (.str "either"), none])
    unfold zs6
    exact (zb3 s1).trans ((zb3 (s2 _)).trans (zq2 ((s3 _).trans (zj4 e2))))
noncomputable abbrev gNl : List D -> Option D := gP 1 0 yh7
theorem xm8 (m : Int) (h0 : -1000 <= m) (h1 : m <= 1000) : yd5 (.str " ") (.int m) = some (.str (Txt.mul " " m)) := by
  rw [yd5, if_pos]
  simp only [Bool.and_eq_true, decide_eq_true_eq]
  exact ⟨⟨by decide +kernel, by omega⟩, by omega⟩
theorem xy7 (m : Int) (h0 : 0 <= m) (h1 : m <= 200) : gNl [.int m] = some (.str (nlw m)) := by
  have q := xm8 m (by omega) (by omega)
  have hl : 1 + (Txt.mul " " m).length <= sizeLine := by rw [zw7]; exact sz (by omega)
  have e : ((⟨#[10]⟩ : Str) ++ Txt.mul " " m) = nlw m := rfl
  have e1 : zh2 (.str "\n") (.str (Txt.mul " " m)) = some (.str (nlw m)) := by
    rw [xm5, zh2, if_pos (by exact hl)]; rfl
  exact zt7 rfl (zj4 (ze2 rfl (ze2 rfl rfl q) e1))
noncomputable abbrev yh5 : List D -> Option D := gP 3 1 (zv8 gNl)
noncomputable def wrD : Option Str -> D
  | some w => .str w
  | none => .non
theorem kd3 {p : PSt} {k w : String} {b : Bool} (hp : p[3]? = some (some (.str k))) (h : decide (k = w) = b) : fB (f2 dEq (za0 3) (fC (.str w))) p = some b := by
  refine yc2 (ze2 (yl6 hp) rfl ?_)
  show some (D.bl (decide ((k : Str) = (w : Str)))) = _
  rw [<- h]
  congr 2
  exact decide_eq_decide.mpr (by rw [zf0])
theorem xm9 (l : Leaf) (b : Bool) (m : Int) (k : Nat) (hl : zp8 l) (h0 : 0 <= m) (h1 : m <= 200) (hk : k <= 1000000) : yh5 [ze5 l, za7 b m, .int k] = some (wrD (wr b m k l)) := by
  suffices h : ∃ q, zv8 gNl [some (ze5 l), some (za7 b m), some (.int k), none] = some (.ret (wrD (wr b m k l)), q) from by
    obtain ⟨q, hq⟩ := h; exact zt7 rfl hq
  have br : ∀ d x, fT (zf9 "Place" "broken" (za0 1)) [some d, some (za7 b m), some (.int k), x] = some b := fun d x => xy5 (by kernel_rfl)
  have mg : ∀ d x, za5 gNl (za1 (zf9 "Place" "margin" (za0 1)) za2) [some d, some (za7 b m), some (.int k), x] = some (.str (nlw m)) := fun d x => zi1 (ds := [.int m]) (zc4 (by kernel_rfl) rfl) (xy7 m h0 h1)
  have s1 : ∀ (w : String) (ds : List D), zd1 3 (za4 (za9 (f2 dIx (za0 0) (fC (.int 0))))) [some (.tup (.str w :: ds)), some (za7 b m), some (.int k), none] = some (.nx, [some (.tup (.str w :: ds)), some (za7 b m), some (.int k), some (.str w)]) := fun w ds => zo3 (zk8 (ze2 rfl rfl (zm1 _ _)) rfl)
  unfold zv8
  cases l with
  | word x => exact ⟨_, (zb3 (s1 "word" [.str x])).trans (zq2 ((zj1 (kd3 rfl (by decide))).trans (zj4 (zk8 (ze2 rfl rfl (zj0 _ _ _)) rfl))))⟩
  | gap x =>
    show ∃ q, zb8 _ _ [some (.tup [.str "gap", .str x]), some (za7 b m), some (.int k), none] = _
    rw [zb3 (s1 "gap" [.str x]), zb3 (zf5 (kd3 rfl (by decide)))]
    cases b with
    | false => exact ⟨_, zq2 ((zj1 (zx8 (kd3 rfl (by decide)) (zw6 (br _ _)))).trans (zj4 (zk8 (ze2 rfl rfl (zj0 _ _ _)) rfl)))⟩
    | true => exact ⟨_, (zb3 (zf5 (zx8 (kd3 rfl (by decide)) (zw6 (br _ _))))).trans ((zb3 (zf5 (zv2 (kd3 rfl (by decide))))).trans ((zb3 (zf5 (zw6 (br _ _)))).trans ((zb3 (zf5 (kd3 rfl (by decide)))).trans (zj4 (mg _ _)))))⟩
  | fin =>
    show ∃ q, zb8 _ _ [some (.tup [.str "end"]), some (za7 b m), some (.int k), none] = _
    rw [zb3 (s1 "end" []), zb3 (zf5 (kd3 rfl (by decide))), zb3 (zf5 (zv2 (kd3 rfl (by decide)))), zb3 (zf5 (zv2 (kd3 rfl (by decide))))]
    cases b with
    | false => exact ⟨_, zq2 ((zj1 (zw6 (br _ _))).trans (zj4 rfl))⟩
    | true => exact ⟨_, (zb3 (zf5 (zw6 (br _ _)))).trans ((zb3 (zf5 (kd3 rfl (by decide)))).trans (zj4 (mg _ _)))⟩
  | stop c =>
    have hc : 0 <= c /\ c <= 40 := hl
    show ∃ q, zb8 _ _ [some (.tup [.str "stop", .int c]), some (za7 b m), some (.int k), none] = _
    have le : fB (f2 dLe (za0 2) (f2 dIx (za0 0) (fC (.int 1)))) [some (.tup [.str "stop", .int c]), some (za7 b m), some (.int k), some (.str "stop")] = some (decide ((k : Int) <= c)) := yc2 (ze2 rfl (ze2 rfl rfl (zj0 _ _ _)) rfl)
    rw [zb3 (s1 "stop" [.int c]), zb3 (zf5 (kd3 rfl (by decide))), zb3 (zf5 (zv2 (kd3 rfl (by decide))))]
    by_cases hkc : (k : Int) <= c
    . rw [decide_eq_true hkc] at le
      rw [show wr b m k (.stop c) = some (Txt.mul " " (c - k)) from if_pos hkc]
      exact ⟨_, zq2 ((zj1 (zx8 (kd3 rfl (by decide)) le)).trans (zj4 (ze2 rfl (ze2 (ze2 rfl rfl (zj0 _ _ _)) rfl rfl) (xm8 (c - k) (by omega) (by omega)))))⟩
    . rw [decide_eq_false hkc] at le
      rw [zb3 (zf5 (zx8 (kd3 rfl (by decide)) le))]
      cases b with
      | false =>
        rw [show wr false m k (.stop c) = none from (if_neg hkc).trans rfl]
        exact ⟨_, zq2 ((zj1 (zw6 (br _ _))).trans (zj4 rfl))⟩
      | true =>
        rw [show wr true m k (.stop c) = some (nlw c) from (if_neg hkc).trans rfl]
        exact ⟨_, (zb3 (zf5 (zw6 (br _ _)))).trans (zq2 ((zj1 (kd3 rfl (by decide))).trans (zj4 (zi1 (zc4 (ze2 rfl rfl (zj0 _ _ _)) rfl) (xy7 c hc.1 (by omega))))))⟩
end My
namespace My
open PySem PySem.Spec PyProof.Rows L2 L3
theorem xs0 {w : Str} : Txt.startswith w ⟨#[10]⟩ = decide (w.cps.toList[0]? = some 10) := by
  rw [Bool.eq_iff_iff, decide_eq_true_eq, <- wk7 (t := w) (i := 0)]
  unfold Txt.startswith StrLaws.At
  simp only [Bool.and_eq_true, decide_eq_true_eq]
noncomputable abbrev yt6 : List D -> Option D := gP 1 0 zx1
theorem wc5 (w : Str) : yt6 [.str w] = some (.bl (decide (w.cps.toList[0]? = some 10))) := by
  rw [<- xs0, <- xm5]
  simp [gP, gE, zb8, zd7, zd1, za4, fIf, za6, fB, f2, za0, fC, za9, ze4, zb4, zc0, zb0, zc9, zd6, za1, za2, za5, dIx, zh0, zc5, D.imm, D.imms, zh2, zl6, fT, zc7, zf0, zm1, zj0, zj6, zb6, zk2, zf2, zg7, zd0, zp0, zf9, zi9, zg9, zm3, zd9, dLt, dGe, dIs, zk0, fMt, fB, dB, zo6, zx1, zt8, xn7]
noncomputable abbrev ym4 : List D -> Option D := gP 2 0 (zl7 yt6)
theorem xs1 {t w : Str} (hw : Wr w) (hz : w.length <= 1000) : ym4 [.int (col t), .str w] = some (.int (col (t ++ w))) := by
  have q := wc5 w
  have hz' : w.length <= sizeLine := sz hz
  show gP 2 0 (zl7 yt6) _ = _
  rcases hw with h | ⟨m, rfl⟩
  . have e : decide (w.cps.toList[0]? = some 10) = false := decide_eq_false fun h' => h (List.mem_of_getElem? h')
    rw [e] at q
    rw [yw6 h]
    generalize yt6 = G at q |-
    simp [gP, gE, zb8, zd7, zd1, za4, fIf, za6, fB, f2, za0, fC, za9, ze4, zb4, zc0, zb0, zc9, zd6, za1, za2, za5, dIx, zh0, zc5, D.imm, D.imms, zh2, zl6, fT, zc7, zf0, zm1, zj0, zj6, zb6, zk2, zf2, zg7, zd0, zp0, zf9, zi9, zg9, zm3, zd9, dLt, dGe, dIs, zk0, fMt, fB, dB, zo6, zl7, q, hz']
  . have e : decide ((nlw m).cps.toList[0]? = some 10) = true := decide_eq_true (by unfold nlw; rw [zd4]; rfl)
    rw [e] at q
    have e2 : col (t ++ nlw m) = (nlw m).length - 1 := by
      unfold nlw
      rw [xr9 (yr9 m), zi3]; show _ = 1 + _ - 1; omega
    have e3 : 1 <= (nlw m).length := by unfold nlw; rw [zi3]; show 1 <= 1 + _; omega
    rw [e2]
    generalize yt6 = G at q |-
    generalize nlw m = w at hz' q e3 |-
    simp [gP, gE, zb8, zd7, zd1, za4, fIf, za6, fB, f2, za0, fC, za9, ze4, zb4, zc0, zb0, zc9, zd6, za1, za2, za5, dIx, zh0, zc5, D.imm, D.imms, zh2, zl6, fT, zc7, zf0, zm1, zj0, zj6, zb6, zk2, zf2, zg7, zd0, zp0, zf9, zi9, zg9, zm3, zd9, dLt, dGe, dIs, zk0, fMt, fB, dB, zo6, zl7, q, hz']
    omega
noncomputable def cat : List Str -> Str
  | [] => ⟨#[]⟩
  | x :: xs => x ++ cat xs
theorem yw9 (t : Str) : t ++ (⟨#[]⟩ : Str) = t := zo8 (by rw [zd4]; simp [gP, gE, zb8, zd7, zd1, za4, fIf, za6, fB, f2, za0, fC, za9, ze4, zb4, zc0, zb0, zc9, zd6, za1, za2, za5, dIx, zh0, zc5, D.imm, D.imms, zh2, zl6, fT, zc7, zf0, zm1, zj0, zj6, zb6, zk2, zf2, zg7, zd0, zp0, zf9, zi9, zg9, zm3, zd9, dLt, dGe, dIs, zk0, fMt, fB, dB, zo6])
theorem wc6 (t : Str) : (⟨#[]⟩ : Str) ++ t = t := zo8 (by rw [zd4]; simp [gP, gE, zb8, zd7, zd1, za4, fIf, za6, fB, f2, za0, fC, za9, ze4, zb4, zc0, zb0, zc9, zd6, za1, za2, za5, dIx, zh0, zc5, D.imm, D.imms, zh2, zl6, fT, zc7, zf0, zm1, zj0, zj6, zb6, zk2, zf2, zg7, zd0, zp0, zf9, zi9, zg9, zm3, zd9, dLt, dGe, dIs, zk0, fMt, fB, dB, zo6])
theorem wc7 (a b c : Str) : (a ++ b) ++ c = a ++ (b ++ c) := zo8 (by simp only [zd4, List.append_assoc])
theorem yg7 : ∀ (ps : List Str) (w : Str), cat (ps ++ [w]) = cat ps ++ w
  | [], w => by show w ++ (⟨#[]⟩ : Str) = (⟨#[]⟩ : Str) ++ w; rw [yw9, wc6]
  | x :: ps, w => by show x ++ cat (ps ++ [w]) = (x ++ cat ps) ++ w; rw [yg7 ps w, wc7]
noncomputable abbrev nsS : List Str := ["choices", "used", "column", "parts"]
noncomputable def zb5 (C : List Int) : List D := C.map .int
theorem yz5 (a b : List Int) : zb5 (a ++ b) = zb5 a ++ zb5 b := by simp [gP, gE, zb8, zd7, zd1, za4, fIf, za6, fB, f2, za0, fC, za9, ze4, zb4, zc0, zb0, zc9, zd6, za1, za2, za5, dIx, zh0, zc5, D.imm, D.imms, zh2, zl6, fT, zc7, zf0, zm1, zj0, zj6, zb6, zk2, zf2, zg7, zd0, zp0, zf9, zi9, zg9, zm3, zd9, dLt, dGe, dIs, zk0, fMt, fB, dB, zo6, zb5]
theorem yj6 (a : List Int) : (zb5 a).length = a.length := by simp [gP, gE, zb8, zd7, zd1, za4, fIf, za6, fB, f2, za0, fC, za9, ze4, zb4, zc0, zb0, zc9, zd6, za1, za2, za5, dIx, zh0, zc5, D.imm, D.imms, zh2, zl6, fT, zc7, zf0, zm1, zj0, zj6, zb6, zk2, zf2, zg7, zd0, zp0, zf9, zi9, zg9, zm3, zd9, dLt, dGe, dIs, zk0, fMt, fB, dB, zo6, zb5]
theorem xs2 : ∀ C : List Int, D.ints (zb5 C) = some C
  | [] => rfl
  | c :: C => by show D.ints (.int c :: zb5 C) = _; rw [D.ints, xs2 C]; rfl
noncomputable def stD (C : List Int) (u : Nat) (ps : List Str) : D := .obj true "Setter" nsS [.tup (zb5 C), .int u, .int (col (cat ps)), .lst true (zd5 ps)]
theorem yc3 : ∀ C, D.imms (zb5 C) = true
  | [] => rfl
  | c :: C => by show (D.imm (.int c) && D.imms (zb5 C)) = true; rw [yc3 C]; rfl
noncomputable abbrev zp9 : List D -> Option (D × List D) := gE 3 1 (zd9 [true, false, false]) (zo1 yh5 ym4)
theorem xw5 {C : List Int} {u : Nat} {ps : List Str} {l : Leaf} {b : Bool} {m : Int} {w : Str} (hl : zp8 l) (h0 : 0 <= m) (h1 : m <= 200) (hw : wr b m (col (cat ps)) l = some w) (hp : ps.length <= 900) (hc : (cat ps).length <= 1000000) :
    zp9 [stD C u ps, ze5 l, za7 b m] = some (.non, [stD C u (ps ++ [w]), ze5 l, za7 b m]) := by
  obtain ⟨hW, hz⟩ := xm6 hl h0 h1 hw
  have q1 := xm9 l b m (col (cat ps)) hl h0 h1 (Nat.le_trans (wh6 _) hc)
  rw [hw] at q1
  have q2 := xs1 (t := cat ps) hW (by omega)
  have hi : (zd5 ps).length < sizeLine := by rw [yc1]; exact sz1 (by omega)
  have es : zd5 (ps ++ [w]) = zd5 ps ++ [.str w] := by rw [yz1]; rfl
  show gE 3 1 _ (zo1 yh5 ym4) _ = _
  unfold stD
  rw [yg7, es]
  generalize ze5 l = dl at q1 |-
  generalize za7 b m = dp at q1 |-
  generalize yh5 = G1 at q1 |-
  generalize ym4 = G2 at q2 |-
  simp only [wrD] at q1
  simp [gP, gE, zb8, zd7, zd1, za4, fIf, za6, fB, f2, za0, fC, za9, ze4, zb4, zc0, zb0, zc9, zd6, za1, za2, za5, dIx, zh0, zc5, D.imm, D.imms, zh2, zl6, fT, zc7, zf0, zm1, zj0, zj6, zb6, zk2, zf2, zg7, zd0, zp0, zf9, zi9, zg9, zm3, zd9, dLt, dGe, dIs, zk0, fMt, fB, dB, zo6, zo1, q1, q2, hi]
noncomputable abbrev zw0 : List D -> Option (D × List D) := gE 2 1 (zd9 [true, false]) zp2
theorem ya0 {α : Type} {xs : List α} {n : Nat} {v : α} (h : xs[n]? = some v) : atI xs (n : Int) = some v := yu3 h
theorem xw6 {C : List Int} {u n : Nat} {c : Int} {ps : List Str} (hc : C[u]? = some c) (h0 : 0 <= c) (h1 : c < n) : zw0 [stD C u ps, .int n] = some (.int c, [stD C (u + 1) ps, .int n]) := by
  obtain ⟨hu, _⟩ := List.getElem?_eq_some_iff.mp hc
  have hl : (zb5 C).length = C.length := List.length_map _
  have e : atI (zb5 C) (u : Int) = some (.int c) := ya0 (by unfold zb5; rw [List.getElem?_map, hc]; rfl)
  have g1 : ¬ ((C.length : Int) <= (u : Int)) := by omega
  have g2 : ¬ (c < 0) := by omega
  have g3 : ¬ ((n : Int) <= c) := by omega
  unfold stD
  simp [gP, gE, zb8, zd7, zd1, za4, fIf, za6, fB, f2, za0, fC, za9, ze4, zb4, zc0, zb0, zc9, zd6, za1, za2, za5, dIx, zh0, zc5, D.imm, D.imms, zh2, zl6, fT, zc7, zf0, zm1, zj0, zj6, zb6, zk2, zf2, zg7, zd0, zp0, zf9, zi9, zg9, zm3, zd9, dLt, dGe, dIs, zk0, fMt, fB, dB, zo6, zp2, hl, e, g1, g2, g3]
noncomputable abbrev yc9 (GR : List D -> Option (D × List D)) : List D -> Option (D × List D) := gE 3 3 (zd9 [true, false, false]) (zn0 yt4 yb8 zw0 GR)
theorem yl8 {GR : List D -> Option (D × List D)} {p : Pc} {b : Bool} {m : Int} {C : List Int} {u u1 i : Nat} {ps : List Str} {x : List Pc × Bool × Int} {N : D} (hp : yk3 p = true) (hn : yt5 p <= 1000) (hi : (yc8 b m p)[i]? = some x)
    (hc : (yt3 b p = true /\ C[u]? = some (i : Int) /\ u1 = u + 1) \/ (yt3 b p = false /\ i = 0 /\ u1 = u)) (hR : GR [stD C u1 ps, .tup (zb7 x.1), za7 x.2.1 x.2.2] = some (.non, [N, .tup (zb7 x.1), za7 x.2.1 x.2.2])) :
    yc9 GR [stD C u ps, pcD p, za7 b m] = some (.non, [N, pcD p, za7 b m]) := by
  have q1 := wc4 p b m hp hn
  have q2 := xw3 p b m hp
  have hil : i < ((yc8 b m p).map zp3).length := by rw [List.length_map]; exact (List.getElem?_eq_some_iff.mp hi).1
  have e1 : atI ((yc8 b m p).map zp3) (i : Int) = some (zp3 x) := ya0 (by rw [List.getElem?_map, hi]; rfl)
  have hw := yw7 x
  have p1 := zk7 x.1
  have p2 := zx9 x.2.1 x.2.2
  generalize hW : (yc8 b m p).map zp3 = W at q1 hil e1
  have st1 : ∀ v ps', stD C v ps' = .obj true "Setter" nsS [.tup (zb5 C), .int v, .int (col (cat ps')), .lst true (zd5 ps')] := fun _ _ => rfl
  have hm : ∀ v, zl3 "Setter" "set_row" GR [.tup (zb7 x.1), za7 x.2.1 x.2.2] (stD C v ps) = (GR [stD C v ps, .tup (zb7 x.1), za7 x.2.1 x.2.2]).bind fun r => match r.2 with
      | d' :: ds => if ds.length = 2 then some (r.1, d') else none
      | [] => none := fun v => by
    rw [st1]
    show (if (("Setter" : Str) = "Setter" /\ zd0 nsS "set_row" = none) then _ else none) = _
    exact if_pos ⟨rfl, by simp [gP, gE, zb8, zd7, zd1, za4, fIf, za6, fB, f2, za0, fC, za9, ze4, zb4, zc0, zb0, zc9, zd6, za1, za2, za5, dIx, zh0, zc5, D.imm, D.imms, zh2, zl6, fT, zc7, zf0, zm1, zj0, zj6, zb6, zk2, zf2, zg7, zd0, zp0, zf9, zi9, zg9, zm3, zd9, dLt, dGe, dIs, zk0, fMt, fB, dB, zo6]⟩
  have hm1 : zl3 "Setter" "set_row" GR [.tup (zb7 x.1), za7 x.2.1 x.2.2] (stD C u1 ps) = some (.non, N) := by rw [hm, hR]; rfl
  have body : ∀ f4 : Int, zb8 (zd1 5 (za4 (za9 (f2 dIx (za0 3) (za0 4))))) (zb4 (zc0 0 zb0 (zb6 [.im (f2 dIx (za0 5) (fC (.int 0))), .im (f2 dIx (za0 5) (fC (.int 1)))]) (zl3 "Setter" "set_row" GR))) [some (stD C u1 ps), some (pcD p), some (za7 b m), some (.lst true W), some (.int (i : Int)), none] = some (.nx, [some N, some (pcD p), some (za7 b m), some (.lst true W), some (.int (i : Int)), some (zp3 x)]) := fun _ => by
    have s1 : zd1 5 (za4 (za9 (f2 dIx (za0 3) (za0 4)))) [some (stD C u1 ps), some (pcD p), some (za7 b m), some (.lst true W), some (.int (i : Int)), none] = some (.nx, [some (stD C u1 ps), some (pcD p), some (za7 b m), some (.lst true W), some (.int (i : Int)), some (zp3 x)]) := by
      refine zo3 ?_
      simp [gP, gE, zb8, zd7, zd1, za4, fIf, za6, fB, f2, za0, fC, za9, ze4, zb4, zc0, zb0, zc9, zd6, za1, za2, za5, dIx, zh0, zc5, D.imm, D.imms, zh2, zl6, fT, zc7, zf0, zm1, zj0, zj6, zb6, zk2, zf2, zg7, zd0, zp0, zf9, zi9, zg9, zm3, zd9, dLt, dGe, dIs, zk0, fMt, fB, dB, zo6, e1, hw]
    refine (zb3 s1).trans ?_
    unfold zp3 at *
    generalize za7 x.2.1 x.2.2 = PX at *
    generalize stD C u1 ps = ST at *
    simp [gP, gE, zb8, zd7, zd1, za4, fIf, za6, fB, f2, za0, fC, za9, ze4, zb4, zc0, zb0, zc9, zd6, za1, za2, za5, dIx, zh0, zc5, D.imm, D.imms, zh2, zl6, fT, zc7, zf0, zm1, zj0, zj6, zb6, zk2, zf2, zg7, zd0, zp0, zf9, zi9, zg9, zm3, zd9, dLt, dGe, dIs, zk0, fMt, fB, dB, zo6, p1, p2, hm1]
  show gE 3 3 _ (zn0 yt4 yb8 zw0 GR) _ = _
  have s1 : zd1 3 (za4 (za5 yt4 (za1 (za0 1) (za1 (za0 2) za2)))) [some (stD C u ps), some (pcD p), some (za7 b m), none, none, none] = some (.nx, [some (stD C u ps), some (pcD p), some (za7 b m), some (.lst true W), none, none]) := zo3 (zi1 (zc4 rfl (zc4 rfl rfl)) q1)
  have s2 : zd1 4 (za4 (fC (.int 0))) [some (stD C u ps), some (pcD p), some (za7 b m), some (.lst true W), none, none] = some (.nx, [some (stD C u ps), some (pcD p), some (za7 b m), some (.lst true W), some (.int 0), none]) := rfl
  have t1 : ∀ B, yt3 b p = B -> za6 (fT (za5 yb8 (za1 (za0 1) (za1 (za0 2) za2)))) [some (stD C u ps), some (pcD p), some (za7 b m), some (.lst true W), some (.int 0), none] = some (B, [some (stD C u ps), some (pcD p), some (za7 b m), some (.lst true W), some (.int 0), none]) := fun B hB => by
    have e : za5 yb8 (za1 (za0 1) (za1 (za0 2) za2)) [some (stD C u ps), some (pcD p), some (za7 b m), some (.lst true W), some (.int 0), none] = some (.bl B) := zi1 (zc4 rfl (zc4 rfl rfl)) (hB ▸ q2)
    unfold za6 fT
    rw [e]; rfl
  have s3 : fIf (za6 (fT (za5 yb8 (za1 (za0 1) (za1 (za0 2) za2))))) (zd1 4 (zc0 0 zb0 (zb6 [.im (za5 zh0 (za1 (za0 3) za2))]) (zl3 "Setter" "choice_below" zw0))) zd7 [some (stD C u ps), some (pcD p), some (za7 b m), some (.lst true W), some (.int 0), none] = some (.nx, [some (stD C u1 ps), some (pcD p), some (za7 b m), some (.lst true W), some (.int (i : Int)), none]) := by
    rcases hc with ⟨hT, hC, rfl⟩ | ⟨hT, rfl, rfl⟩
    . refine (xm0 (t1 _ hT)).trans ?_
      have qb := xw6 (ps := ps) hC (by omega) (show (i : Int) < (W.length : Nat) by omega)
      have hb : zl3 "Setter" "choice_below" zw0 [.int (W.length : Nat)] (stD C u ps) = some (.int (i : Int), stD C (u + 1) ps) := by
        have e : zl3 "Setter" "choice_below" zw0 [.int (W.length : Nat)] (stD C u ps) = (zw0 [stD C u ps, .int (W.length : Nat)]).bind fun r => match r.2 with
            | d' :: ds => if ds.length = 1 then some (r.1, d') else none
            | [] => none := by
          rw [st1]
          show (if (("Setter" : Str) = "Setter" /\ zd0 nsS "choice_below" = none) then _ else none) = _
          exact if_pos ⟨rfl, by simp [gP, gE, zb8, zd7, zd1, za4, fIf, za6, fB, f2, za0, fC, za9, ze4, zb4, zc0, zb0, zc9, zd6, za1, za2, za5, dIx, zh0, zc5, D.imm, D.imms, zh2, zl6, fT, zc7, zf0, zm1, zj0, zj6, zb6, zk2, zf2, zg7, zd0, zp0, zf9, zi9, zg9, zm3, zd9, dLt, dGe, dIs, zk0, fMt, fB, dB, zo6]⟩
        rw [e, qb]; rfl
      generalize zw0 = G at hb |-
      generalize stD C u ps = S0 at hb |-
      generalize stD C (u + 1) ps = S1 at hb |-
      generalize pcD p = d1
      generalize za7 b m = d2
      simp [gP, gE, zb8, zd7, zd1, za4, fIf, za6, fB, f2, za0, fC, za9, ze4, zb4, zc0, zb0, zc9, zd6, za1, za2, za5, dIx, zh0, zc5, D.imm, D.imms, zh2, zl6, fT, zc7, zf0, zm1, zj0, zj6, zb6, zk2, zf2, zg7, zd0, zp0, zf9, zi9, zg9, zm3, zd9, dLt, dGe, dIs, zk0, fMt, fB, dB, zo6, hb]
    . exact (zx4 (t1 _ hT)).trans rfl
  have z := (zb3 s1).trans ((zb3 s2).trans ((zb3 s3).trans (body 0)))
  unfold gE
  refine (if_pos rfl).trans ?_
  have z' : zn0 yt4 yb8 zw0 GR ([stD C u ps, pcD p, za7 b m].map some ++ List.replicate 3 none) = some (.nx, [some N, some (pcD p), some (za7 b m), some (.lst true W), some (.int (i : Int)), some (zp3 x)]) := z
  rw [z']
  rfl
end My
namespace My
open PySem PySem.Spec PyProof.Rows L2 L3
noncomputable def yd0 (GH GPl : List D -> Option (D × List D)) : PSt -> Option (Fl × PSt) :=
   (fIf (za6 (fT (za5 zy2 (za1 (za0 3) za2))))
   (zb4 (zc0 0 zb0 (zb6 [.im (za0 3), .im (za0 2)]) (zl3 "Setter" "set_holder" GH)))
   (zb4 (zc0 0 zb0 (zb6 [.im (za0 3), .im (za0 2)]) (zl3 "Setter" "set_plain" GPl))))
theorem yx0 {g : List D -> Option (D × List D)} {m : Str} {C : List Int} {u : Nat} {ps : List Str} {d1 d2 N v : D} (hm : zd0 nsS m = none) (h : g [stD C u ps, d1, d2] = some (v, [N, d1, d2])) : zl3 "Setter" m g [d1, d2] (stD C u ps) = some (v, N) := by
  show (if (("Setter" : Str) = "Setter" /\ zd0 nsS m = none) then (g [stD C u ps, d1, d2]).bind _ else none) = _
  rw [if_pos ⟨rfl, hm⟩, h]; rfl
theorem yl9 {GH : List D -> Option (D × List D)} {C : List Int} {u : Nat} {ps : List Str} {p : Pc} {b : Bool} {m : Int} {R : Option D} {N : D} (hp : yk3 p = true) (h : GH [stD C u ps, pcD p, za7 b m] = some (.non, [N, pcD p, za7 b m])) :
    yd0 GH zp9 [some (stD C u ps), R, some (za7 b m), some (pcD p)] = some (.nx, [some N, R, some (za7 b m), some (pcD p)]) := by
  have q := xe3 p
  rw [hp] at q
  have hm := yx0 (m := "set_holder") (by simp [zb4, zc0, zb0, zc9, zd6, zb6, za9, za0, za4, fT, zc7, za6, D.imm, D.imms, za1, za2, za5, zd0, zf0]) h
  have i1 := xr5 p
  have i2 := zx9 b m
  unfold yd0
  generalize zy2 = G1 at q |-
  generalize zp9 = G2
  generalize stD C u ps = S at hm |-
  generalize pcD p = d1 at *
  generalize za7 b m = d2 at *
  refine (xm0 (p' := [some S, R, some d2, some d1]) (by simp [zb4, zc0, zb0, zc9, zd6, zb6, za9, za0, za4, fT, zc7, za6, D.imm, D.imms, za1, za2, za5, q])).trans ?_
  simp [zb4, zc0, zb0, zc9, zd6, zb6, za9, za0, za4, fT, zc7, za6, D.imm, D.imms, za1, za2, za5, i1, i2, hm]
theorem xw7 {GH : List D -> Option (D × List D)} {C : List Int} {u : Nat} {ps : List Str} {l : Leaf} {b : Bool} {m : Int} {R : Option D} {N : D} (h : zp9 [stD C u ps, ze5 l, za7 b m] = some (.non, [N, ze5 l, za7 b m])) :
    yd0 GH zp9 [some (stD C u ps), R, some (za7 b m), some (ze5 l)] = some (.nx, [some N, R, some (za7 b m), some (ze5 l)]) := by
  have q : zy2 [ze5 l] = some (.bl false) := xe3 (.leaf l)
  have hm := yx0 (m := "set_plain") (by simp [zb4, zc0, zb0, zc9, zd6, zb6, za9, za0, za4, fT, zc7, za6, D.imm, D.imms, za1, za2, za5, zd0, zf0]) h
  have i1 := xd9 l
  have i2 := zx9 b m
  unfold yd0
  generalize zy2 = G1 at q |-
  generalize zp9 = G2 at hm |-
  generalize stD C u ps = S at hm |-
  generalize ze5 l = d1 at *
  generalize za7 b m = d2 at *
  refine (zx4 (p' := [some S, R, some d2, some d1]) (by simp [zb4, zc0, zb0, zc9, zd6, zb6, za9, za0, za4, fT, zc7, za6, D.imm, D.imms, za1, za2, za5, q])).trans ?_
  simp [zb4, zc0, zb0, zc9, zd6, zb6, za9, za0, za4, fT, zc7, za6, D.imm, D.imms, za1, za2, za5, i1, i2, hm]
noncomputable def zz9 : Nat -> List D -> Option (D × List D)
  | 0 => fun _ => none
  | n + 1 => gE 3 1 (zd9 [true, false, false]) (zp5 zy2 (yc9 (zz9 n)) zp9)
noncomputable def xn9 (GR : List D -> Option (D × List D)) (r : List Pc) : Prop := ∀ (b : Bool) (m : Int) (C : List Int) (u : Nat) (ps : List Str) (cs' : List Int) (t' : Str), 0 <= m -> m + 12 * zf6 r <= 200 -> zr4 b m r (C.drop u) (cat ps) = some (cs', t') -> u <= C.length ->
  ps.length + (zd2 r).length <= 900 -> (cat ps).length + 201 * (zd2 r).length <= 1000000 ->
  ∃ u' ps', GR [stD C u ps, .tup (zb7 r), za7 b m] = some (.non, [stD C u' ps', .tup (zb7 r), za7 b m]) /\ C.drop u' = cs' /\ cat ps' = t' /\ u' <= C.length /\ ps'.length <= ps.length + (zd2 r).length /\ (cat ps').length <= (cat ps).length + 201 * (zd2 r).length
theorem yz6 {C : List Int} {u : Nat} {c : Int} {cs : List Int} (h : C.drop u = c :: cs) : C[u]? = some c /\ C.drop (u + 1) = cs /\ u + 1 <= C.length := by
  have hu : u < C.length := by
    rcases Nat.lt_or_ge u C.length with h1 | h1
    . exact h1
    . rw [List.drop_eq_nil_of_le h1] at h; cases h
  rw [List.drop_eq_getElem_cons hu] at h
  cases h
  exact ⟨List.getElem?_eq_getElem hu, rfl, hu⟩
theorem yz7 : ∀ {rs : List (List Pc)} {i : Nat} {r : List Pc}, rs[i]? = some r -> zf6 r <= zr6 rs
  | [], i, _, h => by simp [zb4, zc0, zb0, zc9, zd6, zb6, za9, za0, za4, fT, zc7, za6, D.imm, D.imms, za1, za2, za5] at h
  | q :: rs, 0, _, h => by simp [zb4, zc0, zb0, zc9, zd6, zb6, za9, za0, za4, fT, zc7, za6, D.imm, D.imms, za1, za2, za5] at h; subst h; rw [zr6]; omega
  | q :: rs, i + 1, _, h => by have := yz7 (rs := rs) (i := i) (by simpa using h); rw [zr6]; omega
theorem xe4 : ∀ {rs : List (List Pc)} {i : Nat} {r : List Pc}, zt4 rs -> rs[i]? = some r -> okR r
  | [], i, _, _, h => by simp [zb4, zc0, zb0, zc9, zd6, zb6, za9, za0, za4, fT, zc7, za6, D.imm, D.imms, za1, za2, za5] at h
  | q :: rs, 0, _, o, h => by simp [zb4, zc0, zb0, zc9, zd6, zb6, za9, za0, za4, fT, zc7, za6, D.imm, D.imms, za1, za2, za5] at h; subst h; rw [zt4] at o; exact o.1
  | q :: rs, i + 1, _, o, h => by rw [zt4] at o; exact xe4 (rs := rs) (i := i) o.2 (by simpa using h)
theorem xs3 {GR : List D -> Option (D × List D)} {p : Pc} {k : Nat} (hG : ∀ r, zf6 r < k -> okR r -> xn9 GR r) (hd : zr3 p <= k) (ho : okP p) {b : Bool} {m : Int} {C : List Int} {u : Nat} {ps : List Str} {cs' : List Int} {t' : Str} {R : Option D} (h0 : 0 <= m) (h1 : m + 12 * zr3 p <= 200)
    (h : yb7 b m p (C.drop u) (cat ps) = some (cs', t')) (hu : u <= C.length) (hp : ps.length + (zh5 p).length <= 900) (hc : (cat ps).length + 201 * (zh5 p).length <= 1000000) :
    ∃ u' ps', yd0 (yc9 GR) zp9 [some (stD C u ps), R, some (za7 b m), some (pcD p)] = some (.nx, [some (stD C u' ps'), R, some (za7 b m), some (pcD p)]) /\ C.drop u' = cs' /\ cat ps' = t' /\ u' <= C.length /\ ps'.length <= ps.length + (zh5 p).length /\ (cat ps').length <= (cat ps).length + 201 * (zh5 p).length := by
  cases p with
  | leaf l =>
    rw [yb7] at h
    cases e : wr b m (col (cat ps)) l with
    | none => rw [e] at h; cases h
    | some w =>
      rw [e] at h
      cases h
      have hl : zp8 l := ho
      have h1' : m <= 200 := by simp [zb4, zc0, zb0, zc9, zd6, zb6, za9, za0, za4, fT, zc7, za6, D.imm, D.imms, za1, za2, za5, zr3] at h1; omega
      obtain ⟨_, hz⟩ := xm6 hl h0 h1' e
      have q := xw5 (C := C) (u := u) hl h0 h1' e (by simp [zb4, zc0, zb0, zc9, zd6, zb6, za9, za0, za4, fT, zc7, za6, D.imm, D.imms, za1, za2, za5, zh5] at hp; omega) (by omega)
      refine ⟨u, ps ++ [w], xw7 q, rfl, yg7 ps w, hu, by simp [zb4, zc0, zb0, zc9, zd6, zb6, za9, za0, za4, fT, zc7, za6, D.imm, D.imms, za1, za2, za5, zh5], ?_⟩
      rw [yg7, zi3]
      simp [zb4, zc0, zb0, zc9, zd6, zb6, za9, za0, za4, fT, zc7, za6, D.imm, D.imms, za1, za2, za5, zh5]; omega
  | group r =>
    have ho' : okR r := ho
    have hd' : zf6 r < k := by simp [zb4, zc0, zb0, zc9, zd6, zb6, za9, za0, za4, fT, zc7, za6, D.imm, D.imms, za1, za2, za5, zr3] at hd; omega
    have h1' : m + 12 * zf6 r <= 200 := by simp [zb4, zc0, zb0, zc9, zd6, zb6, za9, za0, za4, fT, zc7, za6, D.imm, D.imms, za1, za2, za5, zr3] at h1; omega
    have ht : (zh5 (.group r)).length = (zd2 r).length + 2 := by simp [zb4, zc0, zb0, zc9, zd6, zb6, za9, za0, za4, fT, zc7, za6, D.imm, D.imms, za1, za2, za5, zh5]
    rw [yb7.eq_def] at h
    simp only at h
    cases b with
    | false =>
      simp only [Bool.false_eq_true, if_false] at h
      obtain ⟨u', ps', q, e1, e2, e3, e4, e5⟩ := hG r hd' ho' false m C u ps cs' t' h0 h1' h hu (by omega) (by omega)
      exact ⟨u', ps', yl9 rfl (yl8 (i := 0) (x := (r, false, m)) rfl (by simp [zb4, zc0, zb0, zc9, zd6, zb6, za9, za0, za4, fT, zc7, za6, D.imm, D.imms, za1, za2, za5, yt5]) rfl (.inr ⟨rfl, rfl, rfl⟩) q), e1, e2, e3, by omega, by omega⟩
    | true =>
      cases hC : C.drop u with
      | nil => rw [hC] at h; simp [zb4, zc0, zb0, zc9, zd6, zb6, za9, za0, za4, fT, zc7, za6, D.imm, D.imms, za1, za2, za5] at h
      | cons c cs =>
        obtain ⟨g1, g2, g3⟩ := yz6 hC
        rw [hC] at h
        simp only [if_true] at h
        have go : ∀ (i : Nat) (bb : Bool), (i : Int) = c -> (yc8 true m (.group r))[i]? = some (r, bb, m) -> zr4 bb m r cs (cat ps) = some (cs', t') -> ∃ u' ps', yd0 (yc9 GR) zp9 [some (stD C u ps), R, some (za7 true m), some (pcD (.group r))] = some (.nx, [some (stD C u' ps'), R, some (za7 true m), some (pcD (.group r))]) /\ C.drop u' = cs' /\ cat ps' = t' /\ u' <= C.length /\ ps'.length <= ps.length + (zh5 (.group r)).length /\ (cat ps').length <= (cat ps).length + 201 * (zh5 (.group r)).length := fun i bb hi hw hs => by
          rw [<- g2] at hs
          obtain ⟨u', ps', q, e1, e2, e3, e4, e5⟩ := hG r hd' ho' bb m C (u + 1) ps cs' t' h0 h1' hs g3 (by omega) (by omega)
          exact ⟨u', ps', yl9 rfl (yl8 (i := i) (x := (r, bb, m)) rfl (by simp [zb4, zc0, zb0, zc9, zd6, zb6, za9, za0, za4, fT, zc7, za6, D.imm, D.imms, za1, za2, za5, yt5]) hw (.inl ⟨rfl, by rw [hi]; exact g1, rfl⟩) q), e1, e2, e3, by omega, by omega⟩
        by_cases c0 : c = 0
        . subst c0
          rw [if_pos rfl] at h
          exact go 0 false rfl rfl h
        . rw [if_neg c0] at h
          by_cases c1 : c = 1
          . subst c1
            rw [if_pos rfl] at h
            exact go 1 true rfl rfl h
          . rw [if_neg c1] at h; cases h
  | hang n r =>
    have ho' : (0 <= n /\ n <= 12) /\ okR r := ho
    have hd' : zf6 r < k := by simp [zb4, zc0, zb0, zc9, zd6, zb6, za9, za0, za4, fT, zc7, za6, D.imm, D.imms, za1, za2, za5, zr3] at hd; omega
    have h1' : m + n + 12 * zf6 r <= 200 := by simp [zb4, zc0, zb0, zc9, zd6, zb6, za9, za0, za4, fT, zc7, za6, D.imm, D.imms, za1, za2, za5, zr3] at h1; omega
    have ht : (zh5 (.hang n r)).length = (zd2 r).length + 2 := by simp [zb4, zc0, zb0, zc9, zd6, zb6, za9, za0, za4, fT, zc7, za6, D.imm, D.imms, za1, za2, za5, zh5]
    rw [yb7] at h
    obtain ⟨u', ps', q, e1, e2, e3, e4, e5⟩ := hG r hd' ho'.2 b (m + n) C u ps cs' t' (by omega) h1' h hu (by omega) (by omega)
    exact ⟨u', ps', yl9 rfl (yl8 (i := 0) (x := (r, b, m + n)) rfl (by simp [zb4, zc0, zb0, zc9, zd6, zb6, za9, za0, za4, fT, zc7, za6, D.imm, D.imms, za1, za2, za5, yt5]) rfl (.inr ⟨rfl, rfl, rfl⟩) q), e1, e2, e3, by omega, by omega⟩
  | either rs =>
    have ho' : (2 <= rs.length /\ rs.length <= 4) /\ zt4 rs := ho
    rw [yb7.eq_def] at h
    simp only at h
    cases hC : C.drop u with
    | nil => rw [hC] at h; cases h
    | cons c cs =>
      obtain ⟨g1, g2, g3⟩ := yz6 hC
      rw [hC] at h
      simp only at h
      by_cases c0 : 0 <= c
      . rw [if_pos c0] at h
        cases hr : rs[c.toNat]? with
        | none => rw [ys0 hr] at h; cases h
        | some r =>
          rw [yz3 hr, <- g2] at h
          have hdr := yz7 hr
          have hor := xe4 ho'.2 hr
          have htr := xg8 (List.mem_of_getElem? hr)
          have ht : (zh5 (.either rs)).length = (yh3 rs).length + 2 := by simp [zb4, zc0, zb0, zc9, zd6, zb6, za9, za0, za4, fT, zc7, za6, D.imm, D.imms, za1, za2, za5, zh5]
          have hdd : zr3 (.either rs) = zr6 rs + 1 := by rw [zr3]
          obtain ⟨u', ps', q, e1, e2, e3, e4, e5⟩ := hG r (by omega) hor b m C (u + 1) ps cs' t' h0 (by omega) h g3 (by omega) (by omega)
          refine ⟨u', ps', yl9 rfl (yl8 (i := c.toNat) (x := (r, b, m)) rfl (by show rs.length <= 1000; omega) (by show (rs.map _)[c.toNat]? = _; rw [List.getElem?_map, hr]; rfl) (.inl ⟨rfl, by rw [Int.toNat_of_nonneg c0]; exact g1, rfl⟩) q), e1, e2, e3, by omega, by omega⟩
      . rw [if_neg c0] at h; cases h
theorem xe5 {GR : List D -> Option (D × List D)} {k : Nat} (hG : ∀ r, zf6 r < k -> okR r -> xn9 GR r) {b : Bool} {m : Int} {C : List Int} {R : Option D} (h0 : 0 <= m) : ∀ (r : List Pc) (u : Nat) (ps : List Str) (cs' : List Int) (t' : Str) (x : Option D), zf6 r <= k -> okR r -> m + 12 * zf6 r <= 200 ->
    zr4 b m r (C.drop u) (cat ps) = some (cs', t') -> u <= C.length -> ps.length + (zd2 r).length <= 900 -> (cat ps).length + 201 * (zd2 r).length <= 1000000 ->
    ∃ u' ps' y, zt0 3 (yd0 (yc9 GR) zp9) (zb7 r) [some (stD C u ps), R, some (za7 b m), x] = some (.nx, [some (stD C u' ps'), R, some (za7 b m), y]) /\ C.drop u' = cs' /\ cat ps' = t' /\ u' <= C.length /\ ps'.length <= ps.length + (zd2 r).length /\ (cat ps').length <= (cat ps).length + 201 * (zd2 r).length
  | [], u, ps, cs', t', x, _, _, _, h, hu, _, _ => by
    rw [zr4] at h; cases h
    exact ⟨u, ps, x, rfl, rfl, rfl, hu, by omega, by omega⟩
  | p :: r, u, ps, cs', t', x, hd, ho, h1, h, hu, hp, hc => by
    rw [okR] at ho
    rw [zf6] at hd h1
    have ht : (zd2 (p :: r)).length = (zh5 p).length + (zd2 r).length := by rw [zd2, List.length_append]
    rw [zr4] at h
    cases e : yb7 b m p (C.drop u) (cat ps) with
    | none => rw [e] at h; cases h
    | some s =>
      obtain ⟨c1, t1⟩ := s
      rw [e] at h
      obtain ⟨u1, ps1, q1, a1, a2, a3, a4, a5⟩ := xs3 (R := R) hG (by omega) ho.1 h0 (by omega) e hu (by omega) (by omega)
      have h' : zr4 b m r (C.drop u1) (cat ps1) = some (cs', t') := by rw [a1, a2]; exact h
      obtain ⟨u2, ps2, y, q2, b1, b2, b3, b4, b5⟩ := xe5 hG h0 r u1 ps1 cs' t' (some (pcD p)) (by omega) ho.2 (by omega) h' a3 (by omega) (by omega)
      refine ⟨u2, ps2, y, ?_, b1, b2, b3, by omega, by omega⟩
      show zt0 3 _ (pcD p :: zb7 r) _ = _
      rw [zt0]
      show ((yd0 (yc9 GR) zp9 [some (stD C u ps), R, some (za7 b m), some (pcD p)]).bind _) = _
      rw [q1]; exact q2
theorem xi2 : ∀ (n : Nat) (r : List Pc), zf6 r < n -> okR r -> xn9 (zz9 n) r
  | 0, _, h, _ => absurd h (Nat.not_lt_zero _)
  | n + 1, r, hd, ho => fun b m C u ps cs' t' h0 h1 h hu hp hc => by
    obtain ⟨u', ps', y, q, e1, e2, e3, e4, e5⟩ := xe5 (GR := zz9 n) (k := n) (R := some (.tup (zb7 r))) (fun s hs hk => xi2 n s hs hk) h0 r u ps cs' t' none (by omega) ho h1 h hu hp hc
    refine ⟨u', ps', ?_, e1, e2, e3, e4, e5⟩
    show gE 3 1 _ (zp5 zy2 (yc9 (zz9 n)) zp9) _ = _
    unfold gE
    refine (if_pos rfl).trans ?_
    have z : zp5 zy2 (yc9 (zz9 n)) zp9 ([stD C u ps, .tup (zb7 r), za7 b m].map some ++ List.replicate 1 none) = some (.nx, [some (stD C u' ps'), some (.tup (zb7 r)), some (za7 b m), y]) := q
    rw [z]; rfl
noncomputable abbrev yt7 : List D -> Option D := gP 1 0 zq6
theorem xe6 : ∀ ps : List Str, (Str.join "" ps) = cat ps
  | [] => by decide +kernel
  | [x] => by show x = x ++ (⟨#[]⟩ : Str); rw [yw9]
  | x :: y :: r => by
    have ih := xe6 (y :: r)
    show (x ++ ("" : Str)) ++ Str.join "" (y :: r) = x ++ cat (y :: r)
    rw [ih, show ("" : Str) = ⟨#[]⟩ from by decide +kernel, yw9]
theorem xi3 : ∀ ps : List Str, (ps.map (·.length)).sum = (cat ps).length
  | [] => rfl
  | x :: ps => by rw [List.map_cons, List.sum_cons, xi3 ps]; show _ = (x ++ cat ps).length; rw [zi3]
theorem ye3 : ∀ ps : List Str, D.strs (zd5 ps) = some ps
  | [] => rfl
  | x :: ps => by show D.strs (.str x :: zd5 ps) = _; rw [D.strs, ye3 ps]; rfl
theorem xw8 {C : List Int} {u : Nat} {ps : List Str} (hu : C.length <= u) (hp : ps.length <= 1000) (hc : (cat ps).length <= 1000000) : yt7 [stD C u ps] = some (.str (cat ps)) := by
  have hl : (zb5 C).length = C.length := List.length_map _
  have g : ¬ ((u : Int) < (C.length : Int)) := by omega
  have e : zx5 (.str "") [.lst true (zd5 ps)] = some (.str (cat ps)) := by
    rw [zx5, ye3, Option.bind_some, if_pos]
    . rw [show Txt.join ("" : Str) ps = Str.join "" ps from StrLaws.glued_eq_join _ _, xe6]
    . rw [xi3]
      exact ⟨by decide +kernel, by omega⟩
  unfold stD
  simp [zb4, zc0, zb0, zc9, zd6, zb6, za9, za0, za4, fT, zc7, za6, D.imm, D.imms, za1, za2, za5, gP, zq6, zb8, fIf, fB, f2, zf9, zp0, zd0, zf0, dLt, zh0, hl, g, dB, zd7, ze4, fMt, fC, e, xn7]
noncomputable abbrev yt8 : List D -> Option (D × List D) := gE 2 0 (zd9 [true, false]) zx2
theorem wh8 (C : List Int) : yt8 [.obj true "Setter" [] [], .tup (zb5 C)] = some (.non, [stD C 0 [], .tup (zb5 C)]) := by
  have hi := yc3 C
  have e : stD C 0 [] = .obj true "Setter" nsS [.tup (zb5 C), .int 0, .int 0, .lst true []] := rfl
  rw [e]
  simp [zb4, zc0, zb0, zc9, zd6, zb6, za9, za0, za4, fT, zc7, za6, D.imm, D.imms, za1, za2, za5, gE, zx2, zb8, zf2, zg7, zd0, zf0, hi, fC, zi4, zm3, zd9]
noncomputable abbrev yt9 (n : Nat) : List D -> Option D := gP 2 1 (yd7 yt8 (zz9 n) yt2 yt7)
theorem xs4 {n : Nat} {r : List Pc} {C : List Int} {t : Str} (hd : zf6 r < n) (h8 : zf6 r <= 16) (ho : okR r) (hl : (zd2 r).length <= 800) (h : zr4 true 0 r C ⟨#[]⟩ = some ([], t)) : yt9 n [.tup (zb7 r), .tup (zb5 C)] = some (.str t) := by
  obtain ⟨u', ps', q, e1, e2, e3, e4, e5⟩ := xi2 n r hd ho true 0 C 0 [] [] t (Int.le_refl _) (by omega) h (Nat.zero_le _) (by simp; omega) (by show 0 + _ <= _; omega)
  have e5' : (cat ps').length <= 0 + 201 * (zd2 r).length := e5
  have e4' : ps'.length <= 0 + (zd2 r).length := e4
  have hu : C.length <= u' := by
    have := congrArg List.length e1
    rw [List.length_drop] at this
    simp [zb4, zc0, zb0, zc9, zd6, zb6, za9, za0, za4, fT, zc7, za6, D.imm, D.imms, za1, za2, za5] at this; omega
  have w := xw8 (C := C) (ps := ps') hu (by omega) (by omega)
  rw [e2] at w
  have i := wh8 C
  have f := xw4
  have hm := yx0 (m := "set_row") (by simp [zb4, zc0, zb0, zc9, zd6, zb6, za9, za0, za4, fT, zc7, za6, D.imm, D.imms, za1, za2, za5, zd0, zf0]) q
  have p1 := zk7 r
  have p2 := yc3 C
  have p3 := zx9 true 0
  have w' : zi9 "Setter" "whole_text" (za0 2) [some (.tup (zb7 r)), some (.tup (zb5 C)), some (stD C u' ps')] = some (stD C u' ps') := by
    unfold stD
    simp [zb4, zc0, zb0, zc9, zd6, zb6, za9, za0, za4, fT, zc7, za6, D.imm, D.imms, za1, za2, za5, zi9, zd0, zf0]
  show gP 2 1 (yd7 yt8 (zz9 n) yt2 yt7) _ = _
  generalize yt8 = G1 at i |-
  generalize zz9 n = G2 at hm |-
  generalize yt2 = G3 at f |-
  generalize yt7 = G4 at w |-
  generalize stD C u' ps' = S1 at *
  generalize stD C 0 [] = S0 at *
  generalize za7 true 0 = pl at *
  have s1 : zd1 2 (za4 (zg9 "Setter" (zb6 [.im (za0 1)]) G1)) [some (.tup (zb7 r)), some (.tup (zb5 C)), none] = some (.nx, [some (.tup (zb7 r)), some (.tup (zb5 C)), some S0]) := by
    refine zo3 ?_
    simp [zb4, zc0, zb0, zc9, zd6, zb6, za9, za0, za4, fT, zc7, za6, D.imm, D.imms, za1, za2, za5, zg9, p2, i]
  have s2 : zb4 (zc0 2 zb0 (zb6 [.im (za0 0), .im (za5 G3 za2)]) (zl3 "Setter" "set_row" G2)) [some (.tup (zb7 r)), some (.tup (zb5 C)), some S0] = some (.nx, [some (.tup (zb7 r)), some (.tup (zb5 C)), some S1]) := by
    simp [zb4, zc0, zb0, zc9, zd6, zb6, za9, za0, za4, fT, zc7, za6, D.imm, D.imms, za1, za2, za5, p1, p3, f, hm]
  exact zt7 rfl ((zb3 s1).trans ((zb3 s2).trans (zj4 (zi1 (zc4 w' rfl) w))))
end My
namespace My
open PySem PySem.Spec PyProof.Rows L2 L3
theorem xe7 {c : Nat} : ∀ ys : List Str, ys ≠ [] -> (Str.join ⟨#[c]⟩ ys).length + 1 = (ys.map (·.length)).sum + ys.length
  | [], h => absurd rfl h
  | [x], _ => by show x.length + 1 = _; simp
  | x :: y :: r, _ => by
    have e := xe7 (c := c) (y :: r) (by simp)
    have j := congrArg List.length (zn6 (c := c) x y r)
    rw [List.length_append, List.length_cons, <- zs0, <- zs0, <- zs0] at j
    rw [List.map_cons, List.sum_cons, List.length_cons, j]
    omega
end My
namespace My
open PySem PySem.Spec PyProof.Rows L2 L3
mutual
noncomputable def hgP : Pc -> Prop
  | .leaf _ => True
  | .hang _ r => hgR r
  | _ => False
noncomputable def hgR : List Pc -> Prop
  | [] => True
  | p :: r => hgP p /\ hgR r
end
mutual
noncomputable def xb0 (m : Int) : Pc -> List (Leaf × Int)
  | .leaf l => [(l, m)]
  | .hang n r => zl4 (m + n) r
  | _ => []
noncomputable def zl4 (m : Int) : List Pc -> List (Leaf × Int)
  | [] => []
  | p :: r => xb0 m p ++ zl4 m r
end
noncomputable def wrT (m : Int) (k : Nat) : Leaf -> Str
  | .word x => x
  | .gap _ => nlw m
  | .stop c => if (k : Int) <= c then Txt.mul " " (c - k) else nlw c
  | .fin => nlw m
theorem xs5 (m : Int) (k : Nat) (l : Leaf) : wr true m k l = some (wrT m k l) := by
  cases l with
  | stop c =>
    show (if (k : Int) <= c then some (Txt.mul " " (c - k)) else some (nlw c)) = some (if (k : Int) <= c then Txt.mul " " (c - k) else nlw c)
    split <;> rfl
  | _ => rfl
noncomputable def zu7 : List (Leaf × Int) -> Str -> Str
  | [], t => t
  | (l, m) :: fs, t => zu7 fs (t ++ wrT m (col t) l)
theorem xe8 : ∀ (a b : List (Leaf × Int)) (t : Str), zu7 (a ++ b) t = zu7 b (zu7 a t)
  | [], _, _ => rfl
  | (l, m) :: a, b, t => by rw [List.cons_append, zu7, xe8 a b]; rfl
mutual
theorem wc8 : ∀ {p : Pc} {m : Int} {cs : List Int} {t : Str}, hgP p -> yb7 true m p cs t = some (cs, zu7 (xb0 m p) t)
  | .leaf l, m, cs, t, _ => by rw [yb7, xs5]; rfl
  | .hang n r, m, cs, t, h => by rw [yb7, xb0]; exact yx1 h
  | .group r, _, _, _, h => h.elim
  | .either rs, _, _, _, h => h.elim
theorem yx1 : ∀ {r : List Pc} {m : Int} {cs : List Int} {t : Str}, hgR r -> zr4 true m r cs t = some (cs, zu7 (zl4 m r) t)
  | [], m, cs, t, _ => by rw [zr4]; rfl
  | p :: r, m, cs, t, h => by
    have h1 : yb7 true m p cs t = _ := wc8 h.1
    rw [zr4, h1, Option.bind_some, yx1 h.2, zl4, xe8]
end
theorem yj7 (m : Int) : ∀ a b : List Pc, zl4 m (a ++ b) = zl4 m a ++ zl4 m b
  | [], b => rfl
  | p :: a, b => by rw [List.cons_append, zl4, yj7 m a b, zl4, List.append_assoc]
theorem yx2 : ∀ a b : List Pc, hgR (a ++ b) ↔ hgR a /\ hgR b
  | [], b => by simp [hgR]
  | p :: a, b => by rw [List.cons_append, hgR, hgR, yx2 a b, and_assoc]
theorem yo9 : ∀ a b : List Pc, zf6 (a ++ b) = max (zf6 a) (zf6 b)
  | [], b => by simp [zf6]
  | p :: a, b => by rw [List.cons_append, zf6, zf6, yo9 a b, Nat.max_assoc]
theorem yz8 : ∀ (ls : List Str) (x y : Str), (Str.join ⟨#[10]⟩ (ls ++ [x] ++ [y])) = Str.join ⟨#[10]⟩ (ls ++ [x]) ++ ((⟨#[10]⟩ : Str) ++ y)
  | [], x, y => by
    refine zo8 ?_
    show (Str.join ⟨#[10]⟩ [x, y]).cps.toList = _
    rw [zn6, zd4, zd4]; rfl
  | [l], x, y => by
    refine zo8 ?_
    show (Str.join ⟨#[10]⟩ [l, x, y]).cps.toList = (Str.join ⟨#[10]⟩ [l, x] ++ ((⟨#[10]⟩ : Str) ++ y)).cps.toList
    rw [zn6, zn6, zd4, zd4, zn6]
    show l.cps.toList ++ 10 :: (x.cps.toList ++ 10 :: y.cps.toList) = (l.cps.toList ++ 10 :: x.cps.toList) ++ ([10] ++ y.cps.toList)
    simp
  | l :: l' :: ls, x, y => by
    have ih := yz8 (l' :: ls) x y
    refine zo8 ?_
    show (Str.join ⟨#[10]⟩ (l :: l' :: (ls ++ [x] ++ [y]))).cps.toList = (Str.join ⟨#[10]⟩ (l :: l' :: (ls ++ [x])) ++ ((⟨#[10]⟩ : Str) ++ y)).cps.toList
    rw [zn6, zd4, zn6]
    have ih' : (Str.join ⟨#[10]⟩ (l' :: (ls ++ [x] ++ [y]))).cps.toList = (Str.join ⟨#[10]⟩ (l' :: (ls ++ [x])) ++ ((⟨#[10]⟩ : Str) ++ y)).cps.toList := congrArg (fun z => z.cps.toList) ih
    rw [ih', zd4]
    simp
theorem yb2 : ∀ (ls : List Str) (x w : Str), Str.join ⟨#[10]⟩ (ls ++ [x ++ w]) = Str.join ⟨#[10]⟩ (ls ++ [x]) ++ w
  | [], x, w => rfl
  | [l], x, w => by
    refine zo8 ?_
    show (Str.join ⟨#[10]⟩ [l, x ++ w]).cps.toList = (Str.join ⟨#[10]⟩ [l, x] ++ w).cps.toList
    rw [zn6, zd4, zn6]
    show l.cps.toList ++ 10 :: (x ++ w).cps.toList = (l.cps.toList ++ 10 :: x.cps.toList) ++ w.cps.toList
    rw [zd4]; simp
  | l :: l' :: ls, x, w => by
    have ih := yb2 (l' :: ls) x w
    refine zo8 ?_
    show (Str.join ⟨#[10]⟩ (l :: l' :: (ls ++ [x ++ w]))).cps.toList = (Str.join ⟨#[10]⟩ (l :: l' :: (ls ++ [x])) ++ w).cps.toList
    rw [zn6, zd4, zn6]
    have ih' : (Str.join ⟨#[10]⟩ (l' :: (ls ++ [x ++ w]))).cps.toList = (Str.join ⟨#[10]⟩ (l' :: (ls ++ [x])) ++ w).cps.toList := congrArg (fun z => z.cps.toList) ih
    rw [ih', zd4]
    simp
theorem xw9 (x : Str) (c : Int) : Txt.ljust x c = x ++ Txt.mul " " (c - (x.length : Int)) := by
  refine zo8 ?_
  rw [zd4, yb1]
  unfold Txt.ljust
  by_cases h : c <= (x.length : Int)
  . rw [if_pos h, show (c - (x.length : Int)).toNat = 0 by omega]; simp
  . rw [if_neg h, show (c - (x.length : Int)).toNat = c.toNat - x.length by omega]
    simp [Builtin.Str.padded]
theorem wh9 {c : Int} (h0 : 0 <= c) (h1 : c <= 40) : PadOk c = true := by
  have hs : sizeLine = 16777216 := sizeLine_eq
  unfold PadOk fitsSsize Builtin.Str.tooLong
  rw [decide_eq_false (by omega), decide_eq_false (by omega), decide_eq_false (by omega)]; rfl
noncomputable def flD (fs : List (Leaf × Int)) : List D := fs.map fun f => .tup [ze5 f.1, .int f.2]
theorem yx3 : ∀ fs : List (Leaf × Int), D.imms (flD fs) = true
  | [] => rfl
  | (l, m) :: fs => by
    show (D.imm (.tup [ze5 l, .int m]) && D.imms (flD fs)) = true
    rw [yx3 fs]
    cases l <;> rfl
theorem wc9 (a b : List (Leaf × Int)) : flD (a ++ b) = flD a ++ flD b := by simp [flD]
theorem wd0 (a : List (Leaf × Int)) : (flD a).length = a.length := by simp [flD]
end My
namespace My
open PySem PySem.Spec PyProof.Rows L2 L3
noncomputable abbrev dIf (w : String) (F : PSt -> Option (Fl × PSt)) : PSt -> Option (Fl × PSt) := fIf (za6 (kdT 2 w)) F zd7
noncomputable abbrev yd1 : PSt -> Option D := f2 dIx (za0 1) (zo2 (fC (.int 1)))
noncomputable def ym5 : PSt -> Option (Fl × PSt) :=
  zb8 (dIf "word" (zv6 1 zb0 (zo2 (fC (.int 1))) (f2 zh2 yd1 (f2 dIx (za0 2) (fC (.int 1))))))
  (zb8 (fIf (za6 (zj6 (kdT 2 "gap") (kdT 2 "end"))) (zb4 (zc0 1 zb0 (za1 (f2 yd5 (fC (.str " ")) (za0 3)) za2) zc5)) zd7)
  (dIf "stop" (zb8 (fIf (za6 (fB (f2 dGt (za5 zh0 (za1 yd1 za2)) (f2 dIx (za0 2) (fC (.int 1)))))) (zb4 (zc0 1 zb0 (za1 (fC (.str "")) za2) zc5)) zd7)
    (zv6 1 zb0 (zo2 (fC (.int 1))) (fMt zv7 yd1 (za1 (f2 dIx (za0 2) (fC (.int 1))) za2))))))
section
variable {A x2 x3 : Option D} {ls : List Str} {x : Str}
theorem zz3 (ls : List Str) (x : Str) : zd5 (ls ++ [x]) = zd5 ls ++ [.str x] := yz1 ls [x]
theorem yx4 : yd1 [A, some (.lst true (zd5 (ls ++ [x]))), x2, x3] = some (.str x) := by
  refine ze2 rfl rfl ?_
  rw [zz3]
  show atI (zd5 ls ++ [.str x]) (-1) = _
  unfold atI
  rw [List.length_append, List.length_singleton, yo5, Option.bind_some]
  simp
theorem yg8 {fe : PSt -> Option D} {y : Str} (h : fe [A, some (.lst true (zd5 (ls ++ [x]))), x2, x3] = some (.str y)) : zv6 1 zb0 (zo2 (fC (.int 1))) fe [A, some (.lst true (zd5 (ls ++ [x]))), x2, x3] = some (.nx, [A, some (.lst true (zd5 (ls ++ [y]))), x2, x3]) := by
  have e : ixN (zd5 (ls ++ [x])).length (-1) = some ls.length := by rw [yc1, List.length_append, List.length_singleton, yo5]
  have e2 : (zd5 (ls ++ [x])).set ls.length (.str y) = zd5 (ls ++ [y]) := by
    rw [zz3, zz3]
    have := yo6 (zd5 ls) (D.str x) (.str y)
    rwa [yc1] at this
  unfold zv6
  rw [h, Option.bind_some]
  show ((some (.lst true (zd5 (ls ++ [x]))) : Option D).bind _) = _
  rw [Option.bind_some]
  show (some []).bind _ = _
  rw [Option.bind_some]
  show (some (D.int (-1))).bind _ = _
  rw [Option.bind_some]
  show ((yk1 (.int (-1)) (.str y) (.lst true (zd5 (ls ++ [x])))).bind _) = _
  unfold yk1
  simp only
  rw [e]
  simp only [Option.bind_some]
  rw [e2]; rfl
theorem yg9 {fe : PSt -> Option D} {y : Str} (h : fe [A, some (.lst true (zd5 (ls ++ [x]))), x2, x3] = some (.str y)) (hl : ls.length <= 900) : zb4 (zc0 1 zb0 (za1 fe za2) zc5) [A, some (.lst true (zd5 (ls ++ [x]))), x2, x3] = some (.nx, [A, some (.lst true (zd5 (ls ++ [x] ++ [y]))), x2, x3]) := by
  have hz : (zd5 (ls ++ [x])).length < sizeLine := by rw [yc1, List.length_append, List.length_singleton]; exact sz1 (by omega)
  refine yg6 (d := .non) ?_
  unfold zc0
  show ((some (.lst true (zd5 (ls ++ [x]))) : Option D).bind _) = _
  rw [Option.bind_some]
  show (some []).bind _ = _
  rw [Option.bind_some, zc4 h (show za2 _ = some [] from rfl), Option.bind_some]
  show ((zc5 [.str y] (.lst true (zd5 (ls ++ [x])))).bind _) = _
  rw [show zc5 [.str y] (.lst true (zd5 (ls ++ [x]))) = some (.non, .lst true (zd5 (ls ++ [x]) ++ [.str y])) from if_pos hz, <- zz3]; rfl
end
theorem wd1 {A : Option D} {ls : List Str} {x : Str} {l : Leaf} {m : Int} (hl : zp8 l) (h0 : 0 <= m) (h1 : m <= 200) (hn : ls.length <= 900) (hx : x.length <= 900000) (hc : col (Str.join ⟨#[10]⟩ (ls ++ [x])) = x.length) :
    ∃ ls' x', ym5 [A, some (.lst true (zd5 (ls ++ [x]))), some (ze5 l), some (.int m)] = some (.nx, [A, some (.lst true (zd5 (ls' ++ [x']))), some (ze5 l), some (.int m)]) /\ Str.join ⟨#[10]⟩ (ls' ++ [x']) = Str.join ⟨#[10]⟩ (ls ++ [x]) ++ wrT m (col (Str.join ⟨#[10]⟩ (ls ++ [x]))) l /\
      col (Str.join ⟨#[10]⟩ (ls' ++ [x'])) = x'.length /\ ls'.length <= ls.length + 1 /\ x'.length <= x.length + 201 := by
  have hs : sizeLine = 16777216 := sizeLine_eq
  have nlx : ∀ c : Int, Str.join ⟨#[10]⟩ (ls ++ [x] ++ [Txt.mul " " c]) = Str.join ⟨#[10]⟩ (ls ++ [x]) ++ nlw c := fun c => yz8 ls x _
  have nlc : ∀ c : Int, col (Str.join ⟨#[10]⟩ (ls ++ [x] ++ [Txt.mul " " c])) = (Txt.mul " " c).length := fun c => by rw [nlx]; exact xr9 (yr9 c)
  have lsl : (ls ++ [x]).length = ls.length + 1 := by simp
  have mulm : ∀ {A x2}, f2 yd5 (fC (.str " ")) (za0 3) [A, some (.lst true (zd5 (ls ++ [x]))), x2, some (.int m)] = some (.str (Txt.mul " " m)) := ze2 rfl rfl (xm8 m (by omega) (by omega))
  cases l with
  | word y =>
    have hy : y.length <= 12 := hl.2.1
    refine ⟨ls, x ++ y, ?_, yb2 ls x y, by rw [yb2, yw6 (xi1 hl), hc, zi3], by omega, by rw [zi3]; omega⟩
    have a : zh2 (.str x) (.str y) = some (.str (x ++ y)) := by rw [zh2, if_pos]; omega
    exact (zb3 ((zj1 (zn5 rfl (by decide))).trans (yg8 (ze2 yx4 (ze2 rfl rfl (zj0 _ _ _)) a)))).trans ((zb3 (zf5 (xm2 (zn5 rfl (by decide)) (zn5 rfl (by decide))))).trans (zf5 (zn5 rfl (by decide))))
  | gap y =>
    refine ⟨ls ++ [x], Txt.mul " " m, ?_, nlx m, nlc m, by omega, by rw [zw7]; omega⟩
    exact (zb3 (zf5 (zn5 rfl (by decide)))).trans ((zb3 ((zj1 (wk5 (zn5 rfl (by decide)))).trans (yg9 mulm hn))).trans (zf5 (zn5 rfl (by decide))))
  | fin =>
    refine ⟨ls ++ [x], Txt.mul " " m, ?_, nlx m, nlc m, by omega, by rw [zw7]; omega⟩
    exact (zb3 (zf5 (zn5 rfl (by decide)))).trans ((zb3 ((zj1 (xm2 (zn5 rfl (by decide)) (zn5 rfl (by decide)))).trans (yg9 mulm hn))).trans (zf5 (zn5 rfl (by decide))))
  | stop c =>
    have hcc : 0 <= c /\ c <= 40 := hl
    have ln : ∀ {x3}, fB (f2 dGt (za5 zh0 (za1 yd1 za2)) (f2 dIx (za0 2) (fC (.int 1)))) [A, some (.lst true (zd5 (ls ++ [x]))), some (ze5 (.stop c)), x3] = some (decide (c < (x.length : Int))) := yc2 (ze2 (x := .int (x.length : Int)) (zi1 (zc4 yx4 rfl) (if_pos (by omega))) (ze2 rfl rfl (zj0 _ _ _)) rfl)
    have lj : ∀ {ls0 : List Str} {x0 : Str} {x3}, fMt zv7 yd1 (za1 (f2 dIx (za0 2) (fC (.int 1))) za2) [A, some (.lst true (zd5 (ls0 ++ [x0]))), some (ze5 (.stop c)), x3] = some (.str (x0 ++ Txt.mul " " (c - (x0.length : Int)))) := fun {ls0 x0 x3} => by
      unfold fMt
      rw [yx4, Option.bind_some, zc4 (show f2 dIx (za0 2) (fC (.int 1)) [A, some (.lst true (zd5 (ls0 ++ [x0]))), some (ze5 (.stop c)), x3] = some (.int c) from ze2 rfl rfl (zj0 _ _ _)) (show za2 _ = some [] from rfl), Option.bind_some]
      show zv7 (.str x0) [.int c] = _
      rw [zv7, if_pos (wh9 hcc.1 hcc.2), xw9]
    have pre : ∀ {F Z}, zb8 F (zv6 1 zb0 (zo2 (fC (.int 1))) (fMt zv7 yd1 (za1 (f2 dIx (za0 2) (fC (.int 1))) za2))) [A, some (.lst true (zd5 (ls ++ [x]))), some (ze5 (.stop c)), some (.int m)] = Z -> F = fIf (za6 (fB (f2 dGt (za5 zh0 (za1 yd1 za2)) (f2 dIx (za0 2) (fC (.int 1)))))) (zb4 (zc0 1 zb0 (za1 (fC (.str "")) za2) zc5)) zd7 -> ym5 [A, some (.lst true (zd5 (ls ++ [x]))), some (ze5 (.stop c)), some (.int m)] = Z := fun h hF => by
      subst hF
      exact (zb3 (zf5 (zn5 rfl (by decide)))).trans ((zb3 (zf5 (xm2 (zn5 rfl (by decide)) (zn5 rfl (by decide))))).trans ((zj1 (zn5 rfl (by decide))).trans h))
    by_cases hk : (x.length : Int) <= c
    . have p0 := ln (x3 := some (.int m))
      rw [decide_eq_false (by omega)] at p0
      refine ⟨ls, x ++ Txt.mul " " (c - (x.length : Int)), pre ((zb3 (zf5 p0)).trans (yg8 lj)) rfl, ?_, by rw [yb2, yw6 (yr9 _), hc, zi3], by omega, by rw [zi3, zw7]; omega⟩
      rw [yb2, hc]
      show _ = _ ++ (if (x.length : Int) <= c then _ else _)
      rw [if_pos hk]
    . have p0 := ln (x3 := some (.int m))
      rw [decide_eq_true (by omega)] at p0
      have e0 : (⟨#[]⟩ : Str) ++ Txt.mul " " (c - ((⟨#[]⟩ : Str).length : Int)) = Txt.mul " " c := by
        refine zo8 ?_
        rw [zd4, yb1, yb1]
        show [] ++ List.replicate (c - ((0 : Nat) : Int)).toNat 32 = _
        rw [show (c - ((0 : Nat) : Int)) = c by omega]; rfl
      have q := lj (ls0 := ls ++ [x]) (x0 := ⟨#[]⟩) (x3 := some (.int m))
      rw [e0] at q
      refine ⟨ls ++ [x], Txt.mul " " c, pre ((zb3 ((zj1 p0).trans (yg9 (y := ⟨#[]⟩) (by rw [xe2]; rfl) hn))).trans (yg8 q)) rfl, ?_, nlc c, by omega, by rw [zw7]; omega⟩
      rw [nlx, hc]
      show _ = _ ++ (if (x.length : Int) <= c then _ else _)
      rw [if_neg hk]
theorem xe9 {A : Option D} : ∀ (fs : List (Leaf × Int)) (ls : List Str) (x : Str) (x2 x3 : Option D), (∀ f ∈ fs, zp8 f.1 /\ 0 <= f.2 /\ f.2 <= 200) -> ls.length + fs.length <= 900 -> x.length + 201 * fs.length <= 900000 -> col (Str.join ⟨#[10]⟩ (ls ++ [x])) = x.length ->
    ∃ ls' x' y2 y3, zs5 [2, 3] ym5 (flD fs) [A, some (.lst true (zd5 (ls ++ [x]))), x2, x3] = some (.nx, [A, some (.lst true (zd5 (ls' ++ [x']))), y2, y3]) /\ Str.join ⟨#[10]⟩ (ls' ++ [x']) = zu7 fs (Str.join ⟨#[10]⟩ (ls ++ [x]))
  | [], ls, x, x2, x3, _, _, _, _ => ⟨ls, x, x2, x3, rfl, rfl⟩
  | (l, m) :: fs, ls, x, x2, x3, hf, hn, hx, hc => by
    obtain ⟨h1, h2, h3⟩ := hf (l, m) List.mem_cons_self
    rw [List.length_cons] at hn hx
    obtain ⟨ls1, x1, q, e1, e2, e3, e4⟩ := wd1 (A := A) (l := l) (m := m) h1 h2 h3 (by omega) (by omega) hc
    obtain ⟨ls2, x2', y2, y3, q2, e5⟩ := xe9 (A := A) fs ls1 x1 (some (ze5 l)) (some (.int m)) (fun f h => hf f (List.mem_cons_of_mem _ h)) (by omega) (by omega) e2
    refine ⟨ls2, x2', y2, y3, ?_, by rw [e5, e1]; rfl⟩
    show zs5 [2, 3] ym5 (.tup [ze5 l, .int m] :: flD fs) _ = _
    rw [zs5]
    show ((ym5 [A, some (.lst true (zd5 (ls ++ [x]))), some (ze5 l), some (.int m)]).bind _) = _
    rw [q]; exact q2
theorem xf0 : ∀ (fs : List (Leaf × Int)) (t : Str), (∀ f ∈ fs, zp8 f.1 /\ 0 <= f.2 /\ f.2 <= 200) -> (zu7 fs t).length <= t.length + 201 * fs.length
  | [], t, _ => Nat.le_refl _
  | (l, m) :: fs, t, hf => by
    obtain ⟨h1, h2, h3⟩ := hf (l, m) List.mem_cons_self
    have w := (xm6 h1 h2 h3 (xs5 m (col t) l)).2
    have ih := xf0 fs (t ++ wrT m (col t) l) fun f h => hf f (List.mem_cons_of_mem _ h)
    rw [zi3] at ih
    rw [zu7, List.length_cons]
    omega
noncomputable abbrev xg1 : List D -> Option D := gP 1 3 xf9
theorem wi0 (l : List Str) : D.strs (zd5 l) = some l := by
  induction l with
  | nil => rfl
  | cons a l ih => show D.strs (.str a :: zd5 l) = _; rw [D.strs, ih]; rfl
theorem wi1 {fs : List (Leaf × Int)} (hf : ∀ f ∈ fs, zp8 f.1 /\ 0 <= f.2 /\ f.2 <= 200) (hn : fs.length <= 200) : xg1 [.lst false (flD fs)] = some (.str (zu7 fs ⟨#[]⟩)) := by
  obtain ⟨ls, x, y2, y3, q, e⟩ := xe9 (A := some (.lst false (flD fs))) fs [] ⟨#[]⟩ none none hf (by show 0 + _ <= _; omega) (by show 0 + _ <= _; omega) rfl
  have e' : Str.join ⟨#[10]⟩ (ls ++ [x]) = zu7 fs ⟨#[]⟩ := e
  have hl := xf0 fs ⟨#[]⟩ hf
  rw [show (⟨#[]⟩ : Str).length = 0 from rfl] at hl
  have jl := xe7 (c := 10) (ls ++ [x]) (by simp)
  rw [e'] at jl
  have s1 : zd1 1 (za4 (zi4 (za1 (fC (.str "")) za2))) [some (.lst false (flD fs)), none, none, none] = some (.nx, [some (.lst false (flD fs)), some (.lst true (zd5 ([] ++ [⟨#[]⟩]))), none, none]) := by rw [xe2]; rfl
  have s2 : ys7 [2, 3] (zo0 (za0 0)) ym5 [some (.lst false (flD fs)), some (.lst true (zd5 ([] ++ [⟨#[]⟩]))), none, none] = some (.nx, [some (.lst false (flD fs)), some (.lst true (zd5 (ls ++ [x]))), y2, y3]) := by
    have e1 : zo0 (za0 0) [some (.lst false (flD fs)), some (.lst true (zd5 ([] ++ [⟨#[]⟩]))), none, none] = some (flD fs) := if_pos (yx3 fs)
    unfold ys7
    rw [e1]; exact q
  have s3 : ze4 (za4 (fMt zx5 (fC (.str "\n")) (za1 (za0 1) za2))) [some (.lst false (flD fs)), some (.lst true (zd5 (ls ++ [x]))), y2, y3] = some (.ret (.str (zu7 fs ⟨#[]⟩)), [some (.lst false (flD fs)), some (.lst true (zd5 (ls ++ [x]))), y2, y3]) := by
    refine zj4 ?_
    show zx5 (.str "\n") [.lst true (zd5 (ls ++ [x]))] = _
    rw [zx5, wi0, Option.bind_some, if_pos ⟨by decide +kernel, by omega⟩, xm5, <- e']
    congr 2
    exact StrLaws.glued_eq_join _ _
  exact zt7 rfl ((zb3 s1).trans ((zb3 s2).trans s3))
end My
namespace My
open PySem PySem.Spec PyProof.Rows L2 L3
noncomputable def xo0 (a b : Nat) : Str := Txt.slice (Txt.slice "Line-press+12" (some (a : Int)) none) none (some (b : Int))
noncomputable def xz4 (z : Str) : Bool := decide (1 <= z.length) && decide (z.length <= 12) && z.cps.toList.all xn8
theorem wd2 : ((List.range 12).all fun a => (List.range 13).all fun b => decide (b = 0) || xz4 (xo0 a b)) = true := by decide +kernel
theorem xx0 {a b : Nat} (ha : a < 12) (h0 : 1 <= b) (hb : b <= 12) : xf8 (xo0 a b) := by
  have h1 := List.all_eq_true.mp wd2 a (List.mem_range.mpr ha)
  have h2 := List.all_eq_true.mp h1 b (List.mem_range.mpr (by omega))
  rw [decide_eq_false (by omega), Bool.false_or] at h2
  unfold xz4 at h2
  simp only [Bool.and_eq_true, decide_eq_true_eq] at h2
  exact ⟨h2.1.1, h2.1.2, h2.2⟩
noncomputable abbrev zy3 : List D -> Option D := gP 1 1 zt3
theorem wm2 (k : Int) (h0 : 0 <= k) (h1 : k < 2) : ∃ x : Str, atI [D.str (Str.ofString ""), .str (Str.ofString " ")] k = some (.str x) /\ (x = "" \/ x = " ") := by
  obtain ⟨d, hd, e⟩ := yw4 [D.str (Str.ofString ""), .str (Str.ofString " ")] k h0 (by simpa using h1)
  simp only [List.mem_cons, List.not_mem_nil, or_false] at hd
  rcases hd with rfl | rfl
  . exact ⟨_, e, .inl rfl⟩
  . exact ⟨_, e, .inr rfl⟩
theorem xx1 {m : Int} (hm : 0 <= m) : ∃ l, zy3 [.int m] = some (ze5 l) /\ zp8 l := by
  have d7 := Int.emod_nonneg m (show (7 : Int) ≠ 0 by decide)
  have e7 := Int.emod_lt_of_pos m (show (0 : Int) < 7 by decide)
  by_cases c1 : m % 7 < 3
  . obtain ⟨a, ea, ha⟩ := yw5 (m / 7) 0 12 (by decide)
    obtain ⟨b, eb, hb⟩ := yw5 (m / 84) 1 12 (by decide)
    have b1 : 1 <= b := by
      have := Int.emod_nonneg (m / 84) (show (12 : Int) ≠ 0 by decide)
      have eb' : 1 + m / 84 % 12 = (b : Int) := eb
      omega
    have ea' : m / 7 % 12 = (a : Int) := (Int.zero_add _).symm.trans ea
    have eb' : 1 + m / 84 % 12 = (b : Int) := eb
    refine ⟨.word (xo0 a b), ?_, xx0 (by omega) b1 (by omega)⟩
    have z1 : ("Line-press+12" : Str).length <= sizeLine := sz (by decide +kernel)
    have z2 : (Txt.slice "Line-press+12" (some (a : Int)) none).length <= sizeLine := by
      have : ((List.range 12).all fun a => decide ((Txt.slice "Line-press+12" (some ((a : Nat) : Int)) none).length <= 1000)) = true := by decide +kernel
      exact sz (of_decide_eq_true (List.all_eq_true.mp this a (List.mem_range.mpr (by omega))))
    simp [za4, za6, fB, f2, za0, fC, za9, za1, za2, za5, dIx, fT, zc7, ze8, ze9, dB, gP, zt3, zb8, zd1, fIf, ze4, zi5, fSl, ys3, ye9, dLt, dSl, zh2, c1, ea', eb', z1, z2, ze5, xo0, D.imms, D.imm]
  . by_cases c2 : m % 7 < 5
    . obtain ⟨x, q, hx⟩ := wm2 (m % 7 - 3) (by omega) (by omega)
      exact ⟨.gap x, by simp [za4, za6, fB, f2, za0, fC, za9, za1, za2, za5, dIx, fT, zc7, ze8, ze9, dB, gP, zt3, zb8, zd1, fIf, ze4, zi5, zi4, zd7, dLt, zl6, c1, c2, q, ze5, D.imms, D.imm], hx⟩
    . by_cases c3 : m % 7 = 5
      . exact ⟨.fin, by simp [za4, za6, fB, f2, za0, fC, za9, za1, za2, za5, dIx, fT, zc7, ze8, ze9, dB, gP, zt3, zb8, zd1, fIf, ze4, zi5, zd7, dLt, dEq, eqB, c1, c2, c3, ze5, D.imms, D.imm], trivial⟩
      . have hc := Int.emod_nonneg (m / 7) (show (41 : Int) ≠ 0 by decide)
        have hd := Int.emod_lt_of_pos (m / 7) (show (0 : Int) < 41 by decide)
        exact ⟨.stop (m / 7 % 41), by simp [za4, za6, fB, f2, za0, fC, za9, za1, za2, za5, dIx, fT, zc7, ze8, ze9, dB, gP, zt3, zb8, zd1, fIf, ze4, zi5, zd7, dLt, dEq, eqB, c1, c2, c3, ze5, D.imms, D.imm], hc, by omega⟩
noncomputable def frD (rs : List (List Pc)) : List D := rs.map fun r => .lst true (zb7 r)
theorem xi4 (a b : List (List Pc)) : frD (a ++ b) = frD a ++ frD b := by simp [za4, za6, fB, f2, za0, fC, za9, za1, za2, za5, dIx, fT, zc7, ze8, ze9, dB, frD]
theorem wd3 (a : List (List Pc)) : (frD a).length = a.length := by simp [za4, za6, fB, f2, za0, fC, za9, za1, za2, za5, dIx, fT, zc7, ze8, ze9, dB, frD]
noncomputable def ym6 : List (List Pc) -> List Int -> Int -> List (Leaf × Int)
  | r :: rs, h :: hs, m => zl4 m r ++ ym6 rs hs (m + h)
  | _, _, _ => []
theorem yh0 : ∀ (rs : List (List Pc)) (hs : List Int) (m : Int) (a : List Pc) (h : Int), hs.length = rs.length -> ym6 (rs ++ [a]) (hs ++ [h]) m = ym6 rs hs m ++ zl4 (m + hs.sum) a
  | [], [], m, a, h, _ => by
    show zl4 m a ++ [] = [] ++ zl4 (m + 0) a
    rw [List.append_nil, Int.add_zero]; rfl
  | r :: rs, g :: hs, m, a, h, e => by
    show zl4 m r ++ ym6 (rs ++ [a]) (hs ++ [h]) (m + g) = (zl4 m r ++ ym6 rs hs (m + g)) ++ zl4 (m + (g :: hs).sum) a
    rw [yh0 rs hs (m + g) a h (by simpa using e), List.append_assoc, List.sum_cons, Int.add_assoc]
  | [], _ :: _, _, _, _, e => by simp [za4, za6, fB, f2, za0, fC, za9, za1, za2, za5, dIx, fT, zc7, ze8, ze9, dB] at e
  | _ :: _, [], _, _, _, e => by simp [za4, za6, fB, f2, za0, fC, za9, za1, za2, za5, dIx, fT, zc7, ze8, ze9, dB] at e
noncomputable def tkS (rs : List (List Pc)) : Nat := (rs.map fun r => (zd2 r).length).sum
theorem zo9 (rs : List (List Pc)) (a : List Pc) : tkS (rs ++ [a]) = tkS rs + (zd2 a).length := by simp [za4, za6, fB, f2, za0, fC, za9, za1, za2, za5, dIx, fT, zc7, ze8, ze9, dB, tkS]
theorem yz9 (a : List Pc) (p : Pc) : (zd2 (a ++ [p])).length = (zd2 a).length + (zh5 p).length := by
  induction a with
  | nil => simp [za4, za6, fB, f2, za0, fC, za9, za1, za2, za5, dIx, fT, zc7, ze8, ze9, dB, zd2]
  | cons q a ih => rw [List.cons_append, zd2, zd2, List.length_append, List.length_append, ih]; omega
structure BI (deep k : Nat) (rs : List (List Pc)) (a : List Pc) (hs : List Int) (fl : List (Leaf × Int)) : Prop where
  len : hs.length = rs.length
  ok : ∀ r ∈ rs ++ [a], okR r /\ hgR r
  dep : ∀ i r, (rs ++ [a])[i]? = some r -> zf6 r + i <= deep
  hg : ∀ h ∈ hs, 0 <= h /\ h <= 12
  tk : tkS (rs ++ [a]) + 2 * hs.length <= 2 * k
  eq : fl = ym6 rs hs 0 ++ zl4 hs.sum a
  fk : fl.length <= k
  fok : ∀ f ∈ fl, zp8 f.1 /\ 0 <= f.2 /\ f.2 <= 200
theorem xs6 : ∀ hs : List Int, (∀ h ∈ hs, 0 <= h /\ h <= 12) -> 0 <= hs.sum /\ hs.sum <= 12 * (hs.length : Int)
  | [], _ => ⟨Int.le_refl _, Int.le_refl _⟩
  | h :: hs, H => by
    obtain ⟨a, b⟩ := xs6 hs fun x hx => H x (List.mem_cons_of_mem _ hx)
    obtain ⟨c, d⟩ := H h List.mem_cons_self
    rw [List.sum_cons, List.length_cons]
    constructor <;> omega
section
variable {deep k : Nat} {rs : List (List Pc)} {a : List Pc} {hs : List Int} {fl : List (Leaf × Int)}
theorem BI.lenD (B : BI deep k rs a hs fl) : rs.length <= deep := by
  have := B.dep rs.length a (by simp [za4, za6, fB, f2, za0, fC, za9, za1, za2, za5, dIx, fT, zc7, ze8, ze9, dB])
  omega
theorem BI.push (B : BI deep k rs a hs fl) {h : Int} (h0 : 0 <= h) (h1 : h <= 12) (hd : hs.length < deep) : BI deep (k + 1) (rs ++ [a]) [] (hs ++ [h]) fl := by
  have e := B.len
  refine ⟨by simp [za4, za6, fB, f2, za0, fC, za9, za1, za2, za5, dIx, fT, zc7, ze8, ze9, dB, e], fun r hr => ?_, fun i r hi => ?_, fun x hx => ?_, ?_, ?_, Nat.le_succ_of_le B.fk, B.fok⟩
  . rcases List.mem_append.mp hr with hr | hr
    . exact B.ok r hr
    . rw [List.mem_singleton.mp hr]; exact ⟨trivial, trivial⟩
  . by_cases c : i < (rs ++ [a]).length
    . rw [List.getElem?_append_left c] at hi; exact B.dep i r hi
    . rw [List.getElem?_append_right (by omega)] at hi
      have hi0 := (List.getElem?_eq_some_iff.mp hi).1
      simp only [List.length_singleton] at hi0
      have : i = rs.length + 1 := by simp [za4, za6, fB, f2, za0, fC, za9, za1, za2, za5, dIx, fT, zc7, ze8, ze9, dB] at c hi0; omega
      subst this
      simp [za4, za6, fB, f2, za0, fC, za9, za1, za2, za5, dIx, fT, zc7, ze8, ze9, dB] at hi
      subst hi
      rw [zf6]; omega
  . rcases List.mem_append.mp hx with hx | hx
    . exact B.hg x hx
    . rw [List.mem_singleton.mp hx]; exact ⟨h0, h1⟩
  . have := B.tk
    rw [zo9, List.length_append, List.length_singleton]
    rw [zd2]
    show _ + 0 + _ <= _
    omega
  . rw [yh0 rs hs 0 a h e, Int.zero_add, zl4, List.append_nil]; exact B.eq
theorem BI.leaf (B : BI deep k rs a hs fl) {l : Leaf} (hl : zp8 l) (hd : deep <= 16) : BI deep (k + 1) rs (a ++ [.leaf l]) hs (fl ++ [(l, hs.sum)]) := by
  obtain ⟨s0, s1⟩ := xs6 hs B.hg
  have ld := B.lenD
  have e := B.len
  have oka := B.ok a (by simp [za4, za6, fB, f2, za0, fC, za9, za1, za2, za5, dIx, fT, zc7, ze8, ze9, dB])
  refine ⟨e, fun r hr => ?_, fun i r hi => ?_, B.hg, ?_, ?_, by rw [List.length_append, List.length_singleton]; exact Nat.succ_le_succ B.fk, fun f hf => ?_⟩
  . rcases List.mem_append.mp hr with hr | hr
    . exact B.ok r (List.mem_append_left _ hr)
    . rw [List.mem_singleton.mp hr]
      exact ⟨(ye6 _ _).mpr ⟨oka.1, (yl7 _).mpr hl⟩, (yx2 _ _).mpr ⟨oka.2, trivial, trivial⟩⟩
  . by_cases c : i < rs.length
    . rw [List.getElem?_append_left c] at hi
      exact B.dep i r (by rw [List.getElem?_append_left c]; exact hi)
    . have hi0 := (List.getElem?_eq_some_iff.mp hi).1
      have : i = rs.length := by simp [za4, za6, fB, f2, za0, fC, za9, za1, za2, za5, dIx, fT, zc7, ze8, ze9, dB] at hi0; omega
      subst this
      simp [za4, za6, fB, f2, za0, fC, za9, za1, za2, za5, dIx, fT, zc7, ze8, ze9, dB] at hi
      subst hi
      have := B.dep rs.length a (by simp [za4, za6, fB, f2, za0, fC, za9, za1, za2, za5, dIx, fT, zc7, ze8, ze9, dB])
      rw [yo9, zf6, zr3, zf6]
      simp only [Nat.max_zero, Nat.zero_max]
      omega
  . have := B.tk
    rw [zo9] at this |-
    rw [yz9, zh5]
    show _ + (_ + 1) + _ <= _
    omega
  . rw [B.eq, yj7, List.append_assoc]; rfl
  . rcases List.mem_append.mp hf with hf | hf
    . exact B.fok f hf
    . rw [List.mem_singleton.mp hf]
      exact ⟨hl, s0, by show hs.sum <= 200; omega⟩
theorem BI.shut {b : List Pc} {h : Int} (B : BI deep k (rs ++ [b]) a (hs ++ [h]) fl) : BI deep k rs (b ++ [.hang h a]) hs fl := by
  have e : hs.length = rs.length := by have := B.len; simpa using this
  have oka := B.ok a (by simp [za4, za6, fB, f2, za0, fC, za9, za1, za2, za5, dIx, fT, zc7, ze8, ze9, dB])
  have okb := B.ok b (by simp [za4, za6, fB, f2, za0, fC, za9, za1, za2, za5, dIx, fT, zc7, ze8, ze9, dB])
  have hh := B.hg h (by simp [za4, za6, fB, f2, za0, fC, za9, za1, za2, za5, dIx, fT, zc7, ze8, ze9, dB])
  refine ⟨e, fun r hr => ?_, fun i r hi => ?_, fun x hx => B.hg x (List.mem_append_left _ hx), ?_, ?_, B.fk, B.fok⟩
  . rcases List.mem_append.mp hr with hr | hr
    . exact B.ok r (List.mem_append_left _ (List.mem_append_left _ hr))
    . rw [List.mem_singleton.mp hr]
      exact ⟨(ye6 _ _).mpr ⟨okb.1, (yl7 _).mpr ⟨hh, oka.1⟩⟩, (yx2 _ _).mpr ⟨okb.2, oka.2, trivial⟩⟩
  . by_cases c : i < rs.length
    . rw [List.getElem?_append_left c] at hi
      exact B.dep i r (by rw [List.append_assoc, List.getElem?_append_left c]; exact hi)
    . have hi0 := (List.getElem?_eq_some_iff.mp hi).1
      have : i = rs.length := by simp [za4, za6, fB, f2, za0, fC, za9, za1, za2, za5, dIx, fT, zc7, ze8, ze9, dB] at hi0; omega
      subst this
      simp [za4, za6, fB, f2, za0, fC, za9, za1, za2, za5, dIx, fT, zc7, ze8, ze9, dB] at hi
      subst hi
      have d1 := B.dep rs.length b (by simp [za4, za6, fB, f2, za0, fC, za9, za1, za2, za5, dIx, fT, zc7, ze8, ze9, dB])
      have d2 := B.dep (rs.length + 1) a (by rw [List.getElem?_append_right (by simp [za4, za6, fB, f2, za0, fC, za9, za1, za2, za5, dIx, fT, zc7, ze8, ze9, dB])]; simp [za4, za6, fB, f2, za0, fC, za9, za1, za2, za5, dIx, fT, zc7, ze8, ze9, dB])
      rw [yo9, zf6, zr3, zf6]
      simp only [Nat.max_zero]
      omega
  . have := B.tk
    rw [zo9, zo9, List.length_append, List.length_singleton] at this
    rw [zo9, yz9, zh5, List.length_cons, List.length_append]
    show _ + (_ + (_ + 1 + 1)) + _ <= _
    omega
  . rw [B.eq, yh0 rs hs 0 b h e, Int.zero_add, yj7, List.append_assoc]
    congr 2
    rw [zl4, xb0, zl4, List.append_nil, List.sum_append]
    simp [za4, za6, fB, f2, za0, fC, za9, za1, za2, za5, dIx, fT, zc7, ze8, ze9, dB]
end
end My
namespace My
open PySem PySem.Spec PyProof.Rows L2 L3
noncomputable abbrev yu0 : PSt -> Option (Fl × PSt) := zb8 (zd1 8 (yb5 zs2 (zc0 3 zb0 za2 zy7))) (zb4 (ym2 3 (zs4 3 zb0 (zo2 (fC (.int 1)))) (zm0 (fC (.str "hang")) (zz6 4 (zm0 (za0 8) zt2)))))
theorem ym0 {α : Type} {l : List α} (h : 0 < l.length) : ∃ l' x, l = l' ++ [x] := ⟨l.dropLast, l.getLast (by intro z; subst z; simp at h), (List.dropLast_concat_getLast _).symm⟩
theorem xf1 {α : Type} (l : List α) (x : α) : (l ++ [x])[(l ++ [x]).length - 1]? = some x := by simp
theorem xi5 {α : Type} (l : List α) (x : α) {n : Nat} (h : n = l.length) : (l ++ [x])[n]? = some x := by subst h; simp
section
variable {x0 x1 x2 x5 x6 x7 x8 x9 : Option D} {rs : List (List Pc)} {a b : List Pc} {hs : List Int} {h : Int}
theorem xa0 {p : PSt} {xs : List D} {d : D} (hp : p[3]? = some (some (.lst true (xs ++ [d])))) : zs4 3 zb0 (zo2 (fC (.int 1))) p = some [.ix xs.length] := by
  unfold zs4
  show (some []).bind _ = _
  rw [Option.bind_some, hp, Option.join_some, Option.bind_some]
  show (some (D.lst true (xs ++ [d]))).bind _ = _
  rw [Option.bind_some]
  show (some (D.int (-1))).bind _ = _
  rw [Option.bind_some]
  show ((ixN (xs ++ [d]).length (-1)).bind _) = _
  rw [List.length_append, List.length_singleton, yo5]; rfl
theorem xf2 (hz : b.length <= 900) : yu0 [x0, x1, x2, some (.lst true (frD (rs ++ [b] ++ [a]))), some (.lst true (zb5 (hs ++ [h]))), x5, x6, x7, x8, x9] = some (.nx, [x0, x1, x2, some (.lst true (frD (rs ++ [b ++ [.hang h a]]))), some (.lst true (zb5 hs)), x5, x6, x7, some (.tup (zb7 a)), x9]) := by
  have fa : ∀ (l : List (List Pc)) (r : List Pc), frD (l ++ [r]) = frD l ++ [.lst true (zb7 r)] := fun l r => xi4 l [r]
  have s1 : zd1 8 (yb5 zs2 (zc0 3 zb0 za2 zy7)) [x0, x1, x2, some (.lst true (frD (rs ++ [b] ++ [a]))), some (.lst true (zb5 (hs ++ [h]))), x5, x6, x7, x8, x9] = some (.nx, [x0, x1, x2, some (.lst true (frD (rs ++ [b]))), some (.lst true (zb5 (hs ++ [h]))), x5, x6, x7, some (.tup (zb7 a)), x9]) := by
    have e : zy7 [] (.lst true (frD (rs ++ [b] ++ [a]))) = some (.lst true (zb7 a), .lst true (frD (rs ++ [b]))) := by
      rw [fa (rs ++ [b]) a]
      unfold zy7
      simp only
      rw [xf1, Option.bind_some, List.dropLast_concat]
    have e1 : zc0 3 zb0 za2 zy7 [x0, x1, x2, some (.lst true (frD (rs ++ [b] ++ [a]))), some (.lst true (zb5 (hs ++ [h]))), x5, x6, x7, x8, x9] = some (.lst true (zb7 a), [x0, x1, x2, some (.lst true (frD (rs ++ [b]))), some (.lst true (zb5 (hs ++ [h]))), x5, x6, x7, x8, x9]) := by
      unfold zc0
      show ((zy7 [] (.lst true (frD (rs ++ [b] ++ [a])))).bind _) = _
      rw [e]; rfl
    have e2 : zs2 [.lst true (zb7 a)] = some (.tup (zb7 a)) := if_pos (zk7 a)
    unfold zd1 yb5
    rw [e1, Option.bind_some, e2]; rfl
  refine (zb3 s1).trans (yg6 (d := .non) ?_)
  have ei : zb5 (hs ++ [h]) = zb5 hs ++ [.int h] := by rw [yz5]; rfl
  have il : yc5 (.lst true (zb5 (hs ++ [h]))) = some (zb5 hs ++ [.int h]) := by
    rw [ei]
    exact if_pos (ei ▸ yc3 (hs ++ [h]))
  have g : zm0 (fC (.str "hang")) (zz6 4 (zm0 (za0 8) zt2)) [x0, x1, x2, some (.lst true (frD (rs ++ [b]))), some (.lst true (zb5 (hs ++ [h]))), x5, x6, x7, some (.tup (zb7 a)), x9] = some ([.str "hang", .int h, .tup (zb7 a)], [x0, x1, x2, some (.lst true (frD (rs ++ [b]))), some (.lst true (zb5 hs)), x5, x6, x7, some (.tup (zb7 a)), x9]) := by
    have p1 : zm0 (za0 8) zt2 [x0, x1, x2, some (.lst true (frD (rs ++ [b]))), some (.lst true (zb5 hs)), x5, x6, x7, some (.tup (zb7 a)), x9] = some ([.tup (zb7 a)], [x0, x1, x2, some (.lst true (frD (rs ++ [b]))), some (.lst true (zb5 hs)), x5, x6, x7, some (.tup (zb7 a)), x9]) := by
      unfold zm0
      rw [zk8 (f := za0 8) (d := .tup (zb7 a)) rfl (zk7 a)]; rfl
    have p2 : zz6 4 (zm0 (za0 8) zt2) [x0, x1, x2, some (.lst true (frD (rs ++ [b]))), some (.lst true (zb5 (hs ++ [h]))), x5, x6, x7, some (.tup (zb7 a)), x9] = some ([.int h, .tup (zb7 a)], [x0, x1, x2, some (.lst true (frD (rs ++ [b]))), some (.lst true (zb5 hs)), x5, x6, x7, some (.tup (zb7 a)), x9]) := by
      unfold zz6
      show ((yc5 (.lst true (zb5 (hs ++ [h])))).bind _) = _
      rw [il, Option.bind_some, xf1, Option.bind_some, List.dropLast_concat]
      show ((zm0 (za0 8) zt2 [x0, x1, x2, some (.lst true (frD (rs ++ [b]))), some (.lst true (zb5 hs)), x5, x6, x7, some (.tup (zb7 a)), x9]).bind _) = _
      rw [p1]; rfl
    unfold zm0 at p2 |-
    show ((zz6 4 (zm0 (za0 8) zt2) [x0, x1, x2, some (.lst true (frD (rs ++ [b]))), some (.lst true (zb5 (hs ++ [h]))), x5, x6, x7, some (.tup (zb7 a)), x9]).bind _) = _
    unfold zm0
    rw [p2]; rfl
  have hzz : (zb7 b).length < sizeLine := by rw [yo4]; exact sz1 (by omega)
  have m : zc9 (zc5 [.tup [.str "hang", .int h, .tup (zb7 a)]]) (.lst true (frD (rs ++ [b]))) [.ix (frD rs).length] = some (.non, .lst true (frD (rs ++ [b ++ [.hang h a]]))) := by
    rw [fa rs b, fa rs, yo3, zc9, xi5 _ _ rfl, Option.bind_some, zc9]
    rw [show zc5 [.tup [.str "hang", .int h, .tup (zb7 a)]] (.lst true (zb7 b)) = some (.non, .lst true (zb7 b ++ [.tup [.str "hang", .int h, .tup (zb7 a)]])) from if_pos hzz, Option.bind_some, yo6]
    rfl
  unfold ym2
  show (((zs4 3 zb0 (zo2 (fC (.int 1))) [x0, x1, x2, some (.lst true (frD (rs ++ [b]))), some (.lst true (zb5 (hs ++ [h]))), x5, x6, x7, some (.tup (zb7 a)), x9])).bind _) = _
  rw [xa0 (xs := frD rs) (d := .lst true (zb7 b)) (by rw [<- fa]; rfl), Option.bind_some, g, Option.bind_some, if_pos (show ([D.str "hang", .int h, .tup (zb7 a)] : List D).length <= 1000 from Nat.le_of_ble_eq_true rfl), m]
  rfl
end
noncomputable abbrev cWh : PSt -> Option Bool := fB (f2 dGt (za5 zh0 (za1 (za0 4) za2)) (fC (.int 0)))
theorem xf3 {p : PSt} {hs : List Int} (hp : p[4]? = some (some (.lst true (zb5 hs)))) : cWh p = some (decide (0 < (hs.length : Int))) := by
  refine yc2 (ze2 (zi1 (zc4 (yl6 hp) rfl) rfl) rfl ?_)
  show some (D.bl (decide ((0 : Int) < ((zb5 hs).length : Nat)))) = _
  rw [yj6]
theorem xi6 {deep k : Nat} {x0 x1 x2 x5 x6 x7 x9 : Option D} : ∀ (z : Nat) (hs : List Int) (rs : List (List Pc)) (a : List Pc) (fl : List (Leaf × Int)) (x8 : Option D) (n : Nat), hs.length = z -> z < n -> k <= 100 -> BI deep k rs a hs fl ->
    ∃ (r : List Pc) (y8 : Option D), zs3 (za6 cWh) yu0 n [x0, x1, x2, some (.lst true (frD (rs ++ [a]))), some (.lst true (zb5 hs)), x5, x6, x7, x8, x9] = some (.nx, [x0, x1, x2, some (.lst true (frD [r])), some (.lst true []), x5, x6, x7, y8, x9]) /\ BI deep k [] r [] fl
  | _, _, _, _, _, _, 0, _, hn, _, _ => absurd hn (Nat.not_lt_zero _)
  | 0, hs, rs, a, fl, x8, n + 1, hz, hn, hk, B => by
    have e0 : hs = [] := List.eq_nil_of_length_eq_zero hz
    subst e0
    have e : rs = [] := List.eq_nil_of_length_eq_zero B.len.symm
    subst e
    refine ⟨a, x8, ?_, B⟩
    rw [zs3, zn4 (xf3 (hs := []) rfl)]; rfl
  | z + 1, hs, rs, a, fl, x8, n + 1, hz, hn, hk, B => by
    obtain ⟨hs, h, rfl⟩ := ym0 (l := hs) (by omega)
    obtain ⟨rs, b, rfl⟩ := ym0 (l := rs) (by have := B.len; omega)
    have hb : b.length <= 900 := by
      have := B.tk
      rw [zo9, zo9] at this
      have := zv3 b
      omega
    obtain ⟨r, y8, q, B'⟩ := xi6 z hs rs (b ++ [.hang h a]) fl (some (.tup (zb7 a))) n (by simpa using hz) (by omega) hk B.shut
    refine ⟨r, y8, ?_, B'⟩
    rw [zs3, zn4 (xf3 (hs := hs ++ [h]) rfl), Option.bind_some]
    rw [decide_eq_true (by omega)]
    show ((yu0 [x0, x1, x2, some (.lst true (frD (rs ++ [b] ++ [a]))), some (.lst true (zb5 (hs ++ [h]))), x5, x6, x7, x8, x9]).bind _) = _
    rw [xf2 hb]; exact q
section
variable {GM : List D -> Option D} {S : D}
noncomputable abbrev xz5 : PSt -> Option (Fl × PSt) := zb8 (zb4 (zc0 4 zb0 (za1 (f2 dIx (zi4 (za1 (f2 zm2 (f2 zr1 (za0 7) (fC (.int 4))) (fC (.int 13))) (za1 (fC (.int 1)) (za1 (fC (.int 2)) (za1 (fC (.int 4)) za2))))) (f2 zm2 (f2 zr1 (za0 7) (fC (.int 52))) (fC (.int 4)))) za2) zc5)) (zb4 (zc0 3 zb0 (za1 (zi4 za2) za2) zc5))
noncomputable abbrev wl9 (GP : List D -> Option D) : PSt -> Option (Fl × PSt) := zb8 (zd1 9 (za4 (za5 GP (za1 (f2 zr1 (za0 7) (fC (.int 4))) za2)))) (zb8 (zb4 (zc0 3 (zs4 3 zb0 (zo2 (fC (.int 1)))) (za1 (za9 (za0 9)) za2) zc5)) (zb4 (zc0 5 zb0 (za1 (zi5 (za1 (za9 (za0 9)) (za1 (za5 yp1 (za1 (za0 4) za2)) za2))) za2) zc5)))
noncomputable abbrev yk4 (GM GP : List D -> Option D) : PSt -> Option (Fl × PSt) := zb8 (zd1 7 (za4 (za5 GM (za1 (za0 0) (za1 (f2 zh2 (fC (.int 2)) (za0 6)) (za1 (fC (.int 2)) za2))))))
  (fIf (za6 (zl9 (fB (f2 dEq (f2 zm2 (za0 7) (fC (.int 4))) (fC (.int 0)))) (fB (f2 dLt (za5 zh0 (za1 (za0 4) za2)) (za0 2))))) xz5
  (fIf (za6 (zl9 (fB (f2 dEq (f2 zm2 (za0 7) (fC (.int 4))) (fC (.int 1)))) cWh)) yu0 (wl9 GP)))
theorem yp0 {p : PSt} {i : Nat} {xs : List D} {y : D} {fe : PSt -> Option D} (hp : p[i]? = some (some (.lst true xs))) (h : fe p = some y) (hl : xs.length <= 1000) : zb4 (zc0 i zb0 (za1 fe za2) zc5) p = some (.nx, p.set i (some (.lst true (xs ++ [y])))) := by
  refine yg6 (d := .non) ?_
  unfold zc0
  rw [hp, Option.join_some, Option.bind_some]
  show (some []).bind _ = _
  rw [Option.bind_some, zc4 h (show za2 p = some [] from rfl), Option.bind_some]
  show ((zc5 [y] (.lst true xs)).bind _) = _
  rw [show zc5 [y] (.lst true xs) = some (.non, .lst true (xs ++ [y])) from if_pos (sz1 hl)]; rfl
theorem wd4 (n : Int) (hn : 0 <= n) : ∃ h : Int, atI [D.int (n / 4 % 13), .int 1, .int 2, .int 4] (n / 52 % 4) = some (.int h) /\ 0 <= h /\ h <= 12 := by
  have h0 := Int.emod_nonneg (n / 52) (show (4 : Int) ≠ 0 by decide)
  have h1 := Int.emod_lt_of_pos (n / 52) (show (0 : Int) < 4 by decide)
  have g0 := Int.emod_nonneg (n / 4) (show (13 : Int) ≠ 0 by decide)
  have g1 := Int.emod_lt_of_pos (n / 4) (show (0 : Int) < 13 by decide)
  obtain ⟨d, hd, e⟩ := yw4 [D.int (n / 4 % 13), .int 1, .int 2, .int 4] (n / 52 % 4) h0 (by simpa using h1)
  simp only [List.mem_cons, List.not_mem_nil, or_false] at hd
  rcases hd with rfl | rfl | rfl | rfl
  . exact ⟨_, e, g0, by omega⟩
  . exact ⟨_, e, by decide, by decide⟩
  . exact ⟨_, e, by decide, by decide⟩
  . exact ⟨_, e, by decide, by decide⟩
theorem xs7 {deep k : Nat} {x1 x7 x8 x9 : Option D} {rs : List (List Pc)} {a : List Pc} {hs : List Int} {fl : List (Leaf × Int)} (hM : ∀ j s : Int, 0 <= j -> j < 1000 -> 0 <= s -> s < 1000 -> ∃ a, GM [S, .int j, .int s] = some (.int a) /\ 0 <= a) (B : BI deep k rs a hs fl) (hk : k <= 60) (hd : deep <= 16) :
    ∃ rs' a' hs' fl' y7 y8 y9, yk4 GM zy3 [some S, x1, some (.int deep), some (.lst true (frD (rs ++ [a]))), some (.lst true (zb5 hs)), some (.lst true (flD fl)), some (.int k), x7, x8, x9] = some (.nx, [some S, x1, some (.int deep), some (.lst true (frD (rs' ++ [a']))), some (.lst true (zb5 hs')), some (.lst true (flD fl')), some (.int k), y7, y8, y9]) /\ BI deep (k + 1) rs' a' hs' fl' := by
  obtain ⟨n, qn, hn⟩ := hM (2 + k) 2 (by omega) (by omega) (by decide) (by decide)
  have bl := B.len
  have bd := B.lenD
  have bt := B.tk
  have bk := B.fk
  rw [zo9] at bt
  have s1 : zd1 7 (za4 (za5 GM (za1 (za0 0) (za1 (f2 zh2 (fC (.int 2)) (za0 6)) (za1 (fC (.int 2)) za2))))) [some S, x1, some (.int deep), some (.lst true (frD (rs ++ [a]))), some (.lst true (zb5 hs)), some (.lst true (flD fl)), some (.int k), x7, x8, x9] = some (.nx, [some S, x1, some (.int deep), some (.lst true (frD (rs ++ [a]))), some (.lst true (zb5 hs)), some (.lst true (flD fl)), some (.int k), some (.int n), x8, x9]) := zo3 (zi1 (zc4 rfl (zc4 (ze2 rfl rfl rfl) (zc4 rfl rfl))) qn)
  have tm : ∀ c : Int, fB (f2 dEq (f2 zm2 (za0 7) (fC (.int 4))) (fC (.int c))) [some S, x1, some (.int deep), some (.lst true (frD (rs ++ [a]))), some (.lst true (zb5 hs)), some (.lst true (flD fl)), some (.int k), some (.int n), x8, x9] = some (decide (n % 4 = c)) := fun c => yc2 (ze2 (ze2 rfl rfl ((ze8 _ _).trans (if_pos (by decide)))) rfl rfl)
  have tl : fB (f2 dLt (za5 zh0 (za1 (za0 4) za2)) (za0 2)) [some S, x1, some (.int deep), some (.lst true (frD (rs ++ [a]))), some (.lst true (zb5 hs)), some (.lst true (flD fl)), some (.int k), some (.int n), x8, x9] = some (decide ((hs.length : Int) < (deep : Int))) := by
    refine yc2 (ze2 (zi1 (zc4 rfl rfl) rfl) rfl ?_)
    show some (D.bl (decide ((((zb5 hs).length : Nat) : Int) < (deep : Int)))) = _
    rw [yj6]
  have tw := xf3 (p := [some S, x1, some (.int deep), some (.lst true (frD (rs ++ [a]))), some (.lst true (zb5 hs)), some (.lst true (flD fl)), some (.int k), some (.int n), x8, x9]) (hs := hs) rfl
  have fa : ∀ (l : List (List Pc)) (r : List Pc), frD (l ++ [r]) = frD l ++ [.lst true (zb7 r)] := fun l r => xi4 l [r]
  have leafCase : (∀ F, fIf (za6 (zl9 (fB (f2 dEq (f2 zm2 (za0 7) (fC (.int 4))) (fC (.int 0)))) (fB (f2 dLt (za5 zh0 (za1 (za0 4) za2)) (za0 2))))) xz5 (fIf (za6 (zl9 (fB (f2 dEq (f2 zm2 (za0 7) (fC (.int 4))) (fC (.int 1)))) cWh)) yu0 F) [some S, x1, some (.int deep), some (.lst true (frD (rs ++ [a]))), some (.lst true (zb5 hs)), some (.lst true (flD fl)), some (.int k), some (.int n), x8, x9] = F [some S, x1, some (.int deep), some (.lst true (frD (rs ++ [a]))), some (.lst true (zb5 hs)), some (.lst true (flD fl)), some (.int k), some (.int n), x8, x9]) -> ∃ rs' a' hs' fl' y7 y8 y9, yk4 GM zy3 [some S, x1, some (.int deep), some (.lst true (frD (rs ++ [a]))), some (.lst true (zb5 hs)), some (.lst true (flD fl)), some (.int k), x7, x8, x9] = some (.nx, [some S, x1, some (.int deep), some (.lst true (frD (rs' ++ [a']))), some (.lst true (zb5 hs')), some (.lst true (flD fl')), some (.int k), y7, y8, y9]) /\ BI deep (k + 1) rs' a' hs' fl' := fun hF => by
    obtain ⟨l, ql, hl⟩ := xx1 (m := n / 4) (Int.ediv_nonneg hn (by decide))
    refine ⟨rs, a ++ [.leaf l], hs, fl ++ [(l, hs.sum)], some (.int n), x8, some (ze5 l), (zb3 s1).trans ((hF _).trans ?_), B.leaf hl hd⟩
    have t1 : zd1 9 (za4 (za5 zy3 (za1 (f2 zr1 (za0 7) (fC (.int 4))) za2))) [some S, x1, some (.int deep), some (.lst true (frD (rs ++ [a]))), some (.lst true (zb5 hs)), some (.lst true (flD fl)), some (.int k), some (.int n), x8, x9] = some (.nx, [some S, x1, some (.int deep), some (.lst true (frD (rs ++ [a]))), some (.lst true (zb5 hs)), some (.lst true (flD fl)), some (.int k), some (.int n), x8, some (ze5 l)]) := zo3 (zi1 (zc4 (ze2 rfl rfl ((ze9 _ _).trans (if_pos (by decide)))) rfl) ql)
    have li : (ze5 l).imm = true := by cases l <;> rfl
    have az : (zb7 a).length < sizeLine := by rw [yo4]; have := zv3 a; exact sz1 (by omega)
    have t2 : zb4 (zc0 3 (zs4 3 zb0 (zo2 (fC (.int 1)))) (za1 (za9 (za0 9)) za2) zc5) [some S, x1, some (.int deep), some (.lst true (frD (rs ++ [a]))), some (.lst true (zb5 hs)), some (.lst true (flD fl)), some (.int k), some (.int n), x8, some (ze5 l)] = some (.nx, [some S, x1, some (.int deep), some (.lst true (frD (rs ++ [a ++ [.leaf l]]))), some (.lst true (zb5 hs)), some (.lst true (flD fl)), some (.int k), some (.int n), x8, some (ze5 l)]) := by
      refine yg6 (d := .non) ?_
      unfold zc0
      show (((zs4 3 zb0 (zo2 (fC (.int 1))) [some S, x1, some (.int deep), some (.lst true (frD (rs ++ [a]))), some (.lst true (zb5 hs)), some (.lst true (flD fl)), some (.int k), some (.int n), x8, some (ze5 l)])).bind _) = _
      rw [xa0 (xs := frD rs) (d := .lst true (zb7 a)) (by rw [<- fa]; rfl), Option.bind_some, zc4 (zk8 (f := za0 9) (d := ze5 l) rfl li) (show za2 _ = some [] from rfl), Option.bind_some]
      have m : zc9 (zc5 [ze5 l]) (.lst true (frD (rs ++ [a]))) [.ix (frD rs).length] = some (.non, .lst true (frD (rs ++ [a ++ [.leaf l]]))) := by
        rw [fa rs a, fa rs, yo3, zc9, xi5 _ _ rfl, Option.bind_some, zc9]
        rw [show zc5 [ze5 l] (.lst true (zb7 a)) = some (.non, .lst true (zb7 a ++ [ze5 l])) from if_pos az, Option.bind_some, yo6]
        rfl
      rw [m]; rfl
    have t3 := yp0 (p := [some S, x1, some (.int deep), some (.lst true (frD (rs ++ [a ++ [.leaf l]]))), some (.lst true (zb5 hs)), some (.lst true (flD fl)), some (.int k), some (.int n), x8, some (ze5 l)]) (i := 5) (xs := flD fl) (y := .tup [ze5 l, .int hs.sum]) (fe := zi5 (za1 (za9 (za0 9)) (za1 (za5 yp1 (za1 (za0 4) za2)) za2))) rfl (by
      have sm : za5 yp1 (za1 (za0 4) za2) [some S, x1, some (.int deep), some (.lst true (frD (rs ++ [a ++ [.leaf l]]))), some (.lst true (zb5 hs)), some (.lst true (flD fl)), some (.int k), some (.int n), x8, some (ze5 l)] = some (.int hs.sum) := by
        refine zi1 (zc4 rfl rfl) ?_
        show (D.ints (zb5 hs)).map _ = _
        rw [xs2]; rfl
      unfold zi5
      rw [zc4 (zk8 (f := za0 9) (d := ze5 l) rfl li) (zc4 sm (show za2 _ = some [] from rfl)), Option.bind_some, if_pos]
      show (((ze5 l).imm && _) && _) = true
      rw [li]; rfl) (by rw [wd0]; omega)
    have ef : flD fl ++ [.tup [ze5 l, .int hs.sum]] = flD (fl ++ [(l, hs.sum)]) := by rw [wc9]; rfl
    rw [ef] at t3
    exact (zb3 t1).trans ((zb3 t2).trans t3)
  by_cases c0 : n % 4 = 0
  . have t0 := tm 0
    rw [decide_eq_true c0] at t0
    have t1 := tm 1
    rw [decide_eq_false (by omega)] at t1
    by_cases c1 : hs.length < deep
    . rw [decide_eq_true (by omega)] at tl
      obtain ⟨h, qh, h0, h1⟩ := wd4 n hn
      refine ⟨rs ++ [a], [], hs ++ [h], fl, some (.int n), x8, x9, (zb3 s1).trans ((zj1 (zx8 t0 tl)).trans ?_), B.push h0 h1 c1⟩
      have p1 := yp0 (p := [some S, x1, some (.int deep), some (.lst true (frD (rs ++ [a]))), some (.lst true (zb5 hs)), some (.lst true (flD fl)), some (.int k), some (.int n), x8, x9]) (i := 4) (xs := zb5 hs) (y := .int h) (fe := f2 dIx (zi4 (za1 (f2 zm2 (f2 zr1 (za0 7) (fC (.int 4))) (fC (.int 13))) (za1 (fC (.int 1)) (za1 (fC (.int 2)) (za1 (fC (.int 4)) za2))))) (f2 zm2 (f2 zr1 (za0 7) (fC (.int 52))) (fC (.int 4)))) rfl
        (ze2 (ye5 (zc4 (ze2 (ze2 rfl rfl ((ze9 _ _).trans (if_pos (by decide)))) rfl ((ze8 _ _).trans (if_pos (by decide)))) (zc4 rfl (zc4 rfl (zc4 rfl rfl)))) (Nat.le_of_ble_eq_true rfl)) (ze2 (ze2 rfl rfl ((ze9 _ _).trans (if_pos (by decide)))) rfl ((ze8 _ _).trans (if_pos (by decide)))) qh) (by rw [yj6]; omega)
      have ei : zb5 hs ++ [.int h] = zb5 (hs ++ [h]) := by rw [yz5]; rfl
      rw [ei] at p1
      have p2 := yp0 (p := [some S, x1, some (.int deep), some (.lst true (frD (rs ++ [a]))), some (.lst true (zb5 (hs ++ [h]))), some (.lst true (flD fl)), some (.int k), some (.int n), x8, x9]) (i := 3) (xs := frD (rs ++ [a])) (y := .lst true []) (fe := zi4 za2) rfl rfl (by rw [wd3, List.length_append, List.length_singleton]; omega)
      have er : frD (rs ++ [a]) ++ [.lst true []] = frD (rs ++ [a] ++ [[]]) := (fa (rs ++ [a]) []).symm
      rw [er] at p2
      exact (zb3 p1).trans p2
    . rw [decide_eq_false (by omega)] at tl
      exact leafCase fun F => (zx4 (zn4 (zx8 t0 tl))).trans (zx4 (zn4 (zv2 t1)))
  . have t0 := tm 0
    rw [decide_eq_false c0] at t0
    have t1 := tm 1
    by_cases c1 : n % 4 = 1
    . rw [decide_eq_true c1] at t1
      by_cases c2 : 0 < hs.length
      . rw [decide_eq_true (by omega)] at tw
        obtain ⟨hs', h, rfl⟩ : ∃ hs' h, hs = hs' ++ [h] := ym0 c2
        obtain ⟨rs', b, rfl⟩ : ∃ rs' b, rs = rs' ++ [b] := ym0 (by simp at bl; omega)
        have hz : b.length <= 900 := by
          rw [zo9] at bt
          have := zv3 b
          omega
        have B1 := B.shut
        refine ⟨rs', b ++ [.hang h a], hs', fl, some (.int n), some (.tup (zb7 a)), x9, (zb3 s1).trans ((zx4 (zn4 (zv2 t0))).trans ((zj1 (zx8 t1 tw)).trans (xf2 hz))), ⟨B1.len, B1.ok, B1.dep, B1.hg, Nat.le_trans B1.tk (by omega), B1.eq, Nat.le_succ_of_le B1.fk, B1.fok⟩⟩
      . rw [decide_eq_false (by omega)] at tw
        exact leafCase fun F => (zx4 (zn4 (zv2 t0))).trans (zx4 (zn4 (zx8 t1 tw)))
    . rw [decide_eq_false c1] at t1
      exact leafCase fun F => (zx4 (zn4 (zv2 t0))).trans (zx4 (zn4 (zv2 t1)))
end
end My
namespace My
open PySem PySem.Spec PyProof.Rows L2 L3
section
variable {GM : List D -> Option D} {S : D}
theorem xs8 {deep : Nat} {x1 : Option D} (hM : ∀ j s : Int, 0 <= j -> j < 1000 -> 0 <= s -> s < 1000 -> ∃ a, GM [S, .int j, .int s] = some (.int a) /\ 0 <= a) (hd : deep <= 16) : ∀ (n k : Nat) (rs : List (List Pc)) (a : List Pc) (hs : List Int) (fl : List (Leaf × Int)) (x6 x7 x8 x9 : Option D), k + n <= 60 -> BI deep k rs a hs fl ->
    ∃ rs' a' hs' fl' y6 y7 y8 y9, zt0 6 (yk4 GM zy3) (zv4 (k : Int) n) [some S, x1, some (.int deep), some (.lst true (frD (rs ++ [a]))), some (.lst true (zb5 hs)), some (.lst true (flD fl)), x6, x7, x8, x9] = some (.nx, [some S, x1, some (.int deep), some (.lst true (frD (rs' ++ [a']))), some (.lst true (zb5 hs')), some (.lst true (flD fl')), y6, y7, y8, y9]) /\ BI deep (k + n) rs' a' hs' fl'
  | 0, k, rs, a, hs, fl, x6, x7, x8, x9, _, B => ⟨rs, a, hs, fl, x6, x7, x8, x9, rfl, B⟩
  | n + 1, k, rs, a, hs, fl, x6, x7, x8, x9, hk, B => by
    obtain ⟨rs1, a1, hs1, fl1, y7, y8, y9, q, B1⟩ := xs7 (x1 := x1) (x7 := x7) (x8 := x8) (x9 := x9) hM B (by omega) hd
    obtain ⟨rs2, a2, hs2, fl2, z6, z7, z8, z9, q2, B2⟩ := xs8 (x1 := x1) hM hd n (k + 1) rs1 a1 hs1 fl1 (some (.int k)) y7 y8 y9 (by omega) B1
    refine ⟨rs2, a2, hs2, fl2, z6, z7, z8, z9, ?_, by rw [show k + (n + 1) = k + 1 + n by omega]; exact B2⟩
    rw [xm1, zt0]
    show ((yk4 GM zy3 [some S, x1, some (.int deep), some (.lst true (frD (rs ++ [a]))), some (.lst true (zb5 hs)), some (.lst true (flD fl)), some (.int k), x7, x8, x9]).bind _) = _
    rw [q]; exact q2
theorem BI.start (deep : Nat) : BI deep 0 [] [] [] [] := by
  refine ⟨rfl, fun r hr => ?_, fun i r hi => ?_, fun h hh => absurd hh (by simp), Nat.le_refl _, rfl, Nat.le_refl _, fun f hf => absurd hf (by simp)⟩
  . rw [List.mem_singleton.mp hr]; exact ⟨trivial, trivial⟩
  . have hi0 := (List.getElem?_eq_some_iff.mp hi).1
    have : i = 0 := by simp at hi0; omega
    subst this
    simp at hi
    subst hi
    rw [zf6]; omega
noncomputable abbrev yu1 (GM : List D -> Option D) : List D -> Option D := gP 3 7 (yt0 GM zy3)
theorem xx2 {many deep : Nat} (hM : ∀ j s : Int, 0 <= j -> j < 1000 -> 0 <= s -> s < 1000 -> ∃ a, GM [S, .int j, .int s] = some (.int a) /\ 0 <= a) (hm : many <= 60) (hd : deep <= 16) : ∃ r fl, yu1 GM [S, .int many, .int deep] = some (.tup [.tup (zb7 r), .lst false (flD fl)]) /\ BI deep many [] r [] fl := by
  obtain ⟨rs1, a1, hs1, fl1, y6, y7, y8, y9, q, B1⟩ := xs8 (x1 := some (.int many)) hM hd many 0 [] [] [] [] none none none none (by omega) (BI.start deep)
  rw [Nat.zero_add] at B1
  obtain ⟨r, z8, q2, B2⟩ := xi6 (x0 := some S) (x1 := some (.int many)) (x2 := some (.int deep)) (x5 := some (.lst true (flD fl1))) (x6 := y6) (x7 := y7) (x9 := y9) _ hs1 rs1 a1 fl1 y8 400 rfl (by have := B1.len; have := B1.lenD; omega) (by omega) B1
  refine ⟨r, fl1, ?_, B2⟩
  have s4 : yk0 6 (ys5 (za1 (za0 1) za2)) (yk4 GM zy3) [some S, some (.int many), some (.int deep), some (.lst true (frD ([] ++ [[]]))), some (.lst true (zb5 [])), some (.lst true (flD [])), none, none, none, none] = some (.nx, [some S, some (.int many), some (.int deep), some (.lst true (frD (rs1 ++ [a1]))), some (.lst true (zb5 hs1)), some (.lst true (flD fl1)), y6, y7, y8, y9]) := by
    have e1 : za1 (za0 1) za2 [some S, some (.int many), some (.int deep), some (.lst true (frD ([] ++ [[]]))), some (.lst true (zb5 [])), some (.lst true (flD [])), none, none, none, none] = some [.int (many : Int)] := rfl
    unfold yk0 ys5
    rw [e1, Option.bind_some, wm1 (by omega)]
    exact q
  have s6 : ze4 (ys8 (zm0 (za5 zs2 (za1 (f2 dIx (za0 3) (fC (.int 0))) za2)) (yf1 5 zt2))) [some S, some (.int many), some (.int deep), some (.lst true (frD [r])), some (.lst true []), some (.lst true (flD fl1)), y6, y7, z8, y9] = some (.ret (.tup [.tup (zb7 r), .lst false (flD fl1)]), [some S, some (.int many), some (.int deep), some (.lst true (frD [r])), some (.lst true []), none, y6, y7, z8, y9]) := by
    have e1 : za5 zs2 (za1 (f2 dIx (za0 3) (fC (.int 0))) za2) [some S, some (.int many), some (.int deep), some (.lst true (frD [r])), some (.lst true []), some (.lst true (flD fl1)), y6, y7, z8, y9] = some (.tup (zb7 r)) := zi1 (ds := [.lst true (zb7 r)]) (zc4 (ze2 rfl rfl (zm1 _ _)) rfl) (if_pos (zk7 r))
    have e2 : yf1 5 zt2 [some S, some (.int many), some (.int deep), some (.lst true (frD [r])), some (.lst true []), some (.lst true (flD fl1)), y6, y7, z8, y9] = some ([.lst false (flD fl1)], [some S, some (.int many), some (.int deep), some (.lst true (frD [r])), some (.lst true []), none, y6, y7, z8, y9]) := by
      unfold yf1
      show ((yc5 (.lst true (flD fl1))).bind _) = _
      rw [show yc5 (.lst true (flD fl1)) = some (flD fl1) from if_pos (yx3 fl1)]; rfl
    unfold ze4 ys8 zm0
    rw [zk8 e1 (zk7 r), Option.bind_some, e2]; rfl
  exact zt7 rfl ((zb3 (show zd1 3 (za4 (zi4 (za1 (zi4 za2) za2))) [some S, some (.int many), some (.int deep), none, none, none, none, none, none, none] = some (.nx, [some S, some (.int many), some (.int deep), some (.lst true (frD ([] ++ [[]]))), none, none, none, none, none, none]) from rfl)).trans ((zb3 (show zd1 4 (za4 (zi4 za2)) [some S, some (.int many), some (.int deep), some (.lst true (frD ([] ++ [[]]))), none, none, none, none, none, none] = some (.nx, [some S, some (.int many), some (.int deep), some (.lst true (frD ([] ++ [[]]))), some (.lst true (zb5 [])), none, none, none, none, none]) from rfl)).trans
    ((zb3 (show zd1 5 (za4 (zi4 za2)) [some S, some (.int many), some (.int deep), some (.lst true (frD ([] ++ [[]]))), some (.lst true (zb5 [])), none, none, none, none, none] = some (.nx, [some S, some (.int many), some (.int deep), some (.lst true (frD ([] ++ [[]]))), some (.lst true (zb5 [])), some (.lst true (flD [])), none, none, none, none]) from rfl)).trans ((zb3 s4).trans ((zb3 q2).trans s6)))))
theorem wd5 (a : Int) : ∃ n : Nat, atI [D.int 3, .int 12] (a % 2) = some (.int n) /\ n <= 12 := by
  have h0 := Int.emod_nonneg a (show (2 : Int) ≠ 0 by decide)
  have h1 := Int.emod_lt_of_pos a (show (0 : Int) < 2 by decide)
  obtain ⟨d, hd, e⟩ := yw4 [D.int 3, .int 12] (a % 2) h0 (by simpa using h1)
  simp only [List.mem_cons, List.not_mem_nil, or_false] at hd
  rcases hd with rfl | rfl
  . exact ⟨3, e, by decide⟩
  . exact ⟨12, e, by decide⟩
noncomputable abbrev wj5 (k : Nat) (GM : List D -> Option D) : List D -> Option D := gP 1 3 (xg0 GM (yu1 GM) (yt9 k) xg1)
theorem xn0 {k : Nat} (hk : 12 < k) (hM : ∀ j s : Int, 0 <= j -> j < 1000 -> 0 <= s -> s < 1000 -> ∃ a, GM [S, .int j, .int s] = some (.int a) /\ 0 <= a) : wj5 k GM [S] = some (.bl true) := by
  obtain ⟨a, qa, ha⟩ := hM 0 1 (by decide) (by decide) (by decide) (by decide)
  obtain ⟨mr, hmr0, mr1⟩ := yw5 a 4 37 (by decide)
  have hmr : 4 + a % 37 = (mr : Int) := hmr0
  obtain ⟨deep, hdeep, d12⟩ := wd5 (a / 37)
  obtain ⟨r, fl, qb, B⟩ := xx2 (GM := GM) (S := S) (many := mr) (deep := deep) hM (by omega) (by omega)
  have hok := B.ok r (by simp)
  have hdp : zf6 r + 0 <= deep := B.dep 0 r rfl
  have htk := B.tk
  have efl : fl = zl4 0 r := B.eq
  have hl : (zd2 r).length <= 800 := by
    have : tkS [r] = 0 + (zd2 r).length := zo9 [] r
    have h2 : tkS [r] + 2 * 0 <= 2 * mr := htk
    omega
  have g : zr4 true 0 r [] ⟨#[]⟩ = some ([], zu7 fl ⟨#[]⟩) := by rw [efl]; exact yx1 hok.2
  have b := xs4 (n := k) (C := []) (by omega) (by omega) hok.1 hl g
  have u := wi1 (fs := fl) B.fok (by have := B.fk; omega)
  generalize zu7 fl ⟨#[]⟩ = t at b u
  have s1 : zd1 1 (za4 (za5 GM (za1 (za0 0) (za1 (fC (.int 0)) (za1 (fC (.int 1)) za2))))) [some S, none, none, none] = some (.nx, [some S, some (.int a), none, none]) := zo3 (zi1 (zc4 rfl (zc4 rfl (zc4 rfl rfl))) qa)
  have s2 : zd1 2 (za4 (za5 (yu1 GM) (za1 (za0 0) (za1 (f2 zh2 (fC (.int 4)) (f2 zm2 (za0 1) (fC (.int 37)))) (za1 (f2 dIx (zi4 (za1 (fC (.int 3)) (za1 (fC (.int 12)) za2))) (f2 zm2 (f2 zr1 (za0 1) (fC (.int 37))) (fC (.int 2)))) za2))))) [some S, some (.int a), none, none] = some (.nx, [some S, some (.int a), some (.tup [.tup (zb7 r), .lst false (flD fl)]), none]) := by
    refine zo3 (zi1 (ds := [S, .int (mr : Int), .int (deep : Int)]) (zc4 rfl (zc4 ?_ (zc4 ?_ rfl))) qb)
    . refine ze2 rfl (ze2 rfl rfl ((ze8 _ _).trans (if_pos (by decide)))) ?_
      rw [<- hmr]; rfl
    . exact ze2 (ye5 (zc4 rfl (zc4 rfl rfl)) (Nat.le_of_ble_eq_true rfl)) (ze2 (ze2 rfl rfl ((ze9 _ _).trans (if_pos (by decide)))) rfl ((ze8 _ _).trans (if_pos (by decide)))) hdeep
  have s3 : zd1 3 (za4 (za5 (yt9 k) (za1 (f2 dIx (za0 2) (fC (.int 0))) (za1 (zi5 za2) za2)))) [some S, some (.int a), some (.tup [.tup (zb7 r), .lst false (flD fl)]), none] = some (.nx, [some S, some (.int a), some (.tup [.tup (zb7 r), .lst false (flD fl)]), some (.str t)]) := zo3 (zi1 (ds := [.tup (zb7 r), .tup []]) (zc4 (ze2 rfl rfl (zm1 _ _)) (zc4 rfl rfl)) b)
  have s4 : ze4 (za4 (zy6 (za5 yj9 (za1 (za0 3) (za1 (fC (.ty "str")) za2))) (f2 dEq (za0 3) (za5 xg1 (za1 (f2 dIx (za0 2) (fC (.int 1))) za2))))) [some S, some (.int a), some (.tup [.tup (zb7 r), .lst false (flD fl)]), some (.str t)] = some (.ret (.bl true), [some S, some (.int a), some (.tup [.tup (zb7 r), .lst false (flD fl)]), some (.str t)]) := by
    refine zj4 ?_
    have i1 : za5 yj9 (za1 (za0 3) (za1 (fC (.ty "str")) za2)) [some S, some (.int a), some (.tup [.tup (zb7 r), .lst false (flD fl)]), some (.str t)] = some (.bl true) := zi1 (ds := [.str t, .ty "str"]) (zc4 rfl (zc4 rfl rfl)) (wk6 t)
    have i2 : f2 dEq (za0 3) (za5 xg1 (za1 (f2 dIx (za0 2) (fC (.int 1))) za2)) [some S, some (.int a), some (.tup [.tup (zb7 r), .lst false (flD fl)]), some (.str t)] = some (.bl true) := by
      refine ze2 rfl (zi1 (zc4 (ze2 rfl rfl (zj0 _ _ _)) rfl) u) ?_
      show some (D.bl (decide (t = t))) = _
      rw [decide_eq_true rfl]
    unfold zy6
    rw [i1, Option.bind_some]
    exact i2
  show gP 1 3 (xg0 GM (yu1 GM) (yt9 k) xg1) _ = _
  exact zt7 rfl ((zb3 s1).trans ((zb3 s2).trans ((zb3 s3).trans s4)))
end
end My
namespace My
open PySem PySem.Spec PyProof.Rows L2 L3
variable {P : Program} {w : World} {K : PySem.W.Frag} {mg : Str -> Option Value} {base : Heap} {κ : Str -> Addr}
noncomputable abbrev xg2 : List D -> Option (List Int) := D.ints
theorem ys1 : ∀ ns : List Int, xg2 (ns.map .int) = some ns
  | [] => rfl
  | n :: ns => by show (D.ints (ns.map .int)).map (n :: ·) = _; rw [show D.ints (ns.map .int) = some ns from ys1 ns]; rfl
noncomputable def xy1 : List D -> Option D
  | [.con xs, .int k, .int s] => match xg2 xs with
    | some ns => if ns.length <= 63 /\ (0 <= k /\ k < 1000000) /\ (0 <= s /\ s < 1000000) then some (.int (yh4 ns k s)) else none
    | none => none
  | _ => none
theorem xx3 {ns : List Int} (h : ns.length <= 63) (k s : Int) (hk : 0 <= k) (hk1 : k < 1000) (hs : 0 <= s) (hs1 : s < 1000) : ∃ m, xy1 [.con (ns.map .int), .int k, .int s] = some (.int m) /\ 0 <= m := by
  refine ⟨yh4 ns k s, ?_, (xg5 ns k s).1⟩
  show (match xg2 (ns.map .int) with | some ns => if ns.length <= 63 /\ (0 <= k /\ k < 1000000) /\ (0 <= s /\ s < 1000000) then some (D.int (yh4 ns k s)) else none | none => none) = _
  rw [ys1]
  exact if_pos ⟨h, ⟨hk, by omega⟩, hs, by omega⟩
theorem wm3 {k : Nat} {f : Addr} {fd : FuncData} {ps : List Str} (F : FnOk P w K mg base CX0 k f fd ps (xi7 K)) : FnOk P w K mg base CX0 k f fd ps (SpP 3 K κ xy1) := by
  refine F.imp fun vs H Q E ⟨_, ds, fp, d, r, e, q⟩ => ?_
  unfold xy1 at e
  split at e
  . rename_i xs k s
    split at e
    . rename_i ns hns
      obtain ⟨hc, e⟩ := zd8 e
      cases e
      obtain ⟨v1, us, f, g, rfl, r1, r2, rfl⟩ := r.split
      obtain ⟨v2, us2, f2, g2, rfl, r3, r4, rfl⟩ := r2.split
      obtain ⟨v3, rfl, r5⟩ := r4.one_inv
      rw [r3.is_int, r5.is_int]
      obtain ⟨a, vs, rfl, hS, hs⟩ := r1.con_inv
      rw [yu8 hs hns] at hS
      exact ⟨a, ns, k, s, rfl, hS.l, hc.1, hc.2.1, hc.2.2, q _ H [] (SameK.refl H) (fun _ ha => absurd ha (by simp)) List.nodup_nil (.int _)⟩
    . cases e
  . cases e
noncomputable def xb1 (K : PySem.W.Frag) : Sp := fun vs H Q _ => ∃ (a : Addr) (ns : List Int), vs = [.ref a] /\ SqF K H a (ns.map V.int) /\ ns.length <= 63 /\ ∀ H', Q (.bl true) H'
theorem xa1 {H : Hp} : ∀ ns : List Int, Reps K κ H (ns.map V.int) (ns.map .int) []
  | [] => .nil
  | n :: ns => .cons (f := []) (g := []) (.int n) (xa1 ns)
theorem wm4 {k : Nat} {f : Addr} {fd : FuncData} {ps : List Str} {g : List D -> Option D} (F : FnOk P w K mg base CX0 k f fd ps (SpP 1 K κ g)) (h : ∀ ns : List Int, ns.length <= 63 -> g [.con (ns.map .int)] = some (.bl true)) : FnOk P w K mg base CX0 k f fd ps (xb1 K) :=
  F.imp fun vs H Q E ⟨a, ns, e, hS, hl, q⟩ => e ▸ ⟨rfl, [.con (ns.map .int)], [], .bl true, .cons (f := []) (g := []) (.con hS (xa1 ns)) .nil, h ns hl, fun v H' fv _ _ _ r => by cases r; exact q H'⟩
noncomputable def Cur : Nat -> (List Value -> Prop) -> Prop
  | 0, P => P []
  | n + 1, P => ∀ a, Cur n fun us => P (a :: us)
theorem zh6 {n : Nat} : ∀ {P : List Value -> Prop}, Cur n P -> ∀ us : List Value, us.length = n -> P us := by
  induction n with
  | zero => intro P h us hl; cases List.eq_nil_of_length_eq_zero hl; exact h
  | succ n ih =>
    intro P h us hl
    cases us with
    | nil => cases hl
    | cons a us => exact ih (h a) us (Nat.succ.inj hl)
theorem zq3 {h : Heap} (X : K.In h) (G : h.Ns mainGlobals mg) {x : Str} {st : Stmt} {f : Addr} {od an : Option Addr} {sl : Array (Option Value)} {oc kV dc pm cd ct : Value} {ps : List Str}
    (a : PySem.W.nsIn K mainGlobals x = some (some (.ref f))) (l : K.lookup f = some ⟨oc, od, .func (PySem.W.fnOf x x (zf1 st) (ze1 st) (za8 st) .none kV dc pm an cd ct), sl⟩) (c : PySem.W.codeIn K cd x = true) (k : PySem.W.keepIn K (.ref f) = true)
    (hb : ∀ (kV doc pm : Value) (an : Option Addr) (cdv ct : Value) (us : List Value), us.length = ps.length -> bindArgs (PySem.W.fnOf x x (zf1 st) (ze1 st) (za8 st) .none kV doc pm an cdv ct) ⟨us, []⟩ = pure (ps.zip us)) :
    Dn K mg x st ps f (PySem.W.fnOf x x (zf1 st) (ze1 st) (za8 st) .none kV dc pm an cd ct) :=
  ⟨zm6 l c k, (zm6 l c k).binds hb, PySem.W.mg_of X G a⟩
theorem wm5 {l : PySem.W.OpenLaw} {q : Program} {loose : List Str} {XP : (Str -> Option Value) -> Heap -> Prop} {YP : World -> Heap -> Prop} {d : DefRec} {K : Params -> PySem.W.Frag} {lev : Nat} (hn : l.most = some 63) (hdf : d.params.defaults = []) (hr : Room lev callerA)
    (hY : ∀ (w : World) (h : Heap), YP w h -> (K w.params).In h)
    (F : ∀ (w : World) (mg : Str -> Option Value) (fa : Addr) (h : Heap), (K w.params).In h -> h.Ns mainGlobals mg -> mg d.name = some (.ref fa) ->
      ∃ fd : FuncData, (∀ (s : Shared) (u : Value), BindsTo s fd ⟨[u], []⟩ [("_law_script", u)]) /\ ∀ base : Heap, (K w.params).In base -> base.Ns mainGlobals mg -> FnOk l.prog w (K w.params) mg base CX0 lev fa fd ["_law_script"] (xb1 (K w.params))) :
    PySem.W.WalkO q loose XP YP l.row.toRowW d [] (fun f vs => PySem.call f vs) :=
  L2.wb1 (n := 63) (k := lev) (x := "_law_script") (CX := fun _ => CX0) (sp := fun w => xb1 (K w.params)) hn (by decide) hdf hr hY F (fun _ H a ns hl hO hS => ⟨a, ns, rfl, by
    rcases hS with (h | h) | h
    . rcases hO a with z | ⟨o, xs, z⟩ <;> rw [h] at z <;> cases z
    . exact .inl h
    . exact .inr h, hl, fun _ => rfl⟩) fun _ _ _ _ _ z => z
end My
namespace My
open PySem PySem.Spec PyProof.Rows L2 L3
theorem wi2 {l : PySem.W.OpenLaw} {w : World} {K : PySem.W.Frag} {h : Heap} {mg : Str -> Option Value} {fa f0 f1 f2 f3 f4 f5 f6 f7 f8 f9 f10 f11 f12 f13 f14 : Addr} (X : K.In h) (G : h.Ns mainGlobals mg) (hfa : mg "law" = some (.ref fa))
    {od0 an0 od1 an1 od2 an2 od3 an3 od4 an4 od5 an5 od6 an6 od7 an7 od8 an8 od9 an9 od10 an10 od11 an11 od12 an12 od13 an13 od14 an14 : Option Addr} {sl0 sl1 sl2 sl3 sl4 sl5 sl6 sl7 sl8 sl9 sl10 sl11 sl12 sl13 sl14 : Array (Option Value)} {oc0 kV0 dc0 pm0 cd0 ct0 oc1 kV1 dc1 pm1 cd1 ct1 oc2 kV2 dc2 pm2 cd2 ct2 oc3 kV3 dc3 pm3 cd3 ct3 oc4 kV4 dc4 pm4 cd4 ct4 oc5 kV5 dc5 pm5 cd5 ct5 oc6 kV6 dc6 pm6 cd6 ct6 oc7 kV7 dc7 pm7 cd7 ct7 oc8 kV8 dc8 pm8 cd8 ct8 oc9 kV9 dc9 pm9 cd9 ct9 oc10 kV10 dc10 pm10 cd10 ct10 oc11 kV11 dc11 pm11 cd11 ct11 oc12 kV12 dc12 pm12 cd12 ct12 oc13 kV13 dc13 pm13 cd13 ct13 oc14 kV14 dc14 pm14 cd14 ct14 : Value}
    (a0 : PySem.W.nsIn K mainGlobals "first_place" = some (some (.ref f0))) (l0 : K.lookup f0 = some ⟨oc0, od0, .func (PySem.W.fnOf "first_place" "first_place" (zf1 zj2) (ze1 zj2) (za8 zj2) .none kV0 dc0 pm0 an0 cd0 ct0), sl0⟩) (c0 : PySem.W.codeIn K cd0 "first_place" = true) (k0 : PySem.W.keepIn K (.ref f0) = true)
    (a1 : PySem.W.nsIn K mainGlobals "holds_rows" = some (some (.ref f1))) (l1 : K.lookup f1 = some ⟨oc1, od1, .func (PySem.W.fnOf "holds_rows" "holds_rows" (zf1 zj7) (ze1 zj7) (za8 zj7) .none kV1 dc1 pm1 an1 cd1 ct1), sl1⟩) (c1 : PySem.W.codeIn K cd1 "holds_rows" = true) (k1 : PySem.W.keepIn K (.ref f1) = true)
    (a2 : PySem.W.nsIn K mainGlobals "takes_choice" = some (some (.ref f2))) (l2 : K.lookup f2 = some ⟨oc2, od2, .func (PySem.W.fnOf "takes_choice" "takes_choice" (zf1 zi6) (ze1 zi6) (za8 zi6) .none kV2 dc2 pm2 an2 cd2 ct2), sl2⟩) (c2 : PySem.W.codeIn K cd2 "takes_choice" = true) (k2 : PySem.W.keepIn K (.ref f2) = true)
    (a3 : PySem.W.nsIn K mainGlobals "ways" = some (some (.ref f3))) (l3 : K.lookup f3 = some ⟨oc3, od3, .func (PySem.W.fnOf "ways" "ways" (zf1 zq0) (ze1 zq0) (za8 zq0) .none kV3 dc3 pm3 an3 cd3 ct3), sl3⟩) (c3 : PySem.W.codeIn K cd3 "ways" = true) (k3 : PySem.W.keepIn K (.ref f3) = true)
    (a4 : PySem.W.nsIn K mainGlobals "new_line" = some (some (.ref f4))) (l4 : K.lookup f4 = some ⟨oc4, od4, .func (PySem.W.fnOf "new_line" "new_line" (zf1 zm4) (ze1 zm4) (za8 zm4) .none kV4 dc4 pm4 an4 cd4 ct4), sl4⟩) (c4 : PySem.W.codeIn K cd4 "new_line" = true) (k4 : PySem.W.keepIn K (.ref f4) = true)
    (a5 : PySem.W.nsIn K mainGlobals "writing" = some (some (.ref f5))) (l5 : K.lookup f5 = some ⟨oc5, od5, .func (PySem.W.fnOf "writing" "writing" (zf1 zn8) (ze1 zn8) (za8 zn8) .none kV5 dc5 pm5 an5 cd5 ct5), sl5⟩) (c5 : PySem.W.codeIn K cd5 "writing" = true) (k5 : PySem.W.keepIn K (.ref f5) = true)
    (a6 : PySem.W.nsIn K mainGlobals "ends_line" = some (some (.ref f6))) (l6 : K.lookup f6 = some ⟨oc6, od6, .func (PySem.W.fnOf "ends_line" "ends_line" (zf1 zk9) (ze1 zk9) (za8 zk9) .none kV6 dc6 pm6 an6 cd6 ct6), sl6⟩) (c6 : PySem.W.codeIn K cd6 "ends_line" = true) (k6 : PySem.W.keepIn K (.ref f6) = true)
    (a7 : PySem.W.nsIn K mainGlobals "column_behind" = some (some (.ref f7))) (l7 : K.lookup f7 = some ⟨oc7, od7, .func (PySem.W.fnOf "column_behind" "column_behind" (zf1 zi2) (ze1 zi2) (za8 zi2) .none kV7 dc7 pm7 an7 cd7 ct7), sl7⟩) (c7 : PySem.W.codeIn K cd7 "column_behind" = true) (k7 : PySem.W.keepIn K (.ref f7) = true)
    (a8 : PySem.W.nsIn K mainGlobals "set_by" = some (some (.ref f8))) (l8 : K.lookup f8 = some ⟨oc8, od8, .func (PySem.W.fnOf "set_by" "set_by" (zf1 zp1) (ze1 zp1) (za8 zp1) .none kV8 dc8 pm8 an8 cd8 ct8), sl8⟩) (c8 : PySem.W.codeIn K cd8 "set_by" = true) (k8 : PySem.W.keepIn K (.ref f8) = true)
    (a9 : PySem.W.nsIn K mainGlobals "_law_cell_at" = some (some (.ref f9))) (l9 : K.lookup f9 = some ⟨oc9, od9, .func (PySem.W.fnOf "_law_cell_at" "_law_cell_at" (zf1 zn7) (ze1 zn7) (za8 zn7) .none kV9 dc9 pm9 an9 cd9 ct9), sl9⟩) (c9 : PySem.W.codeIn K cd9 "_law_cell_at" = true) (k9 : PySem.W.keepIn K (.ref f9) = true)
    (a10 : PySem.W.nsIn K mainGlobals "_law_mixed" = some (some (.ref f10))) (l10 : K.lookup f10 = some ⟨oc10, od10, .func (PySem.W.fnOf "_law_mixed" "_law_mixed" (zf1 zo7) (ze1 zo7) (za8 zo7) .none kV10 dc10 pm10 an10 cd10 ct10), sl10⟩) (c10 : PySem.W.codeIn K cd10 "_law_mixed" = true) (k10 : PySem.W.keepIn K (.ref f10) = true)
    (a11 : PySem.W.nsIn K mainGlobals "_law_piece" = some (some (.ref f11))) (l11 : K.lookup f11 = some ⟨oc11, od11, .func (PySem.W.fnOf "_law_piece" "_law_piece" (zf1 zq4) (ze1 zq4) (za8 zq4) .none kV11 dc11 pm11 an11 cd11 ct11), sl11⟩) (c11 : PySem.W.codeIn K cd11 "_law_piece" = true) (k11 : PySem.W.keepIn K (.ref f11) = true)
    (a12 : PySem.W.nsIn K mainGlobals "_law_built" = some (some (.ref f12))) (l12 : K.lookup f12 = some ⟨oc12, od12, .func (PySem.W.fnOf "_law_built" "_law_built" (zf1 zq5) (ze1 zq5) (za8 zq5) .none kV12 dc12 pm12 an12 cd12 ct12), sl12⟩) (c12 : PySem.W.codeIn K cd12 "_law_built" = true) (k12 : PySem.W.keepIn K (.ref f12) = true)
    (a13 : PySem.W.nsIn K mainGlobals "_law_due" = some (some (.ref f13))) (l13 : K.lookup f13 = some ⟨oc13, od13, .func (PySem.W.fnOf "_law_due" "_law_due" (zf1 zu6) (ze1 zu6) (za8 zu6) .none kV13 dc13 pm13 an13 cd13 ct13), sl13⟩) (c13 : PySem.W.codeIn K cd13 "_law_due" = true) (k13 : PySem.W.keepIn K (.ref f13) = true)
    (a14 : PySem.W.nsIn K mainGlobals "law" = some (some (.ref f14))) (l14 : K.lookup f14 = some ⟨oc14, od14, .func (PySem.W.fnOf "law" "law" (zf1 zv9) (ze1 zv9) (za8 zv9) .none kV14 dc14 pm14 an14 cd14 ct14), sl14⟩) (c14 : PySem.W.codeIn K cd14 "law" = true) (k14 : PySem.W.keepIn K (.ref f14) = true)
    (z0 : PySem.W.nsIn K mainGlobals "len" = some none)
    (z1 : PySem.W.nsIn K mainGlobals "max" = some none)
    (z2 : PySem.W.nsIn K mainGlobals "range" = some none)
    (z3 : PySem.W.nsIn K mainGlobals "tuple" = some none)
    (z4 : PySem.W.nsIn K mainGlobals "sum" = some none)
    (z5 : PySem.W.nsIn K mainGlobals "isinstance" = some none)
    (z6 : PySem.W.nsIn K mainGlobals "str" = some none)
    {aHOLDERS : Addr} {odHOLDERS : Option Addr} {nHOLDERS : Nat} {slHOLDERS : Array (Option Value)} {uHOLDERS_0 uHOLDERS_1 uHOLDERS_2 : Tok}
    (g0 : PySem.W.nsIn K mainGlobals "HOLDERS" = some (some (.ref aHOLDERS)))
    (dtHOLDERS : K.lookup aHOLDERS = some ⟨.type "tuple", odHOLDERS, .seq #[.str "group" uHOLDERS_0, .str "hang" uHOLDERS_1, .str "either" uHOLDERS_2] nHOLDERS, slHOLDERS⟩)
    {C_Place : Addr} {f_Place_init : Addr} {od_Place_init an_Place_init : Option Addr} {sl_Place_init : Array (Option Value)} {oc_Place_init kV_Place_init dc_Place_init pm_Place_init cd_Place_init ct_Place_init : Value}
    (gC_Place : PySem.W.nsIn K mainGlobals "Place" = some (some (.ref C_Place)))
    (pg_Place : PySem.W.plainGet K C_Place Str.empty = true)
    (hd_Place : PySem.W.hasDictIn K C_Place = true)
    (po_Place : PySem.W.plainOver K C_Place = true)
    (sa_Place : PySem.W.findIn K (.ref C_Place) "__setattr__" = some (some (.builtin "object.__setattr__")))
    (mk_Place : PySem.W.makesIn K C_Place = true)
    (kc_Place : PySem.W.keepIn K (.ref C_Place) = true)
    (fi_Place_init : PySem.W.findIn K (.ref C_Place) "__init__" = some (some (.ref f_Place_init)))
    (is_Place_init : PySem.W.isFn K (.ref f_Place_init) = true)
    (lo_Place_init : K.lookup f_Place_init = some ⟨oc_Place_init, od_Place_init, .func (PySem.W.fnOf "__init__" "Place.__init__" (zf1 zj9) (ze1 zj9) (za8 zj9) .none kV_Place_init dc_Place_init pm_Place_init an_Place_init cd_Place_init ct_Place_init), sl_Place_init⟩)
    (co_Place_init : PySem.W.codeIn K cd_Place_init "Place.__init__" = true)
    (ke_Place_init : PySem.W.keepIn K (.ref f_Place_init) = true)
    (nf_broken : PySem.W.findIn K (.ref C_Place) "broken" = some none)
    (nf_margin : PySem.W.findIn K (.ref C_Place) "margin" = some none)
    {C_Setter : Addr} {f_Setter_init f_Setter_choice_below f_Setter_set_plain f_Setter_set_holder f_Setter_set_row f_Setter_whole_text : Addr} {od_Setter_init an_Setter_init od_Setter_choice_below an_Setter_choice_below od_Setter_set_plain an_Setter_set_plain od_Setter_set_holder an_Setter_set_holder od_Setter_set_row an_Setter_set_row od_Setter_whole_text an_Setter_whole_text : Option Addr} {sl_Setter_init sl_Setter_choice_below sl_Setter_set_plain sl_Setter_set_holder sl_Setter_set_row sl_Setter_whole_text : Array (Option Value)} {oc_Setter_init kV_Setter_init dc_Setter_init pm_Setter_init cd_Setter_init ct_Setter_init oc_Setter_choice_below kV_Setter_choice_below dc_Setter_choice_below pm_Setter_choice_below cd_Setter_choice_below ct_Setter_choice_below oc_Setter_set_plain kV_Setter_set_plain dc_Setter_set_plain pm_Setter_set_plain cd_Setter_set_plain ct_Setter_set_plain oc_Setter_set_holder kV_Setter_set_holder dc_Setter_set_holder pm_Setter_set_holder cd_Setter_set_holder ct_Setter_set_holder oc_Setter_set_row kV_Setter_set_row dc_Setter_set_row pm_Setter_set_row cd_Setter_set_row ct_Setter_set_row oc_Setter_whole_text kV_Setter_whole_text dc_Setter_whole_text pm_Setter_whole_text cd_Setter_whole_text ct_Setter_whole_text : Value}
    (gC_Setter : PySem.W.nsIn K mainGlobals "Setter" = some (some (.ref C_Setter)))
    (pg_Setter : PySem.W.plainGet K C_Setter Str.empty = true)
    (hd_Setter : PySem.W.hasDictIn K C_Setter = true)
    (po_Setter : PySem.W.plainOver K C_Setter = true)
    (sa_Setter : PySem.W.findIn K (.ref C_Setter) "__setattr__" = some (some (.builtin "object.__setattr__")))
    (mk_Setter : PySem.W.makesIn K C_Setter = true)
    (kc_Setter : PySem.W.keepIn K (.ref C_Setter) = true)
    (fi_Setter_init : PySem.W.findIn K (.ref C_Setter) "__init__" = some (some (.ref f_Setter_init)))
    (is_Setter_init : PySem.W.isFn K (.ref f_Setter_init) = true)
    (lo_Setter_init : K.lookup f_Setter_init = some ⟨oc_Setter_init, od_Setter_init, .func (PySem.W.fnOf "__init__" "Setter.__init__" (zf1 zl0) (ze1 zl0) (za8 zl0) .none kV_Setter_init dc_Setter_init pm_Setter_init an_Setter_init cd_Setter_init ct_Setter_init), sl_Setter_init⟩)
    (co_Setter_init : PySem.W.codeIn K cd_Setter_init "Setter.__init__" = true)
    (ke_Setter_init : PySem.W.keepIn K (.ref f_Setter_init) = true)
    (fi_Setter_choice_below : PySem.W.findIn K (.ref C_Setter) "choice_below" = some (some (.ref f_Setter_choice_below)))
    (is_Setter_choice_below : PySem.W.isFn K (.ref f_Setter_choice_below) = true)
    (lo_Setter_choice_below : K.lookup f_Setter_choice_below = some ⟨oc_Setter_choice_below, od_Setter_choice_below, .func (PySem.W.fnOf "choice_below" "Setter.choice_below" (zf1 zg0) (ze1 zg0) (za8 zg0) .none kV_Setter_choice_below dc_Setter_choice_below pm_Setter_choice_below an_Setter_choice_below cd_Setter_choice_below ct_Setter_choice_below), sl_Setter_choice_below⟩)
    (co_Setter_choice_below : PySem.W.codeIn K cd_Setter_choice_below "Setter.choice_below" = true)
    (ke_Setter_choice_below : PySem.W.keepIn K (.ref f_Setter_choice_below) = true)
    (fi_Setter_set_plain : PySem.W.findIn K (.ref C_Setter) "set_plain" = some (some (.ref f_Setter_set_plain)))
    (is_Setter_set_plain : PySem.W.isFn K (.ref f_Setter_set_plain) = true)
    (lo_Setter_set_plain : K.lookup f_Setter_set_plain = some ⟨oc_Setter_set_plain, od_Setter_set_plain, .func (PySem.W.fnOf "set_plain" "Setter.set_plain" (zf1 zh8) (ze1 zh8) (za8 zh8) .none kV_Setter_set_plain dc_Setter_set_plain pm_Setter_set_plain an_Setter_set_plain cd_Setter_set_plain ct_Setter_set_plain), sl_Setter_set_plain⟩)
    (co_Setter_set_plain : PySem.W.codeIn K cd_Setter_set_plain "Setter.set_plain" = true)
    (ke_Setter_set_plain : PySem.W.keepIn K (.ref f_Setter_set_plain) = true)
    (fi_Setter_set_holder : PySem.W.findIn K (.ref C_Setter) "set_holder" = some (some (.ref f_Setter_set_holder)))
    (is_Setter_set_holder : PySem.W.isFn K (.ref f_Setter_set_holder) = true)
    (lo_Setter_set_holder : K.lookup f_Setter_set_holder = some ⟨oc_Setter_set_holder, od_Setter_set_holder, .func (PySem.W.fnOf "set_holder" "Setter.set_holder" (zf1 zh3) (ze1 zh3) (za8 zh3) .none kV_Setter_set_holder dc_Setter_set_holder pm_Setter_set_holder an_Setter_set_holder cd_Setter_set_holder ct_Setter_set_holder), sl_Setter_set_holder⟩)
    (co_Setter_set_holder : PySem.W.codeIn K cd_Setter_set_holder "Setter.set_holder" = true)
    (ke_Setter_set_holder : PySem.W.keepIn K (.ref f_Setter_set_holder) = true)
    (fi_Setter_set_row : PySem.W.findIn K (.ref C_Setter) "set_row" = some (some (.ref f_Setter_set_row)))
    (is_Setter_set_row : PySem.W.isFn K (.ref f_Setter_set_row) = true)
    (lo_Setter_set_row : K.lookup f_Setter_set_row = some ⟨oc_Setter_set_row, od_Setter_set_row, .func (PySem.W.fnOf "set_row" "Setter.set_row" (zf1 zh7) (ze1 zh7) (za8 zh7) .none kV_Setter_set_row dc_Setter_set_row pm_Setter_set_row an_Setter_set_row cd_Setter_set_row ct_Setter_set_row), sl_Setter_set_row⟩)
    (co_Setter_set_row : PySem.W.codeIn K cd_Setter_set_row "Setter.set_row" = true)
    (ke_Setter_set_row : PySem.W.keepIn K (.ref f_Setter_set_row) = true)
    (fi_Setter_whole_text : PySem.W.findIn K (.ref C_Setter) "whole_text" = some (some (.ref f_Setter_whole_text)))
    (is_Setter_whole_text : PySem.W.isFn K (.ref f_Setter_whole_text) = true)
    (lo_Setter_whole_text : K.lookup f_Setter_whole_text = some ⟨oc_Setter_whole_text, od_Setter_whole_text, .func (PySem.W.fnOf "whole_text" "Setter.whole_text" (zf1 zh4) (ze1 zh4) (za8 zh4) .none kV_Setter_whole_text dc_Setter_whole_text pm_Setter_whole_text an_Setter_whole_text cd_Setter_whole_text ct_Setter_whole_text), sl_Setter_whole_text⟩)
    (co_Setter_whole_text : PySem.W.codeIn K cd_Setter_whole_text "Setter.whole_text" = true)
    (ke_Setter_whole_text : PySem.W.keepIn K (.ref f_Setter_whole_text) = true)
    (nf_choices : PySem.W.findIn K (.ref C_Setter) "choices" = some none)
    (nf_used : PySem.W.findIn K (.ref C_Setter) "used" = some none)
    (nf_column : PySem.W.findIn K (.ref C_Setter) "column" = some none)
    (nf_parts : PySem.W.findIn K (.ref C_Setter) "parts" = some none)
    : ∃ fd : FuncData, (∀ (s : Shared) (v : Value), BindsTo s fd ⟨[v], []⟩ [("_law_script", v)]) /\ ∀ base : Heap, K.In base -> base.Ns mainGlobals mg -> FnOk l.prog w K mg base CX0 33 fa fd ["_law_script"] (xb1 K) := by
  have e := hfa.symm.trans (PySem.W.mg_of X G a14)
  cases e
  have D_p_first_place := zq3 (st := zj2) (ps := []) X G a0 l0 c0 k0 fun _ _ _ _ _ _ us hl => match us, hl with | [], _ => rfl
  have D_p_holds_rows := zq3 (st := zj7) (ps := ["piece"]) X G a1 l1 c1 k1 fun _ _ _ _ _ _ => zh6 (fun _ => rfl)
  have D_p_takes_choice := zq3 (st := zi6) (ps := ["piece", "place"]) X G a2 l2 c2 k2 fun _ _ _ _ _ _ => zh6 (fun _ _ => rfl)
  have D_p_ways := zq3 (st := zq0) (ps := ["piece", "place"]) X G a3 l3 c3 k3 fun _ _ _ _ _ _ => zh6 (fun _ _ => rfl)
  have D_p_new_line := zq3 (st := zm4) (ps := ["blanks"]) X G a4 l4 c4 k4 fun _ _ _ _ _ _ => zh6 (fun _ => rfl)
  have D_p_writing := zq3 (st := zn8) (ps := ["piece", "place", "column"]) X G a5 l5 c5 k5 fun _ _ _ _ _ _ => zh6 (fun _ _ _ => rfl)
  have D_p_ends_line := zq3 (st := zk9) (ps := ["wrote"]) X G a6 l6 c6 k6 fun _ _ _ _ _ _ => zh6 (fun _ => rfl)
  have D_p_column_behind := zq3 (st := zi2) (ps := ["column", "wrote"]) X G a7 l7 c7 k7 fun _ _ _ _ _ _ => zh6 (fun _ _ => rfl)
  have D_p_set_by := zq3 (st := zp1) (ps := ["row", "choices"]) X G a8 l8 c8 k8 fun _ _ _ _ _ _ => zh6 (fun _ _ => rfl)
  have D_l_cell_at := zq3 (st := zn7) (ps := ["_law_script", "_law_k"]) X G a9 l9 c9 k9 fun _ _ _ _ _ _ => zh6 (fun _ _ => rfl)
  have D_l_mixed := zq3 (st := zo7) (ps := ["_law_script", "_law_k", "_law_salt"]) X G a10 l10 c10 k10 fun _ _ _ _ _ _ => zh6 (fun _ _ _ => rfl)
  have D_l_piece := zq3 (st := zq4) (ps := ["_law_number"]) X G a11 l11 c11 k11 fun _ _ _ _ _ _ => zh6 (fun _ => rfl)
  have D_l_built := zq3 (st := zq5) (ps := ["_law_script", "_law_many", "_law_deep"]) X G a12 l12 c12 k12 fun _ _ _ _ _ _ => zh6 (fun _ _ _ => rfl)
  have D_l_due := zq3 (st := zu6) (ps := ["_law_flat"]) X G a13 l13 c13 k13 fun _ _ _ _ _ _ => zh6 (fun _ => rfl)
  have D_law := zq3 (st := zv9) (ps := ["_law_script"]) X G a14 l14 c14 k14 fun _ _ _ _ _ _ => zh6 (fun _ => rfl)
  obtain ⟨κ, hκ⟩ : ∃ κ, κ = (kap [("Place", C_Place), ("Setter", C_Setter)]) := ⟨_, rfl⟩
  have eK_Place : κ "Place" = C_Place := by rw [hκ]; simp [kap, zf0]
  have cl_Place : Cls K (κ "Place") := by rw [eK_Place]; exact ⟨pg_Place, hd_Place, po_Place, sa_Place⟩
  have K_Place : Kn K mg κ "Place" "Place.__init__" zj9 ["self", "broken", "margin"] f_Place_init _ := ⟨(zm6 lo_Place_init co_Place_init ke_Place_init), ((zm6 lo_Place_init co_Place_init ke_Place_init).binds fun _ _ _ _ _ _ => zh6 (fun _ _ _ => rfl)), (by rw [eK_Place]; exact ⟨mk_Place, fi_Place_init, is_Place_init, kc_Place⟩), (by rw [eK_Place]; exact PySem.W.mg_of X G gC_Place)⟩
  have na_broken : ze6 K (κ "Place") "broken" := by rw [eK_Place]; exact nf_broken
  have na_margin : ze6 K (κ "Place") "margin" := by rw [eK_Place]; exact nf_margin
  have eK_Setter : κ "Setter" = C_Setter := by rw [hκ]; simp [kap, zf0]
  have cl_Setter : Cls K (κ "Setter") := by rw [eK_Setter]; exact ⟨pg_Setter, hd_Setter, po_Setter, sa_Setter⟩
  have K_Setter : Kn K mg κ "Setter" "Setter.__init__" zl0 ["self", "choices"] f_Setter_init _ := ⟨(zm6 lo_Setter_init co_Setter_init ke_Setter_init), ((zm6 lo_Setter_init co_Setter_init ke_Setter_init).binds fun _ _ _ _ _ _ => zh6 (fun _ _ => rfl)), (by rw [eK_Setter]; exact ⟨mk_Setter, fi_Setter_init, is_Setter_init, kc_Setter⟩), (by rw [eK_Setter]; exact PySem.W.mg_of X G gC_Setter)⟩
  have M_Setter_choice_below : Mn K κ "Setter" "choice_below" "Setter.choice_below" zg0 ["self", "count"] f_Setter_choice_below _ := ⟨(zm6 lo_Setter_choice_below co_Setter_choice_below ke_Setter_choice_below), ((zm6 lo_Setter_choice_below co_Setter_choice_below ke_Setter_choice_below).binds fun _ _ _ _ _ _ => zh6 (fun _ _ => rfl)), cl_Setter, (by rw [eK_Setter]; exact ⟨fi_Setter_choice_below, is_Setter_choice_below, ke_Setter_choice_below⟩)⟩
  have M_Setter_set_plain : Mn K κ "Setter" "set_plain" "Setter.set_plain" zh8 ["self", "piece", "place"] f_Setter_set_plain _ := ⟨(zm6 lo_Setter_set_plain co_Setter_set_plain ke_Setter_set_plain), ((zm6 lo_Setter_set_plain co_Setter_set_plain ke_Setter_set_plain).binds fun _ _ _ _ _ _ => zh6 (fun _ _ _ => rfl)), cl_Setter, (by rw [eK_Setter]; exact ⟨fi_Setter_set_plain, is_Setter_set_plain, ke_Setter_set_plain⟩)⟩
  have M_Setter_set_holder : Mn K κ "Setter" "set_holder" "Setter.set_holder" zh3 ["self", "piece", "place"] f_Setter_set_holder _ := ⟨(zm6 lo_Setter_set_holder co_Setter_set_holder ke_Setter_set_holder), ((zm6 lo_Setter_set_holder co_Setter_set_holder ke_Setter_set_holder).binds fun _ _ _ _ _ _ => zh6 (fun _ _ _ => rfl)), cl_Setter, (by rw [eK_Setter]; exact ⟨fi_Setter_set_holder, is_Setter_set_holder, ke_Setter_set_holder⟩)⟩
  have M_Setter_set_row : Mn K κ "Setter" "set_row" "Setter.set_row" zh7 ["self", "row", "place"] f_Setter_set_row _ := ⟨(zm6 lo_Setter_set_row co_Setter_set_row ke_Setter_set_row), ((zm6 lo_Setter_set_row co_Setter_set_row ke_Setter_set_row).binds fun _ _ _ _ _ _ => zh6 (fun _ _ _ => rfl)), cl_Setter, (by rw [eK_Setter]; exact ⟨fi_Setter_set_row, is_Setter_set_row, ke_Setter_set_row⟩)⟩
  have M_Setter_whole_text : Mn K κ "Setter" "whole_text" "Setter.whole_text" zh4 ["self"] f_Setter_whole_text _ := ⟨(zm6 lo_Setter_whole_text co_Setter_whole_text ke_Setter_whole_text), ((zm6 lo_Setter_whole_text co_Setter_whole_text ke_Setter_whole_text).binds fun _ _ _ _ _ _ => zh6 (fun _ => rfl)), cl_Setter, (by rw [eK_Setter]; exact ⟨fi_Setter_whole_text, is_Setter_whole_text, ke_Setter_whole_text⟩)⟩
  have na_choices : ze6 K (κ "Setter") "choices" := by rw [eK_Setter]; exact nf_choices
  have na_used : ze6 K (κ "Setter") "used" := by rw [eK_Setter]; exact nf_used
  have na_column : ze6 K (κ "Setter") "column" := by rw [eK_Setter]; exact nf_column
  have na_parts : ze6 K (κ "Setter") "parts" := by rw [eK_Setter]; exact nf_parts
  have z_len := PySem.W.mg_none_of X G z0
  have z_max := PySem.W.mg_none_of X G z1
  have z_range := PySem.W.mg_none_of X G z2
  have z_tuple := PySem.W.mg_none_of X G z3
  have z_sum := PySem.W.mg_none_of X G z4
  have z_isinstance := PySem.W.mg_none_of X G z5
  have z_str := PySem.W.mg_none_of X G z6
  have g_HOLDERS := PySem.W.mg_of X G g0
  have k_HOLDERS : ∀ H, Rep K κ H (.ref aHOLDERS) (.tup [(.str "group"), (.str "hang"), (.str "either")]) [] := fun H => xv6 (ys := [("group", uHOLDERS_0), ("hang", uHOLDERS_1), ("either", uHOLDERS_2)]) dtHOLDERS (Nat.le_of_ble_eq_true rfl) H
  refine ⟨PySem.W.fnOf "law" "law" (zf1 zv9) (ze1 zv9) (za8 zv9) .none kV14 dc14 pm14 an14 cd14 ct14, fun s v => .of_eq rfl, fun base _ _ => ?_⟩
  have H1 := xd7 (P := l.prog) (w := w) (base := base) (n := 0) D_l_cell_at z_len
  have H2 := xl7 (n := 1) D_l_mixed D_l_cell_at H1 z_len z_max
  have G_l_mixed := wm3 (κ := κ) H2
  have G_l_piece := xl8 (P := l.prog) (w := w) (base := base) (κ := κ) (n := 0) D_l_piece
  have G_l_built := xl9 (P := l.prog) (w := w) (base := base) (κ := κ) (n := 2) D_l_built D_l_mixed (G_l_mixed.mono (by decide)) D_l_piece (G_l_piece.mono (by decide)) z_range z_len z_tuple z_sum
  have G_Setter_init := yw2 (P := l.prog) (w := w) (base := base) (κ := κ) (n := 0) K_Setter cl_Setter na_choices na_used na_column na_parts
  have G_p_holds_rows := yr6 (P := l.prog) (w := w) (base := base) (κ := κ) (n := 0) D_p_holds_rows g_HOLDERS k_HOLDERS
  have G_p_new_line := xa3 (P := l.prog) (w := w) (base := base) (κ := κ) (n := 0) D_p_new_line
  have G_p_writing := xd8 (P := l.prog) (w := w) (base := base) (κ := κ) (n := 1) D_p_writing D_p_new_line (G_p_new_line.mono (by decide)) cl_Place na_broken na_margin
  have G_p_ends_line := yw0 (P := l.prog) (w := w) (base := base) (κ := κ) (n := 0) D_p_ends_line
  have G_p_column_behind := yj5 (P := l.prog) (w := w) (base := base) (κ := κ) (n := 1) D_p_column_behind D_p_ends_line (G_p_ends_line.mono (by decide)) z_len
  have G_Setter_set_plain := yh9 (P := l.prog) (w := w) (base := base) (κ := κ) (n := 2) M_Setter_set_plain D_p_writing (G_p_writing.mono (by decide)) D_p_column_behind (G_p_column_behind.mono (by decide)) cl_Setter na_column na_parts
  have G_Place_init := xa5 (P := l.prog) (w := w) (base := base) (κ := κ) (n := 0) K_Place cl_Place na_broken na_margin
  have G_p_ways := xr4 (P := l.prog) (w := w) (base := base) (κ := κ) (n := 1) D_p_ways K_Place (G_Place_init.mono (by decide)) cl_Place na_broken na_margin
  have G_p_takes_choice := ym8 (P := l.prog) (w := w) (base := base) (κ := κ) (n := 0) D_p_takes_choice cl_Place na_broken
  have G_Setter_choice_below := yd3 (P := l.prog) (w := w) (base := base) (κ := κ) (n := 0) M_Setter_choice_below cl_Setter na_used na_choices z_len
  have L_Setter_set_row : ∀ n, FnOk l.prog w K mg base CX0 (2 * n + 3) _ _ ["self", "row", "place"] (SpE 3 K κ (zd9 [true, false, false]) (zz9 n)) := fun n => by
    induction n with
    | zero => exact FnOk.noneE (ps := ["self", "row", "place"])
    | succ n ih => exact ym9 (n := 2 * n + 4) M_Setter_set_row D_p_holds_rows (G_p_holds_rows.mono (by omega)) M_Setter_set_holder (yg3 (n := 2 * n + 3) M_Setter_set_holder D_p_ways (G_p_ways.mono (by omega)) D_p_takes_choice (G_p_takes_choice.mono (by omega)) M_Setter_choice_below (G_Setter_choice_below.mono (by omega)) M_Setter_set_row ih z_len) M_Setter_set_plain (G_Setter_set_plain.mono (by omega))
  have G_Setter_set_row := L_Setter_set_row 14
  have G_p_first_place := yo2 (P := l.prog) (w := w) (base := base) (κ := κ) (n := 1) D_p_first_place K_Place (G_Place_init.mono (by decide))
  have G_Setter_whole_text := yg5 (P := l.prog) (w := w) (base := base) (κ := κ) (n := 0) M_Setter_whole_text cl_Setter na_used na_parts na_choices z_len
  have G_p_set_by := xg6 (P := l.prog) (w := w) (base := base) (κ := κ) (n := 30) D_p_set_by K_Setter (G_Setter_init.mono (by decide)) M_Setter_set_row (G_Setter_set_row.mono (by decide)) D_p_first_place (G_p_first_place.mono (by decide)) M_Setter_whole_text (G_Setter_whole_text.mono (by decide))
  have G_l_due := xw0 (P := l.prog) (w := w) (base := base) (κ := κ) (n := 0) D_l_due z_len
  have G_law := wh5 (P := l.prog) (w := w) (base := base) (κ := κ) (n := 32) D_law D_l_mixed (G_l_mixed.mono (by decide)) D_l_built (G_l_built.mono (by decide)) D_p_set_by (G_p_set_by.mono (by decide)) D_l_due (G_l_due.mono (by decide)) z_isinstance z_str
  exact wm4 G_law fun ns hl => xn0 (by decide) (fun j s h0 h1 h2 h3 => xx3 hl j s h0 h1 h2 h3)
end My
open PySem PySem.W PyProof.Rows
set_option maxRecDepth 100000 in
set_option maxHeartbeats 0 in
theorem PySem.Challenge.cw_linepress_k10_hangs_and_ends_holds : PySem.Challenge.rw_linepress_k10_hangs_and_ends.Holds := by
  w_on; o_law; k_head; (case hw => w_witness2)
  k_fill
  refine My.wm5 (lev := 33) (l := PySem.Challenge.rw_linepress_k10_hangs_and_ends) rfl rfl ⟨rfl, by decide, by decide⟩ (fun w h Y => PySem.W.kIn_of Y) ?F
  case F =>
    intro w mg fa h KX G hmg
    refine' My.wi2 KX G hmg ?my_a0 ?my_l0 ?my_c0 ?my_k0 ?my_a1 ?my_l1 ?my_c1 ?my_k1 ?my_a2 ?my_l2 ?my_c2 ?my_k2 ?my_a3 ?my_l3 ?my_c3 ?my_k3 ?my_a4 ?my_l4 ?my_c4 ?my_k4 ?my_a5 ?my_l5 ?my_c5 ?my_k5 ?my_a6 ?my_l6 ?my_c6 ?my_k6 ?my_a7 ?my_l7 ?my_c7 ?my_k7 ?my_a8 ?my_l8 ?my_c8 ?my_k8 ?my_a9 ?my_l9 ?my_c9 ?my_k9 ?my_a10 ?my_l10 ?my_c10 ?my_k10 ?my_a11 ?my_l11 ?my_c11 ?my_k11 ?my_a12 ?my_l12 ?my_c12 ?my_k12 ?my_a13 ?my_l13 ?my_c13 ?my_k13 ?my_a14 ?my_l14 ?my_c14 ?my_k14 ?my_z0 ?my_z1 ?my_z2 ?my_z3 ?my_z4 ?my_z5 ?my_z6 ?my_g0 ?my_dtHOLDERS ?my_gC_Place ?my_pg_Place ?my_hd_Place ?my_po_Place ?my_sa_Place ?my_mk_Place ?my_kc_Place ?my_fi_Place_init ?my_is_Place_init ?my_lo_Place_init ?my_co_Place_init ?my_ke_Place_init ?my_nf_broken ?my_nf_margin ?my_gC_Setter ?my_pg_Setter ?my_hd_Setter ?my_po_Setter ?my_sa_Setter ?my_mk_Setter ?my_kc_Setter ?my_fi_Setter_init ?my_is_Setter_init ?my_lo_Setter_init ?my_co_Setter_init ?my_ke_Setter_init ?my_fi_Setter_choice_below ?my_is_Setter_choice_below ?my_lo_Setter_choice_below ?my_co_Setter_choice_below ?my_ke_Setter_choice_below ?my_fi_Setter_set_plain ?my_is_Setter_set_plain ?my_lo_Setter_set_plain ?my_co_Setter_set_plain ?my_ke_Setter_set_plain ?my_fi_Setter_set_holder ?my_is_Setter_set_holder ?my_lo_Setter_set_holder ?my_co_Setter_set_holder ?my_ke_Setter_set_holder ?my_fi_Setter_set_row ?my_is_Setter_set_row ?my_lo_Setter_set_row ?my_co_Setter_set_row ?my_ke_Setter_set_row ?my_fi_Setter_whole_text ?my_is_Setter_whole_text ?my_lo_Setter_whole_text ?my_co_Setter_whole_text ?my_ke_Setter_whole_text ?my_nf_choices ?my_nf_used ?my_nf_column ?my_nf_parts
    (case my_a0 => k_is)
    (case my_l0 => k_is)
    (case my_c0 => k_is)
    (case my_k0 => k_is)
    (case my_a1 => k_is)
    (case my_l1 => k_is)
    (case my_c1 => k_is)
    (case my_k1 => k_is)
    (case my_a2 => k_is)
    (case my_l2 => k_is)
    (case my_c2 => k_is)
    (case my_k2 => k_is)
    (case my_a3 => k_is)
    (case my_l3 => k_is)
    (case my_c3 => k_is)
    (case my_k3 => k_is)
    (case my_a4 => k_is)
    (case my_l4 => k_is)
    (case my_c4 => k_is)
    (case my_k4 => k_is)
    (case my_a5 => k_is)
    (case my_l5 => k_is)
    (case my_c5 => k_is)
    (case my_k5 => k_is)
    (case my_a6 => k_is)
    (case my_l6 => k_is)
    (case my_c6 => k_is)
    (case my_k6 => k_is)
    (case my_a7 => k_is)
    (case my_l7 => k_is)
    (case my_c7 => k_is)
    (case my_k7 => k_is)
    (case my_a8 => k_is)
    (case my_l8 => k_is)
    (case my_c8 => k_is)
    (case my_k8 => k_is)
    (case my_a9 => k_is)
    (case my_l9 => k_is)
    (case my_c9 => k_is)
    (case my_k9 => k_is)
    (case my_a10 => k_is)
    (case my_l10 => k_is)
    (case my_c10 => k_is)
    (case my_k10 => k_is)
    (case my_a11 => k_is)
    (case my_l11 => k_is)
    (case my_c11 => k_is)
    (case my_k11 => k_is)
    (case my_a12 => k_is)
    (case my_l12 => k_is)
    (case my_c12 => k_is)
    (case my_k12 => k_is)
    (case my_a13 => k_is)
    (case my_l13 => k_is)
    (case my_c13 => k_is)
    (case my_k13 => k_is)
    (case my_a14 => k_is)
    (case my_l14 => k_is)
    (case my_c14 => k_is)
    (case my_k14 => k_is)
    (case my_z0 => k_is)
    (case my_z1 => k_is)
    (case my_z2 => k_is)
    (case my_z3 => k_is)
    (case my_z4 => k_is)
    (case my_z5 => k_is)
    (case my_z6 => k_is)
    (case my_g0 => k_is)
    (case my_dtHOLDERS => k_is)
    (case my_gC_Place => k_is)
    (case my_pg_Place => k_is)
    (case my_hd_Place => k_is)
    (case my_po_Place => k_is)
    (case my_sa_Place => k_is)
    (case my_mk_Place => k_is)
    (case my_kc_Place => k_is)
    (case my_fi_Place_init => k_is)
    (case my_is_Place_init => k_is)
    (case my_lo_Place_init => k_is)
    (case my_co_Place_init => k_is)
    (case my_ke_Place_init => k_is)
    (case my_nf_broken => k_is)
    (case my_nf_margin => k_is)
    (case my_gC_Setter => k_is)
    (case my_pg_Setter => k_is)
    (case my_hd_Setter => k_is)
    (case my_po_Setter => k_is)
    (case my_sa_Setter => k_is)
    (case my_mk_Setter => k_is)
    (case my_kc_Setter => k_is)
    (case my_fi_Setter_init => k_is)
    (case my_is_Setter_init => k_is)
    (case my_lo_Setter_init => k_is)
    (case my_co_Setter_init => k_is)
    (case my_ke_Setter_init => k_is)
    (case my_fi_Setter_choice_below => k_is)
    (case my_is_Setter_choice_below => k_is)
    (case my_lo_Setter_choice_below => k_is)
    (case my_co_Setter_choice_below => k_is)
    (case my_ke_Setter_choice_below => k_is)
    (case my_fi_Setter_set_plain => k_is)
    (case my_is_Setter_set_plain => k_is)
    (case my_lo_Setter_set_plain => k_is)
    (case my_co_Setter_set_plain => k_is)
    (case my_ke_Setter_set_plain => k_is)
    (case my_fi_Setter_set_holder => k_is)
    (case my_is_Setter_set_holder => k_is)
    (case my_lo_Setter_set_holder => k_is)
    (case my_co_Setter_set_holder => k_is)
    (case my_ke_Setter_set_holder => k_is)
    (case my_fi_Setter_set_row => k_is)
    (case my_is_Setter_set_row => k_is)
    (case my_lo_Setter_set_row => k_is)
    (case my_co_Setter_set_row => k_is)
    (case my_ke_Setter_set_row => k_is)
    (case my_fi_Setter_whole_text => k_is)
    (case my_is_Setter_whole_text => k_is)
    (case my_lo_Setter_whole_text => k_is)
    (case my_co_Setter_whole_text => k_is)
    (case my_ke_Setter_whole_text => k_is)
    (case my_nf_choices => k_is)
    (case my_nf_used => k_is)
    (case my_nf_column => k_is)
    (case my_nf_parts => k_is)
#print axioms PySem.Challenge.cw_linepress_k10_hangs_and_ends_holds

