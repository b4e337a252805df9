import PyProof.Rows.All
import Wide.All
import OpenK.AllK
import Wide.FinOn
import Lean
import PyProof.EqAt
import PyProof.EqKinds
import PyProof.TupleCall
import PySem.Challenge.RW_linepress_k09_plain_rows_set
set_option Elab.async false
set_option bootstrap.genMatcherCode false
set_option genSizeOfSpec false
set_option genInjectivity false
set_option linter.all false
set_option maxRecDepth 100000
set_option maxHeartbeats 1000000
namespace L2
open PySem PySem.Spec PyProof.Rows
noncomputable abbrev Key := Sum Int Str
noncomputable def xv9 : Key -> Value -> Bool
  | .inl k, v => Value.isInt k v
  | .inr x, v => Value.isStrOf x v
noncomputable def wi8 (w : World) : Key -> Int
  | .inl k => hashInt k
  | .inr x => hashStr w x
theorem zk5 : ∀ {k : Key} {v : Value}, xv9 k v = true -> (∃ i t, k = Sum.inl i /\ v = Value.int i t) \/ (∃ x t, k = Sum.inr x /\ v = Value.str x t)
  | .inl i, v, h => by
    obtain ⟨t, e⟩ := Value.isInt_shape (k := i) (v := v) h
    exact .inl ⟨i, t, rfl, e⟩
  | .inr x, v, h => by
    obtain ⟨t, e⟩ := Value.isStrOf_shape (x := x) (v := v) h
    exact .inr ⟨x, t, rfl, e⟩
theorem xz8 (a b : Int) : decide ((Sum.inl a : Key) = Sum.inl b) = (a == b) := by
  by_cases e : a = b
  . subst e; simp
  . have h : ¬ (Sum.inl a : Key) = Sum.inl b := fun q => e (Sum.inl.inj q)
    rw [decide_eq_false h]
    exact (beq_eq_false_iff_ne.mpr e).symm
theorem xz9 (a b : Str) : decide ((Sum.inr a : Key) = Sum.inr b) = decide (a = b) := by
  by_cases e : a = b
  . subst e; simp
  . have h : ¬ (Sum.inr a : Key) = Sum.inr b := fun q => e (Sum.inr.inj q)
    rw [decide_eq_false h, decide_eq_false e]
theorem wa0 (a : Int) (b : Str) : decide ((Sum.inl a : Key) = Sum.inr b) = false := decide_eq_false (fun q => nomatch q)
theorem wa1 (a : Str) (b : Int) : decide ((Sum.inr a : Key) = Sum.inl b) = false := decide_eq_false (fun q => nomatch q)
noncomputable def yt8 (prog : Program) (w : World) : PySem.KeyKind prog w Key where
  is := xv9
  hash := wi8 w
  inj := fun v a b ha hb => by
    rcases zk5 ha with ⟨i, t, rfl, rfl⟩ | ⟨x, t, rfl, rfl⟩
    . rcases zk5 hb with ⟨j, u, rfl, e⟩ | ⟨y, u, rfl, e⟩
      . injection e with e1 _; rw [e1]
      . exact nomatch e
    . rcases zk5 hb with ⟨j, u, rfl, e⟩ | ⟨y, u, rfl, e⟩
      . exact nomatch e
      . injection e with e1 _; rw [e1]
  byValue := fun k v h => by
    rcases zk5 h with ⟨i, t, rfl, rfl⟩ | ⟨x, t, rfl, rfl⟩ <;> rfl
  pyHash := fun hv h => by
    rcases zk5 hv with ⟨i, t, rfl, rfl⟩ | ⟨x, t, rfl, rfl⟩
    . exact wpAny_pyHash_int h
    . exact wpAny_pyHash_str h
  eqBool := fun hu hv h => by
    rcases zk5 hu with ⟨i, t, rfl, rfl⟩ | ⟨x, t, rfl, rfl⟩
    . rcases zk5 hv with ⟨j, u, rfl, rfl⟩ | ⟨y, u, rfl, rfl⟩
      . rw [xz8] at h; exact wpAny_eqBool_int h
      . rw [wa0] at h; exact SeqAt.EqAt.int_str i t y u _ _ _ _ h
    . rcases zk5 hv with ⟨j, u, rfl, rfl⟩ | ⟨y, u, rfl, rfl⟩
      . rw [wa1] at h; exact SeqAt.EqAt.str_int x t j u _ _ _ _ h
      . rw [xz9] at h; exact wpAny_eqBool_str h
  «strs» := fun k x t v h => by
    rcases zk5 h with ⟨i, u, rfl, e⟩ | ⟨y, u, rfl, e⟩
    . exact nomatch e
    . injection e with e1 _
      subst e1
      cases v <;> rfl
end L2
namespace L2
open PySem PySem.Spec PyProof.Rows
set_option genInjectivity true in
inductive V where
  | non | bl (b : Bool) | int (i : Int) | str (x : Str) | byt (b : Array UInt8) | flt (b : UInt64) | ref (a : Addr) | ty (n : String)
  deriving DecidableEq
noncomputable def zd2 : V -> Value -> Prop
  | .non, u => u = Value.none
  | .bl b, u => u = Value.bool b
  | .int i, u => ∃ t, u = Value.int i t
  | .str x, u => ∃ t, u = Value.str x t
  | .byt b, u => ∃ t, u = Value.bytes b t
  | .flt b, u => ∃ t, u = Value.float b t
  | .ref a, u => u = Value.ref a
  | .ty n, u => u = Value.type n
noncomputable abbrev zc0 : List V -> List Value -> Prop := Paired zd2
theorem zc0.length {xs : List V} {us : List Value} (r : zc0 xs us) : xs.length = us.length := Paired.length r
theorem zc0.get : ∀ {xs : List V} {us : List Value} {i : Nat} {x : V}, zc0 xs us -> xs[i]? = some x -> ∃ u, us[i]? = some u /\ zd2 x u
  | _, _, _, _, .nil, e => by simp at e
  | _, _, 0, _, .cons r _, e => by simp at e; subst e; exact ⟨_, rfl, r⟩
  | _, _, i + 1, x, .cons _ t, e => by
    obtain ⟨u, h1, h2⟩ := zc0.get (i := i) (x := x) t (by simpa using e)
    exact ⟨u, by simpa using h1, h2⟩
theorem zc0.set {x : V} {u : Value} (r : zd2 x u) : ∀ {xs : List V} {us : List Value} (i : Nat), zc0 xs us -> zc0 (xs.set i x) (us.set i u)
  | _, _, _, .nil => .nil
  | _, _, 0, .cons _ t => .cons r t
  | _, _, i + 1, .cons q t => .cons q (zc0.set r i t)
theorem zc0.append : ∀ {xs ys : List V} {us ws : List Value}, zc0 xs us -> zc0 ys ws -> zc0 (xs ++ ys) (us ++ ws)
  | _, _, _, _, .nil, s => s
  | _, _, _, _, .cons r t, s => .cons r (zc0.append t s)
theorem zc0.take : ∀ {xs : List V} {us : List Value} (n : Nat), zc0 xs us -> zc0 (xs.take n) (us.take n)
  | _, _, 0, _ => .nil
  | _, _, _ + 1, .nil => .nil
  | _, _, n + 1, .cons r t => .cons r (zc0.take n t)
theorem zc0.drop : ∀ {xs : List V} {us : List Value} (n : Nat), zc0 xs us -> zc0 (xs.drop n) (us.drop n)
  | _, _, 0, r => r
  | _, _, _ + 1, .nil => .nil
  | _, _, n + 1, .cons _ t => zc0.drop n t
theorem zc0.none_of : ∀ {xs : List V} {us : List Value} {i : Nat}, zc0 xs us -> xs[i]? = none -> us[i]? = none := fun {xs us i} r e => by
  have h1 := r.length
  have h2 : xs.length <= i := List.getElem?_eq_none_iff.mp e
  exact List.getElem?_eq_none_iff.mpr (by omega)
noncomputable def zq5 : Option V -> Option Value -> Prop
  | some v, some u => zd2 v u
  | none, none => True
  | _, _ => False
noncomputable def KV {κ : Type} : List (κ × V) -> List (κ × Value) -> Prop := Paired fun (p : κ × V) (q : κ × Value) => p.1 = q.1 /\ zd2 p.2 q.2
noncomputable def kV : Key -> V
  | .inl i => .int i
  | .inr x => .str x
inductive HO where
  | lst (xs : List V)
  | tup (xs : List V)
  | dK (kvs : List (Key × V)) | dT (kvs : List (List Key × V))
  | set (S : Int -> Bool) (n : Nat)
  | ins (C dx : Addr) (fs : List (Str × V))
  | own (x : Addr)
  | xd (fs : List (Str × V))
  | met (f x : Addr)
  | rng (lo hi : Int)
  | frz (o : Obj) (u : HO)
  | tbl (ps : Array Value)
  | ext (φ : Heap -> Prop)
noncomputable abbrev Hp := Addr -> Option HO
noncomputable def upd (H : Hp) (a : Addr) (o : HO) : Hp := fun b => if b = a then some o else H b
theorem zh0 {H : Hp} {a : Addr} {o : HO} : upd H a o a = some o := by unfold upd; rw [if_pos rfl]
theorem zd4 {H : Hp} {a b : Addr} {o : HO} (h : b ≠ a) : upd H a o b = H b := by unfold upd; rw [if_neg h]
theorem zr8 {H : Hp} {a b : Addr} {o : HO} (h : H a = some o) (h' : H b = none) : a ≠ b := by
  intro e; subst e; rw [h] at h'; cases h'
section
variable (P : Program) (w : World)
noncomputable def zi8 (H : Hp) (h : Heap) (a : Addr) : HO -> Prop
  | .lst xs => xs.length <= sizeLine /\ ∃ (its : List Value) (n : Nat), zc0 xs its /\ h.get? a = some { cls := .type "list", data := .seq its.toArray n }
  | .tup xs => xs.length <= sizeLine /\ ∃ its : List Value, zc0 xs its /\ IsTup h a its.toArray
  | .dK kvs => kvs.length <= sizeLine /\ (a == sysModules) = false /\ ∃ vs, KV kvs vs /\ h.DictOf (yt8 P w) a vs
  | .dT kvs => kvs.length <= sizeLine /\ (a == sysModules) = false /\ ∃ xs : List (List Key × Addr × Value),
      Paired (fun (p : List Key × V) (q : List Key × Addr × Value) => p.1 = q.1 /\ H q.2.1 = some (.tup (p.1.map kV)) /\ zd2 p.2 q.2.2) kvs xs /\
      ∃ o es ep, h.get? a = some o /\ o.ExactDict /\ o.data = .dict es ep /\ es.toList = xs.map (entryOfKey (tupleKind (yt8 P w))) /\ (xs.map (·.1)).Nodup
  | .set S n => h.SetOf (intKind P w) a S n
  | .ins C dx fs => H dx = some (.own a) /\ fs.length <= 1000 /\ dx ≠ a /\ h.get? a = some (PySem.W.instObj C dx) /\
      ∃ mA, h.Ns1 dx mA /\ (∀ f, zq5 (fs.lookup f) (mA f)) /\ PySem.Within mA (fs.map (·.1))
  | .own _ => ∃ o, h.get? a = some o
  | .xd fs => ∃ mA, h.Ns1 a mA /\ ∀ f, zq5 (fs.lookup f) (mA f)
  | .rng lo hi => ∃ t u v, h.get? a = some { cls := .type "range", data := .fields #[.int lo t, .int hi u, .int 1 v] }
  | .frz o u => h.get? a = some o /\ zi8 H h a u
  | .tbl ps => h.get? a = some { cls := .none, data := .fields ps }
  | .met f x => h.get? a = some (PySem.W.methodObj (.ref f) (.ref x))
  | .ext φ => φ h /\ (∃ o, h.get? a = some o) /\ ∀ h1 h2 : Heap, φ h1 -> (∀ o, h1.get? a = some o -> h2.get? a = some o) -> φ h2
noncomputable def HOk (H : Hp) (h : Heap) : Prop := ∀ a o, H a = some o -> zi8 P w H h a o
end
section
variable {P : Program} {w : World} {H H' : Hp} {h h' : Heap} {a : Addr} {o : HO}
theorem zi8.lt (x : zi8 P w H h a o) : a < h.objs.size := by
  cases o with
  | lst xs => obtain ⟨_, _, _, _, e⟩ := x; exact Heap.lt_size e
  | tup xs => obtain ⟨_, _, _, p⟩ := x; exact p.lt
  | dK kvs => obtain ⟨_, _, _, _, o, _, _, e, _⟩ := x; exact Heap.lt_size e
  | dT kvs => obtain ⟨_, _, _, _, o, _, _, e, _⟩ := x; exact Heap.lt_size e
  | set S n => obtain ⟨o, _, _, _, e, _⟩ := x; exact Heap.lt_size e
  | ins C dx fs => obtain ⟨_, _, _, e, _⟩ := x; exact Heap.lt_size e
  | own y => obtain ⟨_, e⟩ := x; exact Heap.lt_size e
  | xd fs => obtain ⟨_, ⟨_, _, _, e, _⟩, _⟩ := x; exact Heap.lt_size e
  | rng lo hi => obtain ⟨_, _, _, e⟩ := x; exact Heap.lt_size e
  | frz ob u => obtain ⟨e, _⟩ := x; exact Heap.lt_size e
  | tbl ps => exact Heap.lt_size (show h.get? a = some _ from x)
  | met f y => exact Heap.lt_size (show h.get? a = some _ from x)
  | ext φ => obtain ⟨_, ⟨_, e⟩, _⟩ := x; exact Heap.lt_size e
theorem Paired.mapP {α β : Type} {F G : α -> β -> Prop} : ∀ {l₁ : List α} {l₂ : List β}, Paired F l₁ l₂ -> (∀ a b, F a b -> G a b) -> Paired G l₁ l₂
  | _, _, .nil, _ => .nil
  | _, _, .cons r t, f => .cons (f _ _ r) (Paired.mapP t f)
theorem zi8.stay (x : zi8 P w H h a o) (k : ∀ b u, (b = a \/ H b = some (.own a)) -> h.get? b = some u -> h'.get? b = some u)
    (ho : ∀ b, H b = some (.own a) -> H' b = some (.own a)) (ht : ∀ b xs, H b = some (.tup xs) -> H' b = some (.tup xs)) : zi8 P w H' h' a o := by
  induction o with
  | lst xs => obtain ⟨z, its, n, r, e⟩ := x; exact ⟨z, its, n, r, k _ _ (.inl rfl) e⟩
  | tup xs => obtain ⟨z, its, r, ob, e, c⟩ := x; exact ⟨z, its, r, ob, k _ _ (.inl rfl) e, c⟩
  | dK kvs => obtain ⟨z, y, vs, r, ob, es, ep, e, c⟩ := x; exact ⟨z, y, vs, r, ob, es, ep, k _ _ (.inl rfl) e, c⟩
  | dT kvs =>
    obtain ⟨z, y, xs, r, ob, es, ep, e, c⟩ := x
    exact ⟨z, y, xs, Paired.mapP r fun p q z => ⟨z.1, ht _ _ z.2.1, z.2.2⟩, ob, es, ep, k _ _ (.inl rfl) e, c⟩
  | set S n => obtain ⟨ob, es, ep, t, e, c⟩ := x; exact ⟨ob, es, ep, t, k _ _ (.inl rfl) e, c⟩
  | ins C dx fs =>
    obtain ⟨d, z, ne, e, mA, ⟨od, es, ep, e2, c⟩, r⟩ := x
    exact ⟨ho _ d, z, ne, k _ _ (.inl rfl) e, mA, ⟨od, es, ep, k _ _ (.inr d) e2, c⟩, r⟩
  | own y => obtain ⟨ob, e⟩ := x; exact ⟨ob, k _ _ (.inl rfl) e⟩
  | xd fs => obtain ⟨mA, ⟨od, es, ep, e, c⟩, r⟩ := x; exact ⟨mA, ⟨od, es, ep, k _ _ (.inl rfl) e, c⟩, r⟩
  | rng lo hi => obtain ⟨t, u, v, e⟩ := x; exact ⟨t, u, v, k _ _ (.inl rfl) e⟩
  | frz ob u ih => obtain ⟨e, q⟩ := x; exact ⟨k _ _ (.inl rfl) e, ih q⟩
  | tbl ps =>
    have e : h.get? a = some { cls := .none, data := .fields ps } := x
    show h'.get? a = some { cls := .none, data := .fields ps }
    exact k a _ (.inl rfl) e
  | met f y =>
    have e : h.get? a = some (PySem.W.methodObj (.ref f) (.ref y)) := x
    show h'.get? a = some (PySem.W.methodObj (.ref f) (.ref y))
    exact k a _ (.inl rfl) e
  | ext φ => obtain ⟨p, ⟨o, e⟩, st⟩ := x; exact ⟨st _ _ p fun o q => k _ _ (.inl rfl) q, ⟨o, k _ _ (.inl rfl) e⟩, st⟩
theorem HOk.lt (x : HOk P w H h) (e : H a = some o) : a < h.objs.size := (x a o e).lt
theorem HOk.fresh (x : HOk P w H h) (e : h.objs.size <= a) : H a = none := by
  cases q : H a with
  | none => rfl
  | some u => exact absurd (Nat.lt_of_lt_of_le (x.lt q) e) (Nat.lt_irrefl _)
theorem HOk.kept (x : HOk P w H h) (k : ∀ b u, h.get? b = some u -> h'.get? b = some u) : HOk P w H h' := fun a o e =>
  (x a o e).stay (fun b u _ q => k b u q) (fun _ q => q) fun _ _ q => q
theorem HOk.laid (x : HOk P w H h) (k : ∀ b u, h.get? b = some u -> h'.get? b = some u) (hp : h.objs.size <= a) (new : zi8 P w (upd H a o) h' a o) : HOk P w (upd H a o) h' := fun b u e => by
  have hn := x.fresh hp
  by_cases hb : b = a
  . subst hb; rw [zh0] at e; cases e; exact new
  . rw [zd4 hb] at e
    exact (x b u e).stay (fun c v _ q => k c v q) (fun c q => by rw [zd4 (zr8 q hn)]; exact q) fun c xs q => by rw [zd4 (zr8 q hn)]; exact q
end
noncomputable def Rd (H : Hp) (a : Addr) (u : HO) : Prop := H a = some u \/ ∃ o, H a = some (.frz o u)
theorem Rd.of {H : Hp} {a : Addr} {u : HO} (h : H a = some u) : Rd H a u := .inl h
theorem Rd.ok {P : Program} {w : World} {H : Hp} {h : Heap} {a : Addr} {u : HO} (r : Rd H a u) (x : HOk P w H h) : zi8 P w H h a u := by
  rcases r with r | ⟨o, r⟩
  . exact x a u r
  . obtain ⟨_, q⟩ := x a _ r
    exact q
noncomputable def Mut : Option HO -> Prop
  | some (.lst _) => True
  | some (.dK _) => True
  | some (.dT _) => True
  | some (.set _ _) => True
  | some (.ins _ _ _) => True
  | some (.ext _) => True
  | _ => False
section
variable {P : Program} {w : World} {H : Hp} {h h' : Heap} {x e : Addr} {o' : HO}
theorem HOk.write (ok : HOk P w H h) (mu : Mut (H x)) (he : e = x \/ H e = some (.own x)) (k : ∀ b u, b ≠ e -> h.get? b = some u -> h'.get? b = some u) (heo : ∃ u, h'.get? e = some u)
    (new : zi8 P w (upd H x o') h' x o') : HOk P w (upd H x o') h' := fun b u q => by
  have nown : ∀ c y, H c = some (.own y) -> c ≠ x := fun c y r z => by subst z; rw [r] at mu; exact mu
  have ntup : ∀ c xs, H c = some (.tup xs) -> c ≠ x := fun c xs r z => by subst z; rw [r] at mu; exact mu
  by_cases hb : b = x
  . subst hb; rw [zh0] at q; cases q; exact new
  . rw [zd4 hb] at q
    by_cases hbe : b = e
    . have q' : H b = some (.own x) := by
        rcases he with z | z
        . exact absurd (hbe.trans z) hb
        . rw [hbe]; exact z
      rw [q] at q'; cases q'
      obtain ⟨v, hv⟩ := heo
      exact ⟨v, by rw [hbe]; exact hv⟩
    . refine (ok b u q).stay (fun c v hc r => k c v ?_ r) (fun c r => by rw [zd4 (nown c b r)]; exact r) fun c xs r => by rw [zd4 (ntup c xs r)]; exact r
      rcases hc with rfl | hc
      . exact hbe
      . rintro rfl
        rcases he with z | z
        . exact nown c b hc z
        . rw [hc] at z; cases z; exact hb rfl
end
structure Un (fs ex : List Addr) (H H' : Hp) (h h' : Heap) : Prop where
  keep : ∀ b o, h.get? b = some o -> H b = none -> b ∉ fs -> b ∉ ex -> h'.get? b = some o
  slot : ∀ b o, h.get? b = some o -> H b = none -> b ∈ fs -> b ∉ ex -> ∃ sl, h'.get? b = some { o with slots := sl }
  free : ∀ b o, h.get? b = some o -> H b = none -> b ∉ ex -> H' b = none
  there : ∀ b o, h.get? b = some o -> b ∉ ex -> ∃ o', h'.get? b = some o'
  tups : ∀ b xs, H b = some (.tup xs) -> H' b = some (.tup xs)
  frzs : ∀ b o u, H b = some (.frz o u) -> H' b = some (.frz o u)
  tbls : ∀ b ps, H b = some (.tbl ps) -> ∃ more, H' b = some (.tbl (ps ++ more))
section
variable {fs fs' ex ex' : List Addr} {H H1 H2 : Hp} {h h1 h2 h' : Heap} {a x e : Addr} {o : HO}
theorem Un.any (u : Un fs ex H H1 h h1) {b : Addr} {ob : Obj} (q : h.get? b = some ob) (n : H b = none) (hx : b ∉ ex) : ∃ sl, h1.get? b = some { ob with slots := sl } := by
  by_cases hb : b ∈ fs
  . exact u.slot b ob q n hb hx
  . exact ⟨ob.slots, u.keep b ob q n hb hx⟩
theorem Un.trans (a : Un fs ex H H1 h h1) (b : Un fs ex H1 H2 h1 h2) : Un fs ex H H2 h h2 where
  keep := fun c ob q n hc hx => b.keep c ob (a.keep c ob q n hc hx) (a.free c ob q n hx) hc hx
  slot := fun c ob q n hc hx => by
    obtain ⟨sl, e1⟩ := a.slot c ob q n hc hx
    obtain ⟨sl', e2⟩ := b.slot c _ e1 (a.free c ob q n hx) hc hx
    exact ⟨sl', e2⟩
  free := fun c ob q n hx => by
    obtain ⟨o', e1⟩ := a.there c ob q hx
    exact b.free c o' e1 (a.free c ob q n hx) hx
  there := fun c ob q hx => by
    obtain ⟨o', e1⟩ := a.there c ob q hx
    exact b.there c o' e1 hx
  tups := fun c xs q => b.tups c xs (a.tups c xs q)
  frzs := fun c ob xs q => b.frzs c ob xs (a.frzs c ob xs q)
  tbls := fun c ps q => by
    obtain ⟨m1, e1⟩ := a.tbls c ps q
    obtain ⟨m2, e2⟩ := b.tbls c _ e1
    exact ⟨m1 ++ m2, by rw [e2, Array.append_assoc]⟩
theorem Un.kept (k : ∀ b u, h.get? b = some u -> h'.get? b = some u) : Un fs ex H H h h' :=
  ⟨fun b ob q _ _ _ => k b ob q, fun b ob q _ _ _ => ⟨ob.slots, k b ob q⟩, fun _ _ _ n _ => n, fun b ob q _ => ⟨ob, k b ob q⟩, fun _ _ q => q, fun _ _ _ q => q, fun _ ps q => ⟨#[], by rw [q]; simp⟩⟩
theorem Un.refl : Un fs ex H H h h := Un.kept fun _ _ q => q
theorem Un.laid (k : ∀ b u, h.get? b = some u -> h'.get? b = some u) (hp : h.objs.size <= a) (hn : H a = none) : Un fs ex H (upd H a o) h h' where
  keep := fun b u q _ _ _ => k b u q
  slot := fun b u q _ _ _ => ⟨u.slots, k b u q⟩
  free := fun b u q n _ => by rw [zd4 (Nat.ne_of_lt (Nat.lt_of_lt_of_le (Heap.lt_size q) hp))]; exact n
  there := fun b u q _ => ⟨u, k b u q⟩
  tups := fun b xs q => by rw [zd4 (zr8 q hn)]; exact q
  frzs := fun b u xs q => by rw [zd4 (zr8 q hn)]; exact q
  tbls := fun b ps q => ⟨#[], by rw [zd4 (zr8 q hn), q]; simp⟩
theorem Un.write (mu : Mut (H x)) (he : e = x \/ H e = some (.own x)) (k : ∀ b u, b ≠ e -> h.get? b = some u -> h'.get? b = some u) (heo : ∃ u, h'.get? e = some u) : Un fs ex H (upd H x o) h h' := by
  have hx : ∀ b, H b = none -> b ≠ x := fun b n z => by subst z; rw [n] at mu; exact mu
  have hb : ∀ b, H b = none -> b ≠ e := fun b n z => by
    subst z
    rcases he with r | r
    . exact hx b n r
    . rw [n] at r; cases r
  have hm : ∀ b u, H b = some u -> ¬ Mut (some u) -> b ≠ x := fun b u q nm z => by subst z; rw [q] at mu; exact nm mu
  refine ⟨fun b u q n _ _ => k b u (hb b n) q, fun b u q n _ _ => ⟨u.slots, k b u (hb b n) q⟩, fun b u q n _ => by rw [zd4 (hx b n)]; exact n, fun b u q _ => ?_,
    fun b xs q => by rw [zd4 (hm b _ q fun z => z)]; exact q, fun b u xs q => by rw [zd4 (hm b _ q fun z => z)]; exact q, fun b ps q => ⟨#[], by rw [zd4 (hm b _ q fun z => z), q]; simp⟩⟩
  by_cases hbe : b = e
  . subst hbe; exact heo
  . exact ⟨u, k b u hbe q⟩
theorem Un.mono (u : Un fs ex H H1 h h1) (hs : ∀ b ∈ fs, b ∈ fs') (hx : ∀ b ∈ ex, b ∈ ex') : Un fs' ex' H H1 h h1 :=
  ⟨fun b ob q n hb he => u.keep b ob q n (fun z => hb (hs b z)) fun z => he (hx b z), fun _ _ q n _ he => u.any q n fun z => he (hx _ z), fun b ob q n he => u.free b ob q n fun z => he (hx b z), fun b ob q he => u.there b ob q fun z => he (hx b z), u.tups, u.frzs, u.tbls⟩
end
noncomputable def trk (h : Heap) (H : Hp) : List Addr := (List.range h.objs.size).filter fun a => (H a).isSome
noncomputable def ye3 (h : Heap) (H : Hp) : Heap := PySem.W.hideAll h (trk h H)
theorem xl8 (h : Heap) (H : Hp) : (ye3 h H).objs.size = h.objs.size := PySem.W.hideAll_size _ _
theorem xq5 {h : Heap} {H : Hp} {b : Addr} {o : Obj} (e : h.get? b = some o) (n : H b = none) : (ye3 h H).get? b = some o :=
  PySem.W.hideAll_get _ e fun hm => by
    have q : (H b).isSome = true := (List.mem_filter.mp hm).2
    rw [n] at q; simp at q
theorem xw5 {h : Heap} {H : Hp} {b : Addr} {o : Obj} (e : (ye3 h H).get? b = some o) : h.get? b = some o /\ H b = none := by
  have e' : h.get? b = some o := PySem.W.of_hideAll (trk h H) e
  refine ⟨e', ?_⟩
  cases q : H b with
  | none => rfl
  | some x =>
    have hm : b ∈ trk h H := List.mem_filter.mpr ⟨List.mem_range.mpr (Heap.lt_size e'), by simp [q]⟩
    have z : (ye3 h H).get? b = none := PySem.W.hideAll_none (trk h H) hm
    rw [z] at e; cases e
noncomputable def xz6 (g h : Heap) (L : Addr) : List (Addr × Obj) := (List.range h.objs.size).filterMap fun a => if a = L \/ (g.get? a).isSome = true then none else (h.get? a).map fun o => (a, o)
noncomputable def zb1 (g h : Heap) (L d : Addr) : List (Addr × Obj) := (xz6 g h L).filter fun p => decide (p.1 ≠ d)
end L2
namespace L2
open PySem PySem.Spec PyProof.Rows
structure Mod (K : PySem.W.Frag) (mg : Str -> Option Value) (base : Heap) : Prop where
  kin : K.In base
  glob : base.Ns mainGlobals mg
  blt : ∃ mb, base.Ns builtinsNs mb /\ ∀ x : Str, x ≠ "__name__" -> mb x = bootBuiltins x
  nolimit : base.NoLimit
structure Cx where
  prog : Program
  w : World
  K : PySem.W.Frag
  mg : Str -> Option Value
  base : Heap
  A : Around
  N : List Str
  s₀ : Shared
  H₀ : Hp
  env : Env
  outer : List Env
  stack : List Env
  ex : List Addr
  fn : Str -> Bool
  calm : Bool
  pn : List (Addr × Obj)
  xe : Value -> Shared -> Prop
noncomputable def frs (l : List Env) : List Addr := l.filterMap (·.frame)
noncomputable abbrev Cx.fs (X : Cx) : List Addr := frs X.outer
noncomputable def Vis (sc : Scope) (x : Str) : Prop := sc.names.lookup x = some .local \/ sc.names.lookup x = some .cell \/ sc.names.lookup x = some .free
noncomputable def Loc (sc : Scope) (x : Str) : Prop := sc.names.lookup x = some .local \/ sc.names.lookup x = some .cell
noncomputable def wi9 (env : Env) (h : Heap) (m : Str -> Option Value) (x : Str) (u : Value) : Prop :=
  (env.kindOf x = some .local /\ m x = some u) \/ ((env.kindOf x = some .cell \/ env.kindOf x = some .free) /\ ∃ c, env.cells.lookup x = some c /\ h.IsCell c (some u))
structure Cx.Ok (X : Cx) : Prop where
  mod : Mod X.K X.mg X.base
  kind : X.env.scope.kind = .function
  glob : X.env.globals = mainGlobals
  blt : X.env.builtins = builtinsNs
  above : X.s₀.heap.objs.size <= X.env.locals
  inj : ∀ x y c, X.env.cells.lookup x = some c -> X.env.cells.lookup y = some c -> x = y
  has : ∀ x, (X.env.kindOf x = some .cell \/ X.env.kindOf x = some .free) -> ∃ c, X.env.cells.lookup x = some c
  cab : ∀ x c, X.fn x = true -> X.env.cells.lookup x = some c -> X.s₀.heap.objs.size <= c
  hd : X.calm = true -> X.A.handled = none
  frames : X.A.frames = some X.stack
  stk : X.stack = X.outer \/ (X.stack = X.env :: X.outer /\ X.env.frame = some X.env.locals)
  exf : ∀ b ∈ X.ex, b ≠ X.env.locals /\ ∀ x c, X.env.cells.lookup x = some c -> c ≠ b
  bs : ∀ b o, X.base.get? b = some o -> X.s₀.heap.get? b = some o /\ X.H₀ b = none
  bsz : X.base.objs.size <= X.s₀.heap.objs.size
  noex : ∀ b o, X.base.get? b = some o -> b ∉ X.ex
  exfs : ∀ b ∈ X.ex, b ∉ X.fs
  funs : X.s₀.heap.FunFrames X.base X.outer
  frf : ∀ b ∈ X.fs, X.H₀ b = none
structure Inv (X : Cx) (pins : List (Addr × Obj)) (σ : List (Option V)) (H : Hp) (s : Shared) : Prop where
  ok : X.Ok
  os : s.os = X.s₀.os
  bare : AllBare s.gens
  base : Un X.fs X.ex X.H₀ H X.s₀.heap s.heap
  loc : ∃ m, s.heap.Ns X.env.locals m /\ ∀ (i : Nat) (x : Str) (v : V), X.N[i]? = some x -> σ[i]? = some (some v) -> Vis X.env.scope x -> ∃ u, zd2 v u /\ wi9 X.env s.heap m x u
  cell : ∀ x c, X.env.cells.lookup x = some c -> ∃ v, s.heap.IsCell c v
  free : H X.env.locals = none
  freeC : ∀ x c, X.env.cells.lookup x = some c -> H c = none
  pin : ∀ p ∈ X.pn ++ pins, s.heap.get? p.1 = some p.2 /\ H p.1 = none /\ p.1 ≠ X.env.locals /\ p.1 ∉ X.fs /\ ∀ v, p.2.data ≠ .cell v
  hok : HOk X.prog X.w H s.heap
  len : σ.length = X.N.length
section
variable {X : Cx} {pins : List (Addr × Obj)} {σ : List (Option V)} {H H' : Hp} {s : Shared} {h' : Heap}
theorem Cx.Ok.nofr (ok : X.Ok) {b : Addr} {o : Obj} (e : X.base.get? b = some o) : b ∉ X.fs := fun hb => by
  have := (ok.funs.mem hb).1
  rw [e] at this; cases this
theorem Inv.bs (I : Inv X pins σ H s) : ∀ b o, X.base.get? b = some o -> s.heap.get? b = some o /\ H b = none := fun b o e =>
  ⟨I.base.keep b o (I.ok.bs b o e).1 (I.ok.bs b o e).2 (I.ok.nofr e) (I.ok.noex b o e), I.base.free b o (I.ok.bs b o e).1 (I.ok.bs b o e).2 (I.ok.noex b o e)⟩
theorem Inv.bk (I : Inv X pins σ H s) : ∀ b o, X.base.get? b = some o -> s.heap.get? b = some o := fun b o e => (I.bs b o e).1
theorem Inv.mod (I : Inv X pins σ H s) : Mod X.K X.mg X.base := I.ok.mod
theorem Inv.kIn (I : Inv X pins σ H s) : X.K.In s.heap := I.ok.mod.kin.keeps I.bk
theorem Inv.nolimit (I : Inv X pins σ H s) : s.heap.NoLimit := I.ok.mod.nolimit.keeps I.bk
theorem Inv.fr (I : Inv X pins σ H s) : ∃ m, Fr X.base X.env.locals s.heap m :=
  let ⟨m, hn, _⟩ := I.loc
  ⟨m, hn, I.bk, Nat.le_trans I.ok.bsz I.ok.above⟩
theorem Inv.lt (I : Inv X pins σ H s) : X.env.locals < s.heap.objs.size := let ⟨_, hn, _⟩ := I.loc; hn.lt
theorem Inv.sz (I : Inv X pins σ H s) : X.s₀.heap.objs.size <= s.heap.objs.size := Nat.le_trans I.ok.above (Nat.le_of_lt I.lt)
theorem Inv.nofs (I : Inv X pins σ H s) {a : Addr} (h : s.heap.objs.size <= a) : a ∉ X.fs := fun hb => by
  obtain ⟨_, o, ho, _⟩ := I.ok.funs.mem hb
  exact absurd (Nat.lt_of_lt_of_le (Heap.lt_size ho) (Nat.le_trans I.sz h)) (Nat.lt_irrefl _)
theorem Inv.cne (I : Inv X pins σ H s) : ∀ x c, X.env.cells.lookup x = some c -> c ≠ X.env.locals := fun x c e z => by
  obtain ⟨v, o, ho, hd⟩ := I.cell x c e
  obtain ⟨m, ⟨o', es, ep, ho', hd', _⟩, _⟩ := I.loc
  rw [z, ho'] at ho; cases ho; rw [hd'] at hd; cases hd
theorem Inv.funs (I : Inv X pins σ H s) : s.heap.FunFrames X.base X.outer := by
  have all : ∀ (l : List Env), (∀ b ∈ frs l, b ∈ X.fs) -> X.s₀.heap.FunFrames X.base l -> s.heap.FunFrames X.base l := by
    intro l
    induction l with
    | nil => intro _ _; trivial
    | cons env r ih =>
      intro hs hl
      obtain ⟨hk, ⟨L, o, hf, hn, ho, hd⟩, hr⟩ := hl
      have hL : L ∈ X.fs := hs L (by unfold frs; rw [List.filterMap_cons, hf]; exact List.mem_cons_self)
      obtain ⟨sl, e⟩ := I.base.slot L o ho (I.ok.frf L hL) hL fun z => I.ok.exfs L z hL
      exact ⟨hk, ⟨L, _, hf, hn, e, hd⟩, ih (fun b hb => hs b (by unfold frs; rw [List.filterMap_cons, hf]; exact List.mem_cons_of_mem _ hb)) hr⟩
  exact all X.outer (fun _ hb => hb) I.ok.funs
theorem Inv.stack (I : Inv X pins σ H s) : s.heap.FunFrames X.base X.stack := by
  rcases I.ok.stk with e | ⟨e, hf⟩
  . rw [e]; exact I.funs
  . rw [e]
    obtain ⟨m, hn, _⟩ := I.loc
    refine .cons (by rw [I.ok.kind]; decide) hf hn ?_ I.funs
    exact Heap.get?_none_of_le (Nat.le_trans I.ok.bsz I.ok.above)
theorem Inv.stkSub (I : Inv X pins σ H s) : ∀ b ∈ frs X.stack, b ∈ X.env.locals :: X.fs := fun b hb => by
  rcases I.ok.stk with e | ⟨e, hf⟩
  . rw [e] at hb; exact List.mem_cons_of_mem _ hb
  . rw [e] at hb
    unfold frs at hb
    rw [List.filterMap_cons, hf] at hb
    exact hb
theorem Inv.stkFree (I : Inv X pins σ H s) : ∀ b ∈ frs X.stack, H b = none := fun b hb => by
  rcases List.mem_cons.mp (I.stkSub b hb) with e | hb
  . rw [e]; exact I.free
  . obtain ⟨_, o, ho, _⟩ := I.ok.funs.mem hb
    exact I.base.free b o ho (I.ok.frf b hb) fun z => I.ok.exfs b z hb
theorem Inv.step {g' : Array GenState} {t' : Nat} {d' : Drawn} {ch : List Addr} (I : Inv X pins σ H s)
    (hch : ∀ b ∈ ch, (b ∈ X.ex \/ X.s₀.heap.objs.size <= b) /\ b ≠ X.env.locals /\ (∀ x c, X.env.cells.lookup x = some c -> c ≠ b) /\ ∀ p ∈ X.pn ++ pins, p.1 ≠ b)
    (keep : ∀ b o, b ≠ X.env.locals -> b ∉ X.fs -> b ∉ ch -> s.heap.get? b = some o -> H b = none -> h'.get? b = some o)
    (slot : ∀ b o, b ≠ X.env.locals -> b ∈ X.fs -> b ∉ ch -> s.heap.get? b = some o -> H b = none -> ∃ sl, h'.get? b = some { o with slots := sl }) (free : ∀ b o, b ∉ ch -> s.heap.get? b = some o -> H b = none -> H' b = none)
    (there : ∀ b o, b ∉ ch -> s.heap.get? b = some o -> ∃ o', h'.get? b = some o')
    (tups : ∀ b xs, H b = some (.tup xs) -> H' b = some (.tup xs)) (frzs : ∀ b o u, H b = some (.frz o u) -> H' b = some (.frz o u)) (tbls : ∀ b ps, H b = some (.tbl ps) -> ∃ more, H' b = some (.tbl (ps ++ more)))
    (ns : ∀ m, s.heap.Ns X.env.locals m -> h'.Ns X.env.locals m) (hok : HOk X.prog X.w H' h') (hg : AllBare g') :
    Inv X pins σ H' { s with heap := h', gens := g', drawn := d', toks := t' } := by
  have neL : ∀ b o, X.s₀.heap.get? b = some o -> b ≠ X.env.locals := fun b o e => Nat.ne_of_lt (Nat.lt_of_lt_of_le (Heap.lt_size e) I.ok.above)
  have neC : ∀ b o, X.s₀.heap.get? b = some o -> b ∉ X.ex -> b ∉ ch := fun b o e hx hb => by
    rcases (hch b hb).1 with z | z
    . exact hx z
    . exact absurd (Nat.lt_of_lt_of_le (Heap.lt_size e) z) (Nat.lt_irrefl _)
  have cellK : ∀ x c, X.env.cells.lookup x = some c -> ∀ v, s.heap.IsCell c v -> h'.IsCell c v := fun x c e v ⟨o, ho, hd⟩ => by
    have nch : c ∉ ch := fun z => (hch c z).2.2.1 x c e rfl
    by_cases hc : c ∈ X.fs
    . obtain ⟨sl, q⟩ := slot c o (I.cne x c e) hc nch ho (I.freeC x c e)
      exact ⟨_, q, hd⟩
    . exact ⟨o, keep c o (I.cne x c e) hc nch ho (I.freeC x c e), hd⟩
  refine ⟨I.ok, I.os, hg, ⟨fun b o e n hb hx => ?_, fun b o e n hb hx => ?_, fun b o e n hx => ?_, fun b o e hx => ?_, fun b xs e => tups b xs (I.base.tups b xs e), fun b o xs e => frzs b o xs (I.base.frzs b o xs e), fun b ps e => ?_⟩, ?_, fun x c e => ?_, ?_, fun x c e => ?_, fun p hp => ?_, hok, I.len⟩
  . exact keep b o (neL b o e) hb (neC b o e hx) (I.base.keep b o e n hb hx) (I.base.free b o e n hx)
  . obtain ⟨sl, e1⟩ := I.base.slot b o e n hb hx
    obtain ⟨sl', e2⟩ := slot b _ (neL b o e) hb (neC b o e hx) e1 (I.base.free b o e n hx)
    exact ⟨sl', e2⟩
  . obtain ⟨o', e1⟩ := I.base.there b o e hx
    exact free b o' (neC b o e hx) e1 (I.base.free b o e n hx)
  . obtain ⟨o', e1⟩ := I.base.there b o e hx
    exact there b o' (neC b o e hx) e1
  . obtain ⟨m1, e1⟩ := I.base.tbls b ps e
    obtain ⟨m2, e2⟩ := tbls b _ e1
    exact ⟨m1 ++ m2, by rw [e2, Array.append_assoc]⟩
  . obtain ⟨m, hn, hl⟩ := I.loc
    refine ⟨m, ns m hn, fun i x v e1 e2 e3 => ?_⟩
    obtain ⟨u, r, l⟩ := hl i x v e1 e2 e3
    refine ⟨u, r, ?_⟩
    rcases l with l | ⟨k, c, e, z⟩
    . exact .inl l
    . exact .inr ⟨k, c, e, cellK x c e _ z⟩
  . obtain ⟨v, z⟩ := I.cell x c e
    exact ⟨v, cellK x c e v z⟩
  . obtain ⟨m, ⟨o, _, _, ho, _⟩, _⟩ := I.loc
    exact free _ o (fun z => (hch _ z).2.1 rfl) ho I.free
  . obtain ⟨v, o, ho, hd⟩ := I.cell x c e
    exact free c o (fun z => (hch c z).2.2.1 x c e rfl) ho (I.freeC x c e)
  . obtain ⟨e, n, ne, nf, d⟩ := I.pin p hp
    have nch : p.1 ∉ ch := fun z => (hch p.1 z).2.2.2 p hp rfl
    exact ⟨keep p.1 p.2 ne nf nch e n, free p.1 p.2 nch e n, ne, nf, d⟩
theorem Inv.un {t' : Nat} (I : Inv X pins σ H s) (u : Un X.fs [] H H' s.heap h') (hok : HOk X.prog X.w H' h') : Inv X pins σ H' { s with heap := h', toks := t' } := by
  obtain ⟨m, ⟨o, es, ep, ho, r⟩, _⟩ := id I.loc
  obtain ⟨sl, hL⟩ := u.any ho I.free (by simp)
  exact I.step (g' := s.gens) (d' := s.drawn) (ch := []) (fun _ z => nomatch z) (fun b o _ hb _ e n => u.keep b o e n hb (by simp)) (fun b o _ hb _ e n => u.slot b o e n hb (by simp)) (fun b o _ e n => u.free b o e n (by simp)) (fun b o _ e => u.there b o e (by simp)) u.tups u.frzs u.tbls (fun m' hm => by
    obtain ⟨o', es', ep', ho', r'⟩ := hm
    rw [ho] at ho'; cases ho'
    exact ⟨_, es', ep', hL, r'⟩) hok I.bare
theorem Inv.call {g' : Array GenState} {t' : Nat} {d' : Drawn} {ch : List Addr} (I : Inv X pins σ H s) (u : Un (frs X.stack) ch H H' s.heap h') (hok : HOk X.prog X.w H' h') (hg : AllBare g')
    (hch : ∀ b ∈ ch, (b ∈ X.ex \/ X.s₀.heap.objs.size <= b) /\ b ≠ X.env.locals /\ (∀ x c, X.env.cells.lookup x = some c -> c ≠ b) /\ ∀ p ∈ X.pn ++ pins, p.1 ≠ b) :
    Inv X pins σ H' { s with heap := h', gens := g', drawn := d', toks := t' } := by
  obtain ⟨m, ⟨o, es, ep, ho, r⟩, _⟩ := id I.loc
  obtain ⟨sl, hL⟩ := u.any ho I.free fun z => (hch _ z).2.1 rfl
  exact I.step (ch := ch) hch (fun b o hL hb hc e n => u.keep b o e n (fun z => (List.mem_cons.mp (I.stkSub b z)).elim hL hb) hc) (fun b o _ _ hc e n => u.any e n hc) (fun b o hc e n => u.free b o e n hc) (fun b o hc e => u.there b o e hc) u.tups u.frzs u.tbls (fun m' hm => by
    obtain ⟨o', es', ep', ho', r'⟩ := hm
    rw [ho] at ho'; cases ho'
    exact ⟨_, es', ep', hL, r'⟩) hok hg
theorem Inv.turned {t' : Nat} {it : Addr} (I : Inv X pins σ H s) (k : ∀ b o, b ≠ it -> s.heap.get? b = some o -> h'.get? b = some o) (hn : H it = none) (hL : it ≠ X.env.locals)
    (h1 : it ∈ X.ex \/ X.s₀.heap.objs.size <= it) (h2 : ∀ x c, X.env.cells.lookup x = some c -> c ≠ it) (h3 : ∀ p ∈ X.pn ++ pins, p.1 ≠ it) : Inv X pins σ H { s with heap := h', toks := t' } := by
  have nit : ∀ b u, H b = some u -> b ≠ it := fun b u e z => by rw [z, hn] at e; cases e
  refine I.step (g' := s.gens) (d' := s.drawn) (ch := [it]) (fun b hb => ?_) (fun b o _ _ hc e _ => k b o (fun z => hc (by simp [z])) e) (fun b o _ _ hc e _ => ⟨o.slots, k b o (fun z => hc (by simp [z])) e⟩) (fun _ _ _ _ n => n)
    (fun b o hc e => ⟨o, k b o (fun z => hc (by simp [z])) e⟩) (fun _ _ e => e) (fun _ _ _ e => e) (fun b ps e => ⟨#[], by rw [e]; simp⟩) (fun m hm => ?_) (fun b u e => ?_) I.bare
  . have e : b = it := by simpa using hb
    subst e
    exact ⟨h1, hL, h2, h3⟩
  . obtain ⟨o, es, ep, ho, r⟩ := hm
    exact ⟨o, es, ep, k _ o (Ne.symm hL) ho, r⟩
  . refine (I.hok b u e).stay (fun c v hc q => k c v ?_ q) (fun _ q => q) fun _ _ q => q
    rcases hc with z | z
    . rw [z]; exact nit b u e
    . exact nit c _ z
theorem Inv.tok (I : Inv X pins σ H s) (t : Nat) : Inv X pins σ H { s with toks := t } := I.un (h' := s.heap) (t' := t) Un.refl I.hok
theorem Inv.kept {t' : Nat} (I : Inv X pins σ H s) (k : ∀ b u, s.heap.get? b = some u -> h'.get? b = some u) : Inv X pins σ H { s with heap := h', toks := t' } := I.un (Un.kept k) (I.hok.kept k)
theorem Inv.laid {a : Addr} {o : HO} {t' : Nat} (I : Inv X pins σ H s) (k : ∀ b u, s.heap.get? b = some u -> h'.get? b = some u) (hp : s.heap.objs.size <= a) (new : zi8 X.prog X.w (upd H a o) h' a o) :
    Inv X pins σ (upd H a o) { s with heap := h', toks := t' } := I.un (Un.laid k hp (I.hok.fresh hp)) (I.hok.laid k hp new)
theorem Inv.write {x e : Addr} {o : HO} {t' : Nat} (I : Inv X pins σ H s) (mu : Mut (H x)) (he : e = x \/ H e = some (.own x)) (k : ∀ b u, b ≠ e -> s.heap.get? b = some u -> h'.get? b = some u) (heo : ∃ u, h'.get? e = some u)
    (new : zi8 X.prog X.w (upd H x o) h' x o) : Inv X pins σ (upd H x o) { s with heap := h', toks := t' } := I.un (Un.write mu he k heo) (I.hok.write mu he k heo new)
theorem Inv.pins_of {pins' : List (Addr × Obj)} (I : Inv X pins σ H s) (h : ∀ p ∈ pins', s.heap.get? p.1 = some p.2 /\ H p.1 = none /\ p.1 ≠ X.env.locals /\ p.1 ∉ X.fs /\ ∀ v, p.2.data ≠ .cell v) : Inv X pins' σ H s :=
  ⟨I.ok, I.os, I.bare, I.base, I.loc, I.cell, I.free, I.freeC, fun p hp => (List.mem_append.mp hp).elim (fun z => I.pin p (List.mem_append_left _ z)) (h p), I.hok, I.len⟩
theorem yx8 {N : List Str} (hN : N.Nodup) {i j : Nat} {x : Str} (a : N[i]? = some x) (b : N[j]? = some x) : i = j := by
  obtain ⟨h1, e1⟩ := List.getElem?_eq_some_iff.mp a
  obtain ⟨h2, e2⟩ := List.getElem?_eq_some_iff.mp b
  exact (List.getElem_inj hN).mp (e1.trans e2.symm)
theorem xl9 {M : Model} {A : Around} {E : Value -> Shared -> Prop} {i : Nat} {x : Str} {v : V} {u : Value} {Q : Unit -> Shared -> Prop} (I : Inv X pins σ H s) (hN : X.N.Nodup) (hi : X.N[i]? = some x) (hx : Loc X.env.scope x) (r : zd2 v u)
    (h : ∀ s', Inv X pins (σ.set i (some v)) H s' -> (∃ a, Heap.SameBut a s.heap s'.heap /\ (a = X.env.locals \/ X.env.cells.lookup x = some a)) -> Q () s') (hf : X.fn x = true \/ X.env.scope.names.lookup x = some .local := by first | exact .inl rfl | exact .inr rfl | assumption) : wpAny M A (storeName X.env x u) Q E s := by
  obtain ⟨m, hn, hl⟩ := id I.loc
  have hcls : (X.env.scope.kind == .class || (X.env.scope.kind == .module && X.env.locals != X.env.globals)) = false := by rw [I.ok.kind]; rfl
  have hiσ : i < σ.length := by rw [I.len]; exact (List.getElem?_eq_some_iff.mp hi).1
  have cne := I.cne
  have tracked : ∀ {a : Addr} {h' : Heap}, (∃ o, s.heap.get? a = some o /\ H a = none) -> Heap.SameBut a s.heap h' -> HOk X.prog X.w H h' := fun {a h'} ha hs b ob e => by
    obtain ⟨_, _, hfree⟩ := ha
    refine (I.hok b ob e).stay (fun c w' hc q => (hs.2 c ?_).trans q) (fun _ q => q) fun _ _ q => q
    rintro rfl
    rcases hc with rfl | hc
    . rw [hfree] at e; cases e
    . rw [hfree] at hc; cases hc
  rcases hx with hk | hk
  . refine wpAny_storeName_local hk hn (fun h' hn' hs => ?_) hcls
    obtain ⟨oL, _, _, hoL, _⟩ := id hn
    refine h _ ⟨I.ok, I.os, I.bare, ⟨fun b o e n hb hx => ?_, fun b o e n hb hx => ?_, I.base.free, fun b o e hx => ?_, I.base.tups, I.base.frzs, I.base.tbls⟩, ⟨_, hn', fun j y v' e1 e2 e3 => ?_⟩, fun y c e => ?_, I.free, I.freeC, fun p hp => ?_, tracked ⟨oL, hoL, I.free⟩ hs, by simpa using I.len⟩ ⟨_, hs, .inl rfl⟩
    . exact (hs.2 b (Nat.ne_of_lt (Nat.lt_of_lt_of_le (Heap.lt_size e) I.ok.above))).trans (I.base.keep b o e n hb hx)
    . obtain ⟨sl, e1⟩ := I.base.slot b o e n hb hx
      exact ⟨sl, (hs.2 b (Nat.ne_of_lt (Nat.lt_of_lt_of_le (Heap.lt_size e) I.ok.above))).trans e1⟩
    . obtain ⟨o', e1⟩ := I.base.there b o e hx
      exact ⟨o', (hs.2 b (Nat.ne_of_lt (Nat.lt_of_lt_of_le (Heap.lt_size e) I.ok.above))).trans e1⟩
    . by_cases hj : j = i
      . subst hj
        rw [hi] at e1; cases e1
        rw [List.getElem?_set_self hiσ] at e2
        cases e2
        exact ⟨u, r, .inl ⟨hk, by simp⟩⟩
      . rw [List.getElem?_set_ne (Ne.symm hj)] at e2
        obtain ⟨u', r', q⟩ := hl j y v' e1 e2 e3
        refine ⟨u', r', ?_⟩
        rcases q with ⟨k, e⟩ | ⟨k, c, e, z⟩
        . refine .inl ⟨k, ?_⟩
          have : y ≠ x := fun e => hj (yx8 hN e1 (e ▸ hi))
          simp [this, e]
        . exact .inr ⟨k, c, e, z.sameBut hs (cne y c e)⟩
    . obtain ⟨w', z⟩ := I.cell y c e
      exact ⟨w', z.sameBut hs (cne y c e)⟩
    . obtain ⟨e, n, ne, nf, d⟩ := I.pin p hp
      exact ⟨(hs.2 p.1 ne).trans e, n, ne, nf, d⟩
  . have hfn : X.fn x = true := by
      rcases hf with z | z
      . exact z
      . rw [z] at hk; cases hk
    obtain ⟨c, hc⟩ := I.ok.has x (.inl hk)
    obtain ⟨w', z⟩ := I.cell x c hc
    refine wpAny_storeName_cell I.ok.kind hk hc z (fun h' hc' hs => ?_)
    obtain ⟨oc, hoc, hocd⟩ := id z
    refine h { s with heap := h' } ⟨I.ok, I.os, I.bare, ⟨fun b o e n hb hx => ?_, fun b o e n hb hx => ?_, I.base.free, fun b o e hx => ?_, I.base.tups, I.base.frzs, I.base.tbls⟩, ⟨m, hn.sameBut hs (Ne.symm (cne x c hc)), fun j y v' e1 e2 e3 => ?_⟩, fun y c' e => ?_, I.free, I.freeC, fun p hp => ?_, tracked ⟨oc, hoc, I.freeC x c hc⟩ hs, by simpa using I.len⟩ ⟨c, hs, .inr hc⟩
    . exact (hs.2 b (Nat.ne_of_lt (Nat.lt_of_lt_of_le (Heap.lt_size e) (I.ok.cab x c hfn hc)))).trans (I.base.keep b o e n hb hx)
    . obtain ⟨sl, e1⟩ := I.base.slot b o e n hb hx
      exact ⟨sl, (hs.2 b (Nat.ne_of_lt (Nat.lt_of_lt_of_le (Heap.lt_size e) (I.ok.cab x c hfn hc)))).trans e1⟩
    . obtain ⟨o', e1⟩ := I.base.there b o e hx
      exact ⟨o', (hs.2 b (Nat.ne_of_lt (Nat.lt_of_lt_of_le (Heap.lt_size e) (I.ok.cab x c hfn hc)))).trans e1⟩
    . by_cases hj : j = i
      . subst hj
        rw [hi] at e1; cases e1
        rw [List.getElem?_set_self hiσ] at e2
        cases e2
        exact ⟨u, r, .inr ⟨.inl hk, c, hc, hc'⟩⟩
      . rw [List.getElem?_set_ne (Ne.symm hj)] at e2
        obtain ⟨u', r', q⟩ := hl j y v' e1 e2 e3
        refine ⟨u', r', ?_⟩
        rcases q with q | ⟨k, c', e, z'⟩
        . exact .inl q
        . refine .inr ⟨k, c', e, z'.sameBut hs ?_⟩
          rintro rfl
          exact hj (yx8 hN e1 (I.ok.inj _ _ _ e hc ▸ hi))
    . by_cases hcc : c' = c
      . subst hcc; exact ⟨_, hc'⟩
      . obtain ⟨w2, z2⟩ := I.cell y c' e
        exact ⟨w2, z2.sameBut hs hcc⟩
    . obtain ⟨e, n, ne, nf, d⟩ := I.pin p hp
      refine ⟨(hs.2 p.1 ?_).trans e, n, ne, nf, d⟩
      intro q
      rw [q, hoc] at e
      have q' : oc = p.2 := Option.some.inj e
      exact d w' (by rw [<- q']; exact hocd)
theorem yx9 {M : Model} {A : Around} {E : Value -> Shared -> Prop} {i : Nat} {x : Str} {v : V} {u : Value} {Q : Unit -> Shared -> Prop} (I : Inv X pins σ H s) (hN : X.N.Nodup) (hi : X.N[i]? = some x) (hx : Loc X.env.scope x) (r : zd2 v u)
    (h : ∀ s', Inv X pins (σ.set i (some v)) H s' -> Q () s') (hf : X.fn x = true \/ X.env.scope.names.lookup x = some .local := by first | exact .inl rfl | exact .inr rfl | assumption) : wpAny M A (storeName X.env x u) Q E s :=
  xl9 I hN hi hx r (fun s' I' _ => h s' I') hf
theorem Inv.call' {s' : Shared} {ch : List Addr} (I : Inv X pins σ H s) (ho : s'.os = s.os) (u : Un (frs X.stack) ch H H' s.heap s'.heap) (hok : HOk X.prog X.w H' s'.heap) (hg : AllBare s'.gens)
    (hch : ∀ b ∈ ch, (b ∈ X.ex \/ X.s₀.heap.objs.size <= b) /\ b ≠ X.env.locals /\ (∀ x c, X.env.cells.lookup x = some c -> c ≠ b) /\ ∀ p ∈ X.pn ++ pins, p.1 ≠ b) : Inv X pins σ H' s' := by
  obtain ⟨h', g', d', t', o'⟩ := s'
  have e : o' = s.os := ho
  subst e
  exact I.call (g' := g') (t' := t') (d' := d') u hok hg hch
end
noncomputable abbrev XK := Value -> Option Addr -> Hp -> Prop
noncomputable abbrev St := List (Option V)
noncomputable abbrev VK := V -> Hp -> Prop
noncomputable abbrev TE := St -> Hp -> VK -> Prop
noncomputable abbrev TT := St -> Hp -> (Bool -> Hp -> Prop) -> Prop
noncomputable abbrev TA := St -> Hp -> (List V -> Hp -> Prop) -> Prop
structure Ends where
  nx : St -> Hp -> Prop
  rt : VK
  bk : St -> Hp -> Prop := fun _ _ => False
  ct : St -> Hp -> Prop := fun _ _ => False
noncomputable abbrev TS := Ends -> St -> Hp -> Prop
noncomputable def EP (X : Cx) (pins : List (Addr × Obj)) (σ : St) (Q : VK) (u : Value) (s' : Shared) : Prop := ∃ v H', Inv X pins σ H' s' /\ zd2 v u /\ Q v H'
noncomputable def TP (X : Cx) (pins : List (Addr × Obj)) (σ : St) (Q : Bool -> Hp -> Prop) (b : Bool) (s' : Shared) : Prop := ∃ H', Inv X pins σ H' s' /\ Q b H'
noncomputable def AP (X : Cx) (pins : List (Addr × Obj)) (σ : St) (Q : List V -> Hp -> Prop) (us : List Value) (s' : Shared) : Prop := ∃ vs H', Inv X pins σ H' s' /\ zc0 vs us /\ Q vs H'
noncomputable def SP (X : Cx) (pins : List (Addr × Obj)) (D : Ends) (f : Flow) (s' : Shared) : Prop :=
  match f with
  | .next => ∃ σ' H', Inv X pins σ' H' s' /\ D.nx σ' H'
  | .brk => ∃ σ' H', Inv X pins σ' H' s' /\ D.bk σ' H'
  | .cont => ∃ σ' H', Inv X pins σ' H' s' /\ D.ct σ' H'
  | .ret u => ∃ v σ' H', Inv X pins σ' H' s' /\ zd2 v u /\ D.rt v H'
noncomputable def PE (X : Cx) (e : Expr) (t : TE) : Prop :=
  ∀ (pins : List (Addr × Obj)) (s : Shared) (σ : St) (H : Hp) (Q : VK), Inv X pins σ H s -> t σ H Q -> wpAny (model X.prog X.w) X.A (eval e X.env) (EP X pins σ Q) X.xe s
noncomputable def PT (X : Cx) (e : Expr) (t : TT) : Prop :=
  ∀ (pins : List (Addr × Obj)) (s : Shared) (σ : St) (H : Hp) (Q : Bool -> Hp -> Prop), Inv X pins σ H s -> t σ H Q -> wpAny (model X.prog X.w) X.A (isTrue e X.env (eval e X.env)) (TP X pins σ Q) X.xe s
noncomputable def PW (X : Cx) (e : Expr) (t : TT) : Prop :=
  ∀ (whole : Sem Value) (pins : List (Addr × Obj)) (s : Shared) (σ : St) (H : Hp) (Q : Bool -> Hp -> Prop), Inv X pins σ H s -> t σ H Q -> wpAny (model X.prog X.w) X.A (isTrue e X.env whole) (TP X pins σ Q) X.xe s
theorem PW.pt {X : Cx} {e : Expr} {t : TT} (h : PW X e t) : PT X e t := h _
noncomputable def PA (X : Cx) (es : List Expr) (t : TA) : Prop :=
  ∀ (pos : Pos) (pins : List (Addr × Obj)) (s : Shared) (σ : St) (H : Hp) (Q : List V -> Hp -> Prop), Inv X pins σ H s -> t σ H Q -> wpAny (model X.prog X.w) X.A (spliced (backTo pos (starEach es X.env))) (AP X pins σ Q) X.xe s
noncomputable def PS (X : Cx) (st : Stmt) (t : TS) : Prop :=
  ∀ (pins : List (Addr × Obj)) (s : Shared) (σ : St) (H : Hp) (D : Ends), Inv X pins σ H s -> t D σ H -> wpAny (model X.prog X.w) X.A (exec st X.env) (SP X pins D) X.xe s
noncomputable def PSs (X : Cx) (st : List Stmt) (t : TS) : Prop :=
  ∀ (pins : List (Addr × Obj)) (s : Shared) (σ : St) (H : Hp) (D : Ends), Inv X pins σ H s -> t D σ H -> wpAny (model X.prog X.w) X.A (execs st X.env) (SP X pins D) X.xe s
theorem thn {α : Type} {t : Sem α} {Q Q' : α -> Shared -> Prop} {M : Model} {A : Around} {E : Value -> Shared -> Prop} {s : Shared} (h : wpAny M A t Q E s) (hQ : ∀ a s, Q a s -> Q' a s) : wpAny M A t Q' E s := wpAny_mono h hQ fun _ _ x => x
end L2
namespace L2
open PySem PySem.Spec PyProof.Rows
section
variable {X : Cx}
theorem bin {a b : Expr} {ta tb : TE} (ha : PE X a ta) (hb : PE X b tb) {pins : List (Addr × Obj)} {s : Shared} {σ : St} {H : Hp} {R : V -> V -> Hp -> Prop} (I : Inv X pins σ H s) (h : ta σ H fun x H1 => tb σ H1 fun y H2 => R x y H2)
    {α : Type} {Q : α -> Shared -> Prop} {f : Value -> Value -> Sem α}
    (hf : ∀ v u s2 x y H2, Inv X pins σ H2 s2 -> zd2 x v -> zd2 y u -> R x y H2 -> wpAny (model X.prog X.w) X.A (f v u) Q X.xe s2) :
    wpAny (model X.prog X.w) X.A (eval a X.env) (fun v s₁ => wpAny (model X.prog X.w) X.A (eval b X.env) (fun u s₂ => wpAny (model X.prog X.w) X.A (f v u) Q X.xe s₂) X.xe s₁) X.xe s := by
  refine thn (ha pins s σ H _ I h) fun v s1 ⟨x, H1, I1, r1, q1⟩ => ?_
  refine thn (hb pins s1 σ H1 _ I1 q1) fun u s2 ⟨y, H2, I2, r2, q2⟩ => ?_
  exact hf v u s2 x y H2 I2 r1 r2 q2
noncomputable def we6 (i : Nat) : TE := fun σ H Q => ∃ v, σ[i]? = some (some v) /\ Q v H
noncomputable def tC (v : V) : TE := fun _ H Q => Q v H
theorem yf8 {i : Nat} {x : Str} {pos : Pos} (hN : X.N[i]? = some x) (hv : Vis X.env.scope x) (hd : (x == ("__debug__" : Str)) = false := by decide) (hcd : (x == ("__classdict__" : Str)) = false := by decide) : PE X (.Name x pos) (we6 i) := by
  intro pins s σ H Q I h
  obtain ⟨v, e, h⟩ := h
  obtain ⟨m, hn, hl⟩ := I.loc
  obtain ⟨u, r, l⟩ := hl i x v hN e hv
  have fin : EP X pins σ Q u s := ⟨v, H, I, r, h⟩
  rcases l with ⟨hk, hm⟩ | ⟨hk, c, hc, hcell⟩
  . exact wpAny_Name (wpAny_loadName_local I.ok.kind hk hn hm fin) hd
  . rcases hk with hk | hk
    . exact wpAny_Name (wpAny_loadName_cell I.ok.kind hk hc hcell fin) hd
    . exact wpAny_Name (wpAny_loadName_free I.ok.kind hk hc hcell fin hcd) hd
theorem zn4 {i j pos} : PE X (.Constant (.int i) j pos) (tC (.int i)) := fun _ _ _ H _ I h => wpAny_Constant_int ⟨.int i, H, I.tok _, ⟨_, rfl⟩, h⟩
theorem wf8 {b j pos} : PE X (.Constant (.bool b) j pos) (tC (.bl b)) := fun _ _ _ H _ I h => Constant_bool ⟨.bl b, H, I, rfl, h⟩
theorem wa2 {j pos} : PE X (.Constant .none j pos) (tC .non) := fun _ _ _ H _ I h => Constant_none ⟨.non, H, I, rfl, h⟩
theorem wa3 {x j pos} : PE X (.Constant (.str x) j pos) (tC (.str x)) := fun _ _ _ H _ I h => Calls.Constant_str ⟨.str x, H, I.tok _, ⟨_, rfl⟩, h⟩
noncomputable def Gl (X : Cx) (x : Str) : Prop := X.env.kindOf x = some .globalImplicit
theorem zy6 {E : Value -> Shared -> Prop} {pins : List (Addr × Obj)} {s : Shared} {σ : St} {H : Hp} {x : Str} {u : Value} {pos : Pos} {Q : Value -> Shared -> Prop} (I : Inv X pins σ H s) (hg : Gl X x) (hm : X.mg x = some u) (h : Q u s)
    (hd : (x == ("__debug__" : Str)) = false := by decide) : wpAny (model X.prog X.w) X.A (eval (.Name x pos) X.env) Q E s :=
  Calls.Name_function_global I.ok.kind hg (Calls.loadGlobal_global (by rw [I.ok.glob]; exact I.mod.glob.keeps I.bk) hm h) hd
theorem yn2 {E : Value -> Shared -> Prop} {pins : List (Addr × Obj)} {s : Shared} {σ : St} {H : Hp} {x : Str} {u : Value} {pos : Pos} {Q : Value -> Shared -> Prop} (I : Inv X pins σ H s) (hg : Gl X x) (hm : X.mg x = none) (hv : bootBuiltins x = some u) (h : Q u s)
    (hn : x ≠ "__name__" := by decide) (hd : (x == ("__debug__" : Str)) = false := by decide) : wpAny (model X.prog X.w) X.A (eval (.Name x pos) X.env) Q E s := by
  obtain ⟨mb, h1, h2⟩ := I.mod.blt
  exact Calls.Name_function_global I.ok.kind hg (Calls.loadGlobal_builtin (by rw [I.ok.glob]; exact I.mod.glob.keeps I.bk) hm (by rw [I.ok.blt]; exact h1.keeps I.bk) ((h2 x hn).trans hv) h) hd
theorem xw6 {x : Str} {v : V} {u : Value} {pos : Pos} (hg : Gl X x) (hm : X.mg x = some u) (r : zd2 v u) (hd : (x == ("__debug__" : Str)) = false := by decide) : PE X (.Name x pos) (tC v) :=
  fun _ _ _ H _ I h => zy6 I hg hm ⟨v, H, I, r, h⟩ hd
theorem xw7 {x : Str} {v : V} {u : Value} {pos : Pos} (hg : Gl X x) (hm : X.mg x = none) (hv : bootBuiltins x = some u) (r : zd2 v u) (hn : x ≠ "__name__" := by decide) (hd : (x == ("__debug__" : Str)) = false := by decide) : PE X (.Name x pos) (tC v) :=
  fun _ _ _ H _ I h => yn2 I hg hm hv ⟨v, H, I, r, h⟩ hn hd
variable {a b : Expr} {ta tb : TE} {pos : Pos}
variable {tA tB' : TT} {zb1 : List Expr}
noncomputable def wj0 (t u : TT) : TT := fun σ H Q => t σ H fun c H1 => if c = true then u σ H1 Q else Q false H1
noncomputable def tOr (t u : TT) : TT := fun σ H Q => t σ H fun c H1 => if c = true then Q true H1 else u σ H1 Q
noncomputable def wj1 (t : TT) : TT := fun σ H Q => t σ H fun c H1 => Q (!c) H1
theorem xw8 (ha : PT X a tA) : PW X (.BoolOp .And [a] pos) tA := by
  intro wh pins s σ H Q I h
  refine isTrue_and (thn (ha pins s σ H Q I h) fun c s1 e => ?_)
  cases c with
  | true => exact isTrue_and_nil e
  | false => exact e
theorem wa4 (ha : PT X a tA) : PW X (.BoolOp .Or [a] pos) tA := by
  intro wh pins s σ H Q I h
  refine isTrue_or (thn (ha pins s σ H Q I h) fun c s1 e => ?_)
  cases c with
  | false => exact isTrue_or_nil e
  | true => exact e
theorem wa5 (ha : PT X a tA) (hb : PW X (.BoolOp .And (b :: zb1) pos) tB') : PW X (.BoolOp .And (a :: b :: zb1) pos) (wj0 tA tB') := by
  intro wh pins s σ H Q I h
  refine isTrue_and (thn (ha pins s σ H _ I h) fun c s1 ⟨H1, I1, q1⟩ => ?_)
  cases c with
  | true => exact hb wh pins s1 σ H1 Q I1 q1
  | false => exact ⟨H1, I1, q1⟩
theorem wf9 (ha : PT X a tA) (hb : PW X (.BoolOp .Or (b :: zb1) pos) tB') : PW X (.BoolOp .Or (a :: b :: zb1) pos) (tOr tA tB') := by
  intro wh pins s σ H Q I h
  refine isTrue_or (thn (ha pins s σ H _ I h) fun c s1 ⟨H1, I1, q1⟩ => ?_)
  cases c with
  | true => exact ⟨H1, I1, q1⟩
  | false => exact hb wh pins s1 σ H1 Q I1 q1
theorem wa6 (ha : PT X a tA) : PT X (.UnaryOp .Not a pos) (wj1 tA) := by
  intro pins s σ H Q I h
  exact isTrue_not (ha pins s σ H (fun c H1 => Q (!c) H1) I h)
noncomputable def wh1 (ta tb : TE) : TE := fun σ H Q => ta σ H fun x H1 => ∃ c, x = .bl c /\ if c = true then tb σ H1 Q else Q (.bl false) H1
noncomputable def wj2 (ta tb : TE) : TE := fun σ H Q => ta σ H fun x H1 => ∃ c, x = .bl c /\ if c = true then Q (.bl true) H1 else tb σ H1 Q
theorem wa7 {op} {t : TE} (h : PE X a t) : PE X (.BoolOp op [a] pos) t := fun pins s σ H Q I hw => BoolOp_one (h pins s σ H Q I hw)
theorem wa8 (ha : PE X a ta) (hb : PE X (.BoolOp .And (b :: zb1) pos) tb) : PE X (.BoolOp .And (a :: b :: zb1) pos) (wh1 ta tb) := by
  intro pins s σ H Q I h
  refine BoolOp_and (thn (ha pins s σ H _ I h) fun v s1 ⟨x, H1, I1, r1, q1⟩ => ?_)
  obtain ⟨c, rfl, q1⟩ := q1
  cases r1
  refine wpAny_truthy_bool ?_
  cases c with
  | true => exact hb pins s1 σ H1 Q I1 q1
  | false => exact ⟨.bl false, H1, I1, rfl, q1⟩
theorem wg0 (ha : PE X a ta) (hb : PE X (.BoolOp .Or (b :: zb1) pos) tb) : PE X (.BoolOp .Or (a :: b :: zb1) pos) (wj2 ta tb) := by
  intro pins s σ H Q I h
  refine BoolOp_or (thn (ha pins s σ H _ I h) fun v s1 ⟨x, H1, I1, r1, q1⟩ => ?_)
  obtain ⟨c, rfl, q1⟩ := q1
  cases r1
  refine wpAny_truthy_bool ?_
  cases c with
  | false => exact hb pins s1 σ H1 Q I1 q1
  | true => exact ⟨.bl true, H1, I1, rfl, q1⟩
end
end L2
namespace L2
open PySem PySem.Spec PyProof.Rows
noncomputable def SqL (K : PySem.W.Frag) (H : Hp) (a : Addr) (xs : List V) : Prop :=
  Rd H a (.lst xs) \/
    ∃ (o : Obj) (its : Array Value) (n : Nat), K.lookup a = some o /\ o.cls = .type "list" /\ o.dict = none /\ o.data = .seq its n /\ its.size <= sizeLine /\ zc0 xs its.toList
noncomputable def SqT (K : PySem.W.Frag) (H : Hp) (a : Addr) (xs : List V) : Prop :=
  Rd H a (.tup xs) \/
    ∃ (o : Obj) (its : Array Value) (n : Nat), K.lookup a = some o /\ o.cls = .type "tuple" /\ o.data = .seq its n /\ its.size <= sizeLine /\ zc0 xs its.toList
noncomputable def wj3 : Value -> Option V
  | .none => some .non
  | .bool b => some (.bl b)
  | .int i _ => some (.int i)
  | .str x _ => some (.str x)
  | .bytes b _ => some (.byt b)
  | .float b _ => some (.flt b)
  | .ref a => some (.ref a)
  | .type n => some (.ty n)
  | _ => none
theorem zd2.abs {x : V} {u : Value} (r : zd2 x u) : wj3 u = some x := by
  cases x with
  | non => cases r; rfl
  | bl _ => cases r; rfl
  | int _ => obtain ⟨t, rfl⟩ := r; rfl
  | str _ => obtain ⟨t, rfl⟩ := r; rfl
  | byt _ => obtain ⟨t, rfl⟩ := r; rfl
  | flt _ => obtain ⟨t, rfl⟩ := r; rfl
  | ref _ => cases r; rfl
  | ty _ => cases r; rfl
theorem zd2.inj {x y : V} {u : Value} (r : zd2 x u) (q : zd2 y u) : x = y := Option.some.inj (r.abs.symm.trans q.abs)
theorem zc0.inj : ∀ {xs ys : List V} {us : List Value}, zc0 xs us -> zc0 ys us -> xs = ys
  | _, _, _, .nil, .nil => rfl
  | _, _, _, .cons r t, .cons r' t' => by rw [r.inj r', zc0.inj t t']
section
variable {X : Cx} {pins : List (Addr × Obj)} {σ : St} {H : Hp} {s : Shared} {a : Addr} {xs ys : List V}
theorem SqL.of {K : PySem.W.Frag} (h : H a = some (.lst xs)) : SqL K H a xs := .inl (.inl h)
theorem SqT.of {K : PySem.W.Frag} (h : H a = some (.tup xs)) : SqT K H a xs := .inl (.inl h)
theorem Inv.list (I : Inv X pins σ H s) (h : SqL X.K H a xs) : ∃ its : List Value, zc0 xs its /\ PlainL s.heap a its.toArray /\ xs.length <= sizeLine := by
  rcases h with h | ⟨o, its, n, hk, hc, hd, hs, hz, r⟩
  . obtain ⟨z, its, n, r, e⟩ := h.ok I.hok
    exact ⟨its, r, ⟨_, n, e, rfl, rfl, rfl⟩, z⟩
  . refine ⟨its.toList, r, ⟨o, n, I.kIn a o hk, hc, hd, by simpa using hs⟩, ?_⟩
    have e := r.length
    simp only [Array.length_toList] at e
    omega
theorem Inv.tuple (I : Inv X pins σ H s) (h : SqT X.K H a xs) : ∃ its : List Value, zc0 xs its /\ IsTup s.heap a its.toArray /\ xs.length <= sizeLine := by
  rcases h with h | ⟨o, its, n, hk, hc, hs, hz, r⟩
  . obtain ⟨z, its, r, p⟩ := h.ok I.hok
    exact ⟨its, r, p, z⟩
  . refine ⟨its.toList, r, ⟨o, I.kIn a o hk, hc, n, by simpa using hs⟩, ?_⟩
    have e := r.length
    simp only [Array.length_toList] at e
    omega
theorem Inv.list_inj (I : Inv X pins σ H s) (h : SqL X.K H a xs) (h' : SqL X.K H a ys) : xs = ys := by
  obtain ⟨its, r, ⟨o, n, e, _, _, d⟩, _⟩ := I.list h
  obtain ⟨its', r', ⟨o', n', e', _, _, d'⟩, _⟩ := I.list h'
  rw [e] at e'; cases e'
  rw [d] at d'
  injection d' with d1 _
  have : its = its' := by simpa using congrArg Array.toList d1
  subst this
  exact r.inj r'
theorem Inv.tuple_inj (I : Inv X pins σ H s) (h : SqT X.K H a xs) (h' : SqT X.K H a ys) : xs = ys := by
  obtain ⟨its, r, ⟨o, e, _, n, d⟩, _⟩ := I.tuple h
  obtain ⟨its', r', ⟨o', e', _, n', d'⟩, _⟩ := I.tuple h'
  rw [e] at e'; cases e'
  rw [d] at d'
  injection d' with d1 _
  have : its = its' := by simpa using congrArg Array.toList d1
  subst this
  exact r.inj r'
end
noncomputable abbrev Cx.wish (X : Cx) (E : Value -> Shared -> Prop) : Cx := { X with xe := E }
noncomputable abbrev Cx.nox (X : Cx) : Cx := X.wish fun _ _ => False
theorem Cx.Ok.wish {X : Cx} (ok : X.Ok) (E : Value -> Shared -> Prop) : (X.wish E).Ok :=
  ⟨ok.mod, ok.kind, ok.glob, ok.blt, ok.above, ok.inj, ok.has, ok.cab, ok.hd, ok.frames, ok.stk, ok.exf, ok.bs, ok.bsz, ok.noex, ok.exfs, ok.funs, ok.frf⟩
theorem Cx.Ok.unwish {X : Cx} {E : Value -> Shared -> Prop} (ok : (X.wish E).Ok) : X.Ok :=
  ⟨ok.mod, ok.kind, ok.glob, ok.blt, ok.above, ok.inj, ok.has, ok.cab, ok.hd, ok.frames, ok.stk, ok.exf, ok.bs, ok.bsz, ok.noex, ok.exfs, ok.funs, ok.frf⟩
section
variable {X : Cx} {pins : List (Addr × Obj)} {σ : St} {H : Hp} {s : Shared} {E : Value -> Shared -> Prop}
theorem Inv.wish (I : Inv X pins σ H s) (E : Value -> Shared -> Prop) : Inv (X.wish E) pins σ H s := ⟨I.ok.wish E, I.os, I.bare, I.base, I.loc, I.cell, I.free, I.freeC, I.pin, I.hok, I.len⟩
theorem Inv.unwish (I : Inv (X.wish E) pins σ H s) : Inv X pins σ H s := ⟨I.ok.unwish, I.os, I.bare, I.base, I.loc, I.cell, I.free, I.freeC, I.pin, I.hok, I.len⟩
theorem SP.unwish {D : Ends} {f : Flow} {s' : Shared} (h : SP (X.wish E) pins D f s') : SP X pins D f s' := by
  cases f with
  | next => obtain ⟨σ', H', I, q⟩ := h; exact ⟨σ', H', I.unwish, q⟩
  | brk => obtain ⟨σ', H', I, q⟩ := h; exact ⟨σ', H', I.unwish, q⟩
  | cont => obtain ⟨σ', H', I, q⟩ := h; exact ⟨σ', H', I.unwish, q⟩
  | ret u => obtain ⟨v, σ', H', I, r, q⟩ := h; exact ⟨v, σ', H', I.unwish, r, q⟩
theorem PE.nox {e : Expr} {t : TE} (h : PE X.nox e t) : PE X e t := fun pins s σ H Q I hw =>
  wpAny_mono (h pins s σ H Q (I.wish _) hw) (fun _ _ ⟨v, H', I', r, q⟩ => ⟨v, H', I'.unwish, r, q⟩) fun _ _ z => False.elim z
theorem PT.nox {e : Expr} {t : TT} (h : PT X.nox e t) : PT X e t := fun pins s σ H Q I hw =>
  wpAny_mono (h pins s σ H Q (I.wish _) hw) (fun _ _ ⟨H', I', q⟩ => ⟨H', I'.unwish, q⟩) fun _ _ z => False.elim z
theorem PSs.nox {st : List Stmt} {t : TS} (h : PSs X.nox st t) : PSs X st t := fun pins s σ H D I hw =>
  wpAny_mono (h pins s σ H D (I.wish _) hw) (fun _ _ q => q.unwish) fun _ _ z => False.elim z
end
section
variable {X : Cx} {st : Stmt} {zb1 : List Stmt} {t u : TS} {e : Expr} {te : TE} {pos : Pos}
noncomputable def wh2 : TS := fun D σ H => D.nx σ H
noncomputable def wj4 (t u : TS) : TS := fun D σ H => t { D with nx := u D } σ H
theorem xe4 : PSs X [] wh2 := fun _ _ σ H _ I h => wpAny_execs_nil ⟨σ, H, I, h⟩
theorem zp4 (h1 : PS X st t) (h2 : PSs X zb1 u) : PSs X (st :: zb1) (wj4 t u) := by
  intro pins s σ H D I h
  refine wpAny_execs_cons (thn (h1 pins s σ H { D with nx := u D } I h) fun f s1 q => ?_)
  cases f with
  | next =>
    obtain ⟨σ', H', I', q⟩ := q
    exact h2 pins s1 σ' H' D I' q
  | ret v => exact q
  | brk => exact q
  | cont => exact q
theorem yi1 (h1 : PS X st t) : PSs X [st] t := by
  intro pins s σ H D I h
  refine wpAny_execs_cons (thn (h1 pins s σ H D I h) fun f s1 q => ?_)
  cases f with
  | next => exact wpAny_execs_nil q
  | ret v => exact q
  | brk => exact q
  | cont => exact q
theorem Inv.quiet {pins : List (Addr × Obj)} {σ : St} {H : Hp} {s : Shared} (I : Inv X pins σ H s) : interactive X.env = false := by simp [interactive, I.ok.kind]
noncomputable def wh3 (te : TE) : TS := fun D σ H => te σ H fun _ H1 => D.nx σ H1
theorem xw9 (he : PE X e te) (hs : swapsWith e none pos.line X.env = pure false := by rfl) : PS X (.Expr e pos) (wh3 te) := by
  intro pins s σ H D I h
  exact wpAny_Expr_any (thn (he pins s σ H _ I h) fun v s1 ⟨x, H1, I1, r1, q1⟩ => ⟨σ, H1, I1, q1⟩) I.quiet hs
noncomputable def wj5 (te : TE) : TS := fun D σ H => te σ H D.rt
theorem yc1 (he : PE X e te) : PS X (.Return (some e) pos) (wj5 te) := by
  intro pins s σ H D I h
  exact wpAny_Return_some (thn (he pins s σ H _ I h) fun v s1 ⟨x, H1, I1, r1, q1⟩ => ⟨x, σ, H1, I1, r1, q1⟩)
noncomputable def wj6 (c : TT) (t u : TS) : TS := fun D σ H => c σ H fun b H1 => if b = true then t D σ H1 else u D σ H1
theorem xg8 {c : Expr} {a b : List Stmt} {tc : TT} (hc : PT X c tc) (ha : PSs X a t) (hb : PSs X b u) : PS X (.If c a b pos) (wj6 tc t u) := by
  intro pins s σ H D I h
  refine wpAny_If (thn (hc pins s σ H _ I h) fun d s1 ⟨H1, I1, q1⟩ => ?_)
  cases d with
  | true => exact ha pins s1 σ H1 D I1 q1
  | false => exact hb pins s1 σ H1 D I1 q1
noncomputable def we7 : TS := fun _ _ _ => False
theorem xq6 : PS X st we7 := fun _ _ _ _ _ _ h => h.elim
end
noncomputable abbrev TG := V -> St -> Hp -> (St -> Hp -> Prop) -> Prop
noncomputable def PG (X : Cx) (target : Expr) (t : TG) : Prop :=
  ∀ (pins : List (Addr × Obj)) (s : Shared) (σ : St) (H : Hp) (v : V) (u : Value) (Q : St -> Hp -> Prop), Inv X pins σ H s -> zd2 v u -> t v σ H Q ->
    wpAny (model X.prog X.w) X.A (assign target X.env u) (fun _ s' => ∃ σ' H', Inv X pins σ' H' s' /\ Q σ' H') X.xe s
noncomputable abbrev xu5 := V -> V -> V -> Hp -> (Hp -> Prop) -> Prop
noncomputable def we8 (X : Cx) (t : xu5) : Prop :=
  ∀ (pins : List (Addr × Obj)) (s : Shared) (σ : St) (H : Hp) (o i v : V) (ov iv u : Value) (Q : Hp -> Prop), Inv X pins σ H s -> zd2 o ov -> zd2 i iv -> zd2 v u -> t o i v H Q ->
    wpAny (model X.prog X.w) X.A (setItem ov iv u) (fun _ s' => ∃ H', Inv X pins σ H' s' /\ Q H') X.xe s
section
variable {X : Cx} {pos : Pos}
noncomputable def yb1 (i : Nat) : TG := fun v σ H Q => Q (σ.set i (some v)) H
theorem zy7 {i : Nat} {x : Str} (hN : X.N.Nodup) (hi : X.N[i]? = some x) (hx : Loc X.env.scope x) (hf : X.fn x = true \/ X.env.scope.names.lookup x = some .local := by first | exact .inl rfl | exact .inr rfl | assumption) : PG X (.Name x pos) (yb1 i) := by
  intro pins s σ H v u Q I r h
  exact wpAny_assign_Name (yx9 I hN hi hx r (fun s' I' => ⟨_, H, I', h⟩) hf)
noncomputable def wj7 (to ti : TE) (t : xu5) : TG := fun v σ H Q => to σ H fun o H1 => ti σ H1 fun i H2 => t o i v H2 fun H3 => Q σ H3
theorem wa9 {o i : Expr} {to ti : TE} {t : xu5} (ho : PE X o to) (hi : PE X i ti) (hs : we8 X t)
    (ha : ∀ v, assign (.Subscript o i pos) X.env v = (do
      let ov <- holding [v] (eval o X.env)
      let iv <- holding [v, ov] (eval i X.env)
      standAt pos
      holding [v, ov, iv] (setItem ov iv v)
      release [v, ov, iv] []) := by intro _; rfl) : PG X (.Subscript o i pos) (wj7 to ti t) := by
  intro pins s σ H v u Q I r h
  rw [ha]
  refine wpAny_bind (wpAny_holding (thn (ho pins s σ H _ I h) fun ov s1 ⟨x, H1, I1, r1, q1⟩ => ?_))
  refine wpAny_bind (wpAny_holding (thn (hi pins s1 σ H1 _ I1 q1) fun iv s2 ⟨y, H2, I2, r2, q2⟩ => ?_))
  refine wpAny_bind (wpAny_standAt (wpAny_bind (wpAny_holding (thn (hs pins s2 σ H2 x y v ov iv u _ I2 r1 r2 r q2) fun _ s3 ⟨H3, I3, q3⟩ => ?_))))
  exact wpAny_release ⟨σ, H3, I3, q3⟩
noncomputable def we9 (te : TE) (g : TG) : TS := fun D σ H => te σ H fun x H1 => g x σ H1 D.nx
theorem wb0 {tg e : Expr} {te : TE} {g : TG} (he : PE X e te) (hg : PG X tg g) (hs : swapsWithSole [tg] e pos.line X.env = pure false := by rfl) (hw : swappedStores [tg] e X.env = pure none := by rfl)
    (h1 : (assignEach [tg] X.env).map (·.2) = [assign tg X.env] := by rfl) : PS X (.Assign [tg] e pos) (we9 te g) := by
  intro pins s σ H D I h
  refine wpAny_Assign_stores (thn (he pins s σ H _ I h) fun v s1 ⟨x, H1, I1, r1, q1⟩ => ?_) hs hw
  rw [h1]
  exact thn (hg pins s1 σ H1 x v _ I1 r1 q1) fun _ s2 q => q
theorem yc2 {i : Nat} {x : Str} {e : Expr} {te : TE} {pos' : Pos} (hN : X.N.Nodup) (hi : X.N[i]? = some x) (hx : Loc X.env.scope x) (he : PE X e te) (hs : swapsWith e (some (.Name x pos')) pos.line X.env = pure false := by rfl) (hf : X.fn x = true \/ X.env.scope.names.lookup x = some .local := by first | exact .inl rfl | exact .inr rfl | assumption) :
    PS X (.Assign [.Name x pos'] e pos) (we9 te (yb1 i)) := by
  intro pins s σ H D I h
  refine wpAny_Assign_Name (thn (he pins s σ H _ I h) fun v s1 ⟨y, H1, I1, r1, q1⟩ => ?_) hs
  exact yx9 I1 hN hi hx r1 (fun s2 I2 => ⟨_, H1, I2, q1⟩) hf
end
section
variable {X : Cx} {pos : Pos}
noncomputable def wf0 (c : TT) (tb : TS) : TS := fun D σ H => ∃ W : Nat -> St -> Hp -> Prop, (∃ m, W m σ H) /\ ∀ m σ H, W m σ H ->
  c σ H fun b H1 => if b = true then ∃ N : St -> Hp -> Prop, (∀ σ' H', N σ' H' -> ∃ m', m' < m /\ W m' σ' H') /\ tb { D with nx := N, ct := N, bk := D.nx } σ H1 else D.nx σ H1
theorem xq7 {c : Expr} {body : List Stmt} {tc : TT} {tb : TS} (hp : PassesOwn (model X.prog X.w) X.A X.env X.xe) (hc : PT X c tc) (hb : PSs X body tb) : PS X (.While c body [] pos) (wf0 tc tb) := by
  intro pins s σ H D I h
  obtain ⟨W, ⟨m0, w0⟩, turn⟩ := h
  refine wpAny_While (codeAny_whileLoop (fun n s' => ∃ σ' H', Inv X pins σ' H' s' /\ W n σ' H') ?_ m0 ⟨σ, H, I, w0⟩)
  rintro n s1 ⟨σ1, H1, I1, w1⟩
  refine wpAny_passesOwn hp (thn (hc pins s1 σ1 H1 _ I1 (turn n σ1 H1 w1)) fun b s2 ⟨H2, I2, q2⟩ => ?_)
  cases b with
  | true =>
    obtain ⟨N, hN, q2⟩ := q2
    rw [if_pos rfl]
    refine wpAny_passesOwn hp (thn (hb pins s2 σ1 H2 _ I2 q2) fun f s3 q3 => ?_)
    cases f with
    | next =>
      obtain ⟨σ3, H3, I3, n3⟩ := q3
      obtain ⟨m', hm, w3⟩ := hN σ3 H3 n3
      exact ⟨m', hm, σ3, H3, I3, w3⟩
    | cont =>
      obtain ⟨σ3, H3, I3, n3⟩ := q3
      obtain ⟨m', hm, w3⟩ := hN σ3 H3 n3
      exact ⟨m', hm, σ3, H3, I3, w3⟩
    | brk => exact q3
    | ret v => exact q3
  | false =>
    rw [if_neg Bool.false_ne_true]
    exact wpAny_execs_nil ⟨σ1, H2, I2, q2⟩
end
structure It where
  go : Nat -> Hp -> Prop
  yld : Nat -> Hp -> V -> Hp -> Prop
  stop : Nat -> Hp -> Prop
noncomputable def zz8 (X : Cx) (pins : List (Addr × Obj)) (H : Hp) (b : Addr) : Prop :=
  H b = none /\ b ≠ X.env.locals /\ b ∉ X.fs /\ (b ∈ X.ex \/ X.s₀.heap.objs.size <= b) /\ (∀ x c, X.env.cells.lookup x = some c -> c ≠ b) /\ ∀ p ∈ X.pn ++ pins, p.1 ≠ b
theorem Inv.fpOk {X : Cx} {pins : List (Addr × Obj)} {σ : St} {H H' : Hp} {s : Shared} {b : Addr} (I : Inv X pins σ H s) (hb : s.heap.objs.size <= b) (hn : H' b = none) : zz8 X pins H' b := by
  refine ⟨hn, Nat.ne_of_gt (Nat.lt_of_lt_of_le I.lt hb), I.nofs hb, .inr (Nat.le_trans I.sz hb), fun x c e z => ?_, fun p hp z => ?_⟩
  . obtain ⟨v, q⟩ := I.cell x c e
    exact absurd (Nat.lt_of_lt_of_le q.lt (by rw [z]; exact hb)) (Nat.lt_irrefl _)
  . exact absurd (Nat.lt_of_lt_of_le (Heap.lt_size (I.pin p hp).1) (by rw [z]; exact hb)) (Nat.lt_irrefl _)
structure Turn (P : Program) (w : World) (K : PySem.W.Frag) (tg : Expr) (J : It) (fp : List Addr) (it : Addr) (tn : Nat -> Heap -> Prop) : Prop where
  mem : it ∈ fp
  obj : ∀ i h, tn i h -> ∀ b ∈ fp, ∃ o, h.get? b = some o /\ ∀ v, o.data ≠ .cell v
  keep : ∀ i h h', tn i h -> (∀ b ∈ fp, ∀ o, h.get? b = some o -> h'.get? b = some o) -> tn i h'
  item : ∀ (X : Cx), X.prog = P -> X.w = w -> X.K = K -> X.calm = true -> ∀ (i : Nat) (pins : List (Addr × Obj)) (s : Shared) (σ : St) (H : Hp) (E : Value -> Shared -> Prop), Inv X pins σ H s -> (∀ b ∈ fp, zz8 X pins H b) -> tn i s.heap -> J.go i H ->
    wpAny (model P w) X.A (pyNext (.ref it)) (fun r s1 => ∃ u, r = some u /\
      wpAny (model P w) X.A (letOwnedTupleGo tg (.ref it) u) (fun _ s2 => ∃ x H', Inv X pins σ H' s2 /\ zd2 x u /\ J.yld i H x H' /\ tn (i + 1) s2.heap /\ ∀ b ∈ fp, H' b = none) E s1) E s
  done : ∀ (X : Cx), X.prog = P -> X.w = w -> X.K = K -> X.calm = true -> ∀ (i : Nat) (pins : List (Addr × Obj)) (s : Shared) (σ : St) (H : Hp) (E : Value -> Shared -> Prop), Inv X pins σ H s -> (∀ b ∈ fp, zz8 X pins H b) -> tn i s.heap -> J.stop i H ->
    wpAny (model P w) X.A (pyNext (.ref it)) (fun r s1 => r = none /\ Inv X pins σ H s1) E s
  self : ∀ (A : Around) (i : Nat) (s : Shared) (Q : Value -> Shared -> Prop) (E : Value -> Shared -> Prop), tn i s.heap -> Q (.ref it) s -> wpAny (model P w) A (pyIter (.ref it)) Q E s
noncomputable abbrev TI := St -> Hp -> (It -> Hp -> Prop) -> Prop
noncomputable def PIE (X : Cx) (pins : List (Addr × Obj)) (σ : St) (tg : Expr) (R : It -> Hp -> Prop) (itv : Value) (s2 : Shared) : Prop :=
  ∃ (it : Addr) (fp : List Addr) (tn : Nat -> Heap -> Prop) (J : It) (H' : Hp), itv = .ref it /\ Inv X pins σ H' s2 /\ Turn X.prog X.w X.K tg J fp it tn /\ tn 0 s2.heap /\ (∀ b ∈ fp, zz8 X pins H' b) /\ R J H'
noncomputable def PI (X : Cx) (tg iter : Expr) (wi : TI) : Prop :=
  ∀ (pins : List (Addr × Obj)) (s : Shared) (σ : St) (H : Hp) (R : It -> Hp -> Prop), Inv X pins σ H s -> wi σ H R ->
    wpAny (model X.prog X.w) X.A (eval iter X.env) (fun v s1 => wpAny (model X.prog X.w) X.A (pyIter v) (PIE X pins σ tg R) X.xe s1) X.xe s
theorem xg9 {M : Model} {A : Around} {E : Value -> Shared -> Prop} {s : Shared} {tg : Expr} {it : Addr} {u : Value} {o : Obj} {n : String} {vs : Array Value} {Q : Unit -> Shared -> Prop} (ho : s.heap.get? it = some o) (hc : o.cls = .type n) (hd : o.data = .fields vs)
    (hn : ["enumerate", "zip", "dict_itemiterator", "dict_reverseitemiterator", "odict_iterator", "itertools.zip_longest", "itertools.pairwise"].contains n = false) (hQ : Q () s) : wpAny M A (letOwnedTupleGo tg (.ref it) u) Q E s := by
  unfold letOwnedTupleGo
  cases tg <;> first
    | exact wpAny_pure hQ
    | (cases u <;> first
        | exact wpAny_pure hQ
        | (refine wpAny_bind (wpAny_load ho ?_)
           rw [hc, hd]
           show wpAny M A (if (["enumerate", "zip", "dict_itemiterator", "dict_reverseitemiterator", "odict_iterator", "itertools.zip_longest", "itertools.pairwise"].contains n && vs[0]? == some (rawInt _)) = true then _ else _) Q E s
           rw [if_neg (by intro h; rw [hn, Bool.false_and] at h; cases h)]
           exact wpAny_pure hQ))
noncomputable def Itl (K : PySem.W.Frag) (a : Addr) : It :=
  ⟨fun i H => ∃ xs x, SqL K H a xs /\ xs[i]? = some x, fun i H x H' => H' = H /\ ∀ xs, SqL K H a xs -> xs[i]? = some x, fun i H => ∃ xs, SqL K H a xs /\ xs.length <= i⟩
noncomputable def Itt (K : PySem.W.Frag) (a : Addr) : It :=
  ⟨fun i H => ∃ xs x, SqT K H a xs /\ xs[i]? = some x, fun i H x H' => H' = H /\ ∀ xs, SqT K H a xs -> xs[i]? = some x, fun i H => ∃ xs, SqT K H a xs /\ xs.length <= i⟩
noncomputable def Itr (lo : Int) (n : Nat) : It := ⟨fun i _ => i < n, fun i H x H' => H' = H /\ x = .int (lo + i), fun i _ => n <= i⟩
theorem xm0 {P : Program} {w : World} {K : PySem.W.Frag} {tg : Expr} (a it : Addr) : Turn P w K tg (Itl K a) [it] it (fun i h => h.IsListIter it a i) where
  mem := by simp
  obj := fun i h st b hb => by
    have e : b = it := by simpa using hb
    subst e
    obtain ⟨o, e, c, d⟩ := st
    exact ⟨o, e, fun v z => by rw [d] at z; cases z⟩
  keep := fun i h h' st k => st.at fun o e => k it (by simp) o e
  item := by
    intro X hP hw hK hc i pins s σ H E I hf st hg
    subst hP hw hK
    obtain ⟨xs, x, hq, hx⟩ := hg
    obtain ⟨its, rv, p, hz⟩ := I.list hq
    obtain ⟨u, hu, ru⟩ := rv.get hx
    obtain ⟨f0, f1, f2, f3, f4, f5⟩ := hf it (by simp)
    refine wpAny_pyNext_list_item st p.isList (x := u) (by simpa using hu) fun h' st' sb => ?_
    have I1 : Inv X pins σ H { s with heap := h' } := I.turned (t' := s.toks) (fun b o hb e => (sb.2 b hb).trans e) f0 f1 f3 f4 f5
    obtain ⟨o, e, c, d⟩ := id st'
    exact ⟨u, rfl, xg9 (s := { s with heap := h' }) e c d (by decide) ⟨x, H, I1, ru, ⟨rfl, fun ys hy => by rw [I.list_inj hy hq]; exact hx⟩, st', fun b hb => (hf b hb).1⟩⟩
  done := by
    intro X hP hw hK hc i pins s σ H E I hf st hg
    subst hP hw hK
    obtain ⟨xs, hq, hx⟩ := hg
    obtain ⟨its, rv, p, hz⟩ := I.list hq
    obtain ⟨f0, f1, f2, f3, f4, f5⟩ := hf it (by simp)
    have hl := rv.length
    exact wpAny_pyNext_list_end (I.ok.hd hc) st p.isList (by simp; omega) fun h' eb => ⟨rfl, I.turned (t' := s.toks) (fun b o hb e => eb b o hb e) f0 f1 f3 f4 f5⟩
  self := fun _ _ _ _ _ st h => wpAny_pyIter_listiter st h
theorem xh0 {P : Program} {w : World} {K : PySem.W.Frag} {tg : Expr} (a it : Addr) : Turn P w K tg (Itt K a) [it] it (fun i h => h.IsTupleIter it a i) where
  mem := by simp
  obj := fun i h st b hb => by
    have e : b = it := by simpa using hb
    subst e
    obtain ⟨o, e, c, d⟩ := st
    exact ⟨o, e, fun v z => by rw [d] at z; cases z⟩
  keep := fun i h h' st k => st.at fun o e => k it (by simp) o e
  item := by
    intro X hP hw hK hc i pins s σ H E I hf st hg
    subst hP hw hK
    obtain ⟨xs, x, hq, hx⟩ := hg
    obtain ⟨its, rv, p, hz⟩ := I.tuple hq
    obtain ⟨u, hu, ru⟩ := rv.get hx
    obtain ⟨f0, f1, f2, f3, f4, f5⟩ := hf it (by simp)
    refine wpAny_pyNext_tuple_item st (show s.heap.IsTuple a its.toArray from p) (x := u) (by simpa using hu) fun h' st' sb => ?_
    have I1 : Inv X pins σ H { s with heap := h' } := I.turned (t' := s.toks) (fun b o hb e => (sb.2 b hb).trans e) f0 f1 f3 f4 f5
    obtain ⟨o, e, c, d⟩ := id st'
    exact ⟨u, rfl, xg9 (s := { s with heap := h' }) e c d (by decide) ⟨x, H, I1, ru, ⟨rfl, fun ys hy => by rw [I.tuple_inj hy hq]; exact hx⟩, st', fun b hb => (hf b hb).1⟩⟩
  done := by
    intro X hP hw hK hc i pins s σ H E I hf st hg
    subst hP hw hK
    obtain ⟨xs, hq, hx⟩ := hg
    obtain ⟨its, rv, p, hz⟩ := I.tuple hq
    obtain ⟨f0, f1, f2, f3, f4, f5⟩ := hf it (by simp)
    have hl := rv.length
    exact wpAny_pyNext_tuple_end (I.ok.hd hc) st (show s.heap.IsTuple a its.toArray from p) (by simp; omega) fun h' eb => ⟨rfl, I.turned (t' := s.toks) (fun b o hb e => eb b o hb e) f0 f1 f3 f4 f5⟩
  self := fun _ _ _ _ _ st h => wpAny_pyIter_tupleiter st h
theorem xh1 {P : Program} {w : World} {K : PySem.W.Frag} {tg : Expr} (it : Addr) (lo : Int) (n : Nat) : Turn P w K tg (Itr lo n) [it] it (fun i h => IsRangeIter h it (lo + (i : Nat) * 1) ((n : Int) - (i : Nat)) 1) where
  mem := by simp
  obj := fun i h st b hb => by
    have e : b = it := by simpa using hb
    subst e
    exact ⟨_, st, fun v z => by
      have z' : Data.fields _ = Data.cell v := z
      cases z'⟩
  keep := fun i h h' st k => k it (by simp) _ st
  item := by
    intro X hP hw hK hc i pins s σ H E I hf st hg
    subst hP hw hK
    obtain ⟨f0, f1, f2, f3, f4, f5⟩ := hf it (by simp)
    have W := Walks.range (prog := X.prog) (w := X.w) (I.ok.hd hc) it lo 1 n
    refine W.item i s _ _ hg st fun v h' tk hv st' kk => ?_
    obtain ⟨t, rfl⟩ := hv
    have I1 : Inv X pins σ H { s with heap := h', toks := tk } := I.turned (fun b o hb e => kk b o (by simpa using hb) e) f0 f1 f3 f4 f5
    refine ⟨_, rfl, xg9 (s := { s with heap := h', toks := tk }) (n := "range_iterator") st' rfl rfl (by decide) ⟨.int (lo + i), H, I1, ⟨t, ?_⟩, ⟨rfl, rfl⟩, st', fun b hb => (hf b hb).1⟩⟩
    rw [Int.mul_one]
  done := by
    intro X hP hw hK hc i pins s σ H E I hf st hg
    subst hP hw hK
    obtain ⟨f0, f1, f2, f3, f4, f5⟩ := hf it (by simp)
    exact wpAny_pyNext_range_end (I.ok.hd hc) st (by have : n <= i := hg; omega) fun h' eb => ⟨rfl, I.turned (t' := s.toks) (fun b o hb e => eb b o hb e) f0 f1 f3 f4 f5⟩
  self := fun _ _ _ _ _ st h => wpAny_pyIter_rangeiter st h
end L2
namespace L2
open PySem PySem.Spec PyProof.Rows
section
variable {X : Cx} {tg : Expr}
theorem xq8 {pins : List (Addr × Obj)} {σ : St} {H : Hp} {s : Shared} {R : It -> Hp -> Prop} {E : Value -> Shared -> Prop} {lo hi : Int} {t u v : Tok} {tk : Nat} (I : Inv X pins σ H s) (h1 : -(2 ^ 62) <= lo) (h2 : lo < 2 ^ 62) (h3 : -(2 ^ 62) <= hi) (h4 : hi < 2 ^ 62)
    (q : R (Itr lo (hi - lo).toNat) H) : wpAny (model X.prog X.w) X.A (pyIter (.ref s.heap.objs.size)) (PIE X pins σ tg R) E { s with heap := s.heap.push { cls := .type "range", data := .fields #[.int lo t, .int hi u, .int 1 v] }, toks := tk } := by
  refine wpAny_pyIter_range (IsRange.new ..) (small_one h1 h2 h3 h4) ?_
  have I1 : Inv X pins σ H { s with heap := s.heap.push { cls := .type "range", data := .fields #[.int lo t, .int hi u, .int 1 v] }, toks := tk } := I.kept fun b o e => Heap.get?_push_of_some _ e
  refine ⟨(s.heap.push { cls := .type "range", data := .fields #[.int lo t, .int hi u, .int 1 v] }).objs.size, [(s.heap.push { cls := .type "range", data := .fields #[.int lo t, .int hi u, .int 1 v] }).objs.size], _, _, H, rfl,
    I1.kept (t' := tk) fun b o e => Heap.get?_push_of_some _ e, xh1 _ lo (hi - lo).toNat, ?_, fun b hb => ?_, q⟩
  . have e1 : lo + ((0 : Nat) : Int) * 1 = lo := by simp
    have e2 : (((hi - lo).toNat : Nat) : Int) - ((0 : Nat) : Int) = Builtin.Range.rangeSize lo hi 1 := by rw [rangeSize_one]; split <;> omega
    show IsRangeIter _ _ (lo + ((0 : Nat) : Int) * 1) ((((hi - lo).toNat : Nat) : Int) - ((0 : Nat) : Int)) 1
    rw [e1, e2]
    exact Heap.get?_push_size _ rfl
  . have e : b = (s.heap.push { cls := .type "range", data := .fields #[.int lo t, .int hi u, .int 1 v] }).objs.size := by simpa using hb
    subst e
    exact I1.fpOk (Nat.le_refl _) (I1.hok.fresh (Nat.le_refl _))
noncomputable def wh4 (ta : TA) : TI := fun σ H R => ta σ H fun vs H1 => ∃ j : Int, vs = [.int j] /\ -(2 ^ 62) <= j /\ j < 2 ^ 62 /\ R (Itr 0 j.toNat) H1
theorem xm1 {a : Expr} {ta : TA} {p pos : Pos} (hg : Gl X "range") (hm : X.mg "range" = none) (ha : PA X [a] ta) (hs : starEach [a] X.env = [(false, eval a X.env)] := by rfl) : PI X tg (.Call (.Name "range" p) [a] [] pos) (wh4 ta) := by
  intro pins s σ H R I h
  refine Call_ (yn2 I hg hm boot_range (PyProof.Rows.callWith_type1 (thn (ha pos pins s σ H _ I h) fun us s1 ⟨vs, H1, I1, r1, q1⟩ => ?_) hs rfl))
  obtain ⟨j, e, q1, q2, q⟩ := q1
  subst e
  cases r1 with
  | cons r rr =>
    cases rr
    obtain ⟨t, rfl⟩ := r
    exact call_range_1 (xq8 I1 (by omega) (by omega) q1 q2 (by simpa using q))
noncomputable def wj8 (wi : TI) (g : TG) (tb : TS) : TS := fun D σ H => wi σ H fun J H1 => ∃ W : Nat -> Nat -> St -> Hp -> Prop, (∃ m, W 0 m σ H1) /\ ∀ i m σ H, W i m σ H ->
  (J.stop i H /\ D.nx σ H) \/ (J.go i H /\ ∃ N : St -> Hp -> Prop, (∀ σ' H', N σ' H' -> ∃ m', m' < m /\ W (i + 1) m' σ' H') /\ ∀ x H', J.yld i H x H' -> g x σ H' fun σ2 H2 => tb { D with nx := N, ct := N, bk := D.nx } σ2 H2)
noncomputable def yd0 (fp : List Addr) (h : Heap) : List (Addr × Obj) := fp.filterMap fun b => (h.get? b).map fun o => (b, o)
theorem zy2 {fp : List Addr} {h : Heap} {b : Addr} {o : Obj} (hb : b ∈ fp) (e : h.get? b = some o) : (b, o) ∈ yd0 fp h := List.mem_filterMap.mpr ⟨b, hb, by rw [e]; rfl⟩
theorem xm2 {fp : List Addr} {h : Heap} {p : Addr × Obj} (hp : p ∈ yd0 fp h) : p.1 ∈ fp /\ h.get? p.1 = some p.2 := by
  obtain ⟨b, hb, e⟩ := List.mem_filterMap.mp hp
  cases q : h.get? b with
  | none => rw [q] at e; cases e
  | some o =>
    rw [q] at e
    have e' : (b, o) = p := Option.some.inj e
    subst e'
    exact ⟨hb, q⟩
theorem Inv.pinned {pins : List (Addr × Obj)} {σ : St} {H : Hp} {s : Shared} {fp : List Addr} (I : Inv X pins σ H s) (hf : ∀ b ∈ fp, zz8 X pins H b) (ho : ∀ b ∈ fp, ∃ o, s.heap.get? b = some o /\ ∀ v, o.data ≠ .cell v) : Inv X (pins ++ yd0 fp s.heap) σ H s :=
  I.pins_of fun p hp => (List.mem_append.mp hp).elim (fun z => I.pin p (List.mem_append_right _ z)) fun z => by
    obtain ⟨hb, e⟩ := xm2 z
    obtain ⟨f0, f1, f2, _⟩ := hf p.1 hb
    obtain ⟨o, e', d⟩ := ho p.1 hb
    rw [e] at e'; cases e'
    exact ⟨e, f0, f1, f2, d⟩
theorem Inv.unpinned {pins pl : List (Addr × Obj)} {σ : St} {H : Hp} {s : Shared} (I : Inv X (pins ++ pl) σ H s) : Inv X pins σ H s := I.pins_of fun p hp => I.pin p (List.mem_append_right _ (List.mem_append_left _ hp))
theorem xm3 {iter : Expr} {body : List Stmt} {wi : TI} {g : TG} {tb : TS} {pos : Pos} (hp : PassesOwn (model X.prog X.w) X.A X.env X.xe) (hc : X.calm = true) (hi : PI X tg iter wi) (hg : PG X tg g) (hb : PSs X body tb)
    (hs : ∀ x, foldedSetIterable iter X.env x = pure x := by intro _; rfl) : PS X (.For tg iter body [] pos) (wj8 wi g tb) := by
  intro pins s σ H D I h
  refine wpAny_For (thn (hi pins s σ H _ I h) fun v s1 h1 => thn h1 fun itv s2 h2 => ?_) hs
  obtain ⟨it, fp, tn, J, H2, e, I2, T, st2, f2, W, ⟨m0, w0⟩, turn⟩ := h2
  subst e
  have stat : ∀ {H' : Hp}, (∀ b ∈ fp, H' b = none) -> ∀ b ∈ fp, zz8 X pins H' b := fun hn b hb => ⟨hn b hb, (f2 b hb).2⟩
  refine codeAny_forLoop_any (fun n s' => ∃ i σ' H', Inv X pins σ' H' s' /\ tn i s'.heap /\ (∀ b ∈ fp, H' b = none) /\ W i n σ' H') ?_ m0 ⟨0, σ, H2, I2, st2, fun b hb => (f2 b hb).1, w0⟩
  rintro n s3 ⟨i, σ3, H3, I3, st3, fr3, w3⟩
  rcases turn i n σ3 H3 w3 with ⟨stop, qn⟩ | ⟨go, N, hN, step⟩
  . refine wpAny_passesOwn hp (thn (T.done X rfl rfl rfl hc i pins s3 σ3 H3 X.xe I3 (stat fr3) st3 stop) fun r s4 ⟨hr, I4⟩ => ?_)
    subst hr
    exact wpAny_execs_nil ⟨σ3, H3, I4, qn⟩
  . refine wpAny_passesOwn hp (thn (T.item X rfl rfl rfl hc i pins s3 σ3 H3 X.xe I3 (stat fr3) st3 go) fun r s4 ⟨u, hr, h4⟩ => ?_)
    subst hr
    refine wpAny_passesOwn hp (thn h4 fun _ s5 ⟨x, H5, I5, r5, y5, st5, fr5⟩ => ?_)
    have I5' := I5.pinned (stat fr5) (T.obj _ _ st5)
    refine wpAny_passesOwn hp (thn (hg _ s5 σ3 H5 x u _ I5' r5 (step x H5 y5)) fun _ s6 ⟨σ6, H6, I6, q6⟩ => ?_)
    refine wpAny_passesOwn hp (thn (hb _ s6 σ6 H6 _ I6 q6) fun f s7 q7 => ?_)
    have again : ∀ {σ7 : St} {H7 : Hp}, Inv X (pins ++ yd0 fp s5.heap) σ7 H7 s7 -> N σ7 H7 -> ∃ m, m < n /\ ∃ i σ' H', Inv X pins σ' H' s7 /\ tn i s7.heap /\ (∀ b ∈ fp, H' b = none) /\ W i m σ' H' := fun {σ7 H7} I7 n7 => by
      obtain ⟨m', hm, w7⟩ := hN σ7 H7 n7
      refine ⟨m', hm, i + 1, σ7, H7, I7.unpinned, T.keep _ _ _ st5 fun b hb o e => (I7.pin (b, o) (List.mem_append_right _ (List.mem_append_right _ (zy2 hb e)))).1, fun b hb => ?_, w7⟩
      obtain ⟨o, e, d⟩ := T.obj _ _ st5 b hb
      exact (I7.pin (b, o) (List.mem_append_right _ (List.mem_append_right _ (zy2 hb e)))).2.1
    cases f with
    | next => obtain ⟨σ7, H7, I7, n7⟩ := q7; exact again I7 n7
    | cont => obtain ⟨σ7, H7, I7, n7⟩ := q7; exact again I7 n7
    | brk => obtain ⟨σ7, H7, I7, q7⟩ := q7; exact ⟨σ7, H7, I7.unpinned, q7⟩
    | ret v => obtain ⟨x7, σ7, H7, I7, r7, q7⟩ := q7; exact ⟨x7, σ7, H7, I7.unpinned, r7, q7⟩
end
end L2
namespace L2
open PySem PySem.Spec PyProof.Rows
noncomputable abbrev R2 := V -> V -> Hp -> VK -> Prop
noncomputable def OpR (X : Cx) (f : Value -> Value -> Sem Value) (r : R2) : Prop :=
  ∀ (pins : List (Addr × Obj)) (s : Shared) (σ : St) (H : Hp) (x y : V) (v u : Value) (Q : VK), Inv X pins σ H s -> zd2 x v -> zd2 y u -> r x y H Q ->
    wpAny (model X.prog X.w) X.A (f v u) (EP X pins σ Q) X.xe s
noncomputable def UnR (X : Cx) (f : Value -> Sem Value) (r : V -> Hp -> VK -> Prop) : Prop :=
  ∀ (pins : List (Addr × Obj)) (s : Shared) (σ : St) (H : Hp) (x : V) (v : Value) (Q : VK), Inv X pins σ H s -> zd2 x v -> r x H Q ->
    wpAny (model X.prog X.w) X.A (f v) (EP X pins σ Q) X.xe s
noncomputable def zk0 (X : Cx) (f : Value) (r : List V -> Hp -> VK -> Prop) : Prop :=
  ∀ (pins : List (Addr × Obj)) (s : Shared) (σ : St) (H : Hp) (xs : List V) (us : List Value) (Q : VK), Inv X pins σ H s -> zc0 xs us -> r xs H Q ->
    wpAny (model X.prog X.w) X.A (call f us) (EP X pins σ Q) X.xe s
noncomputable def wj9 (X : Cx) (r : V -> Hp -> (Bool -> Hp -> Prop) -> Prop) : Prop :=
  ∀ (pins : List (Addr × Obj)) (s : Shared) (σ : St) (H : Hp) (x : V) (v : Value) (Q : Bool -> Hp -> Prop), Inv X pins σ H s -> zd2 x v -> r x H Q ->
    wpAny (model X.prog X.w) X.A (truthy v) (TP X pins σ Q) X.xe s
noncomputable def tOp (r : R2) (ta tb : TE) : TE := fun σ H Q => ta σ H fun x H1 => tb σ H1 fun y H2 => r x y H2 Q
noncomputable def tUn (r : V -> Hp -> VK -> Prop) (ta : TE) : TE := fun σ H Q => ta σ H fun x H1 => r x H1 Q
noncomputable def rI (C : Int -> Int -> Prop) (g : Int -> Int -> V) : R2 := fun x y H Q => ∃ i j, x = .int i /\ y = .int j /\ C i j /\ Q (g i j) H
noncomputable def rI0 (g : Int -> Int -> V) : R2 := fun x y H Q => ∃ i j, x = .int i /\ y = .int j /\ Q (g i j) H
noncomputable def rU (g : Int -> V) : V -> Hp -> VK -> Prop := fun x H Q => ∃ i, x = .int i /\ Q (g i) H
section
variable {X : Cx} {a b c : Expr} {ta tb tc : TE} {pos : Pos}
theorem xq9 (ha : PE X a ta) (hb : PE X b tb) {pins : List (Addr × Obj)} {s : Shared} {σ : St} {H : Hp} {R : V -> V -> Hp -> Prop} (I : Inv X pins σ H s)
    (h : ta σ H fun x H1 => tb σ H1 fun y H2 => R x y H2) {Q : Value -> Shared -> Prop} {f : Value -> Value -> Sem Value}
    (hf : ∀ v u s2 x y H2, Inv X pins σ H2 s2 -> zd2 x v -> zd2 y u -> R x y H2 -> wpAny (model X.prog X.w) X.A (f v u) Q X.xe s2) :
    wpAny (model X.prog X.w) X.A (eval a X.env) (fun v s₁ => wpAny (model X.prog X.w) X.A (eval b X.env) (fun u s₂ => wpAny (model X.prog X.w) X.A (f v u) Q X.xe s₂) X.xe s₁) X.xe s := by
  refine thn (ha pins s σ H _ I h) fun v s1 ⟨x, H1, I1, r1, q1⟩ => ?_
  refine thn (hb pins s1 σ H1 _ I1 q1) fun u s2 ⟨y, H2, I2, r2, q2⟩ => ?_
  exact hf v u s2 x y H2 I2 r1 r2 q2
theorem zk6 {op : Operator} {r : R2} (ho : OpR X (binaryOp op) r) (ha : PE X a ta) (hb : PE X b tb) : PE X (.BinOp a op b pos) (tOp r ta tb) := by
  intro pins s σ H Q I h
  exact wpAny_BinOp (xq9 ha hb I h fun v u s2 x y H2 I2 rx ry q => ho pins s2 σ H2 x y v u Q I2 rx ry q)
theorem wg1 {op : UnaryOp} {r : V -> Hp -> VK -> Prop} (ho : UnR X (unaryOp op) r) (ha : PE X a ta) : PE X (.UnaryOp op a pos) (tUn r ta) := by
  intro pins s σ H Q I h
  exact UnaryOp_ (thn (ha pins s σ H _ I h) fun v s1 ⟨x, H1, I1, r1, q1⟩ => ho pins s1 σ H1 x v Q I1 r1 q1)
theorem opI {f : Value -> Value -> Sem Value} {C : Int -> Int -> Prop} {g : Int -> Int -> Int}
    (rule : ∀ (i j : Int) (t u : Tok) (s : Shared) (Q : Value -> Shared -> Prop) (E : Value -> Shared -> Prop), C i j -> Q (.int (g i j) s.toks) { s with toks := s.toks + 1 } -> wpAny (model X.prog X.w) X.A (f (.int i t) (.int j u)) Q E s) :
    OpR X f (rI C fun i j => .int (g i j)) := by
  intro pins s σ H x y v u Q I rx ry h
  obtain ⟨i, j, rfl, rfl, hc, q⟩ := h
  obtain ⟨t, rfl⟩ := rx
  obtain ⟨t', rfl⟩ := ry
  exact rule i j t t' s _ _ hc ⟨.int (g i j), H, I.tok _, ⟨_, rfl⟩, q⟩
theorem xr0 {f : Value -> Value -> Sem Value} {g : Int -> Int -> Int}
    (rule : ∀ (i j : Int) (t u : Tok) (s : Shared) (Q : Value -> Shared -> Prop) (E : Value -> Shared -> Prop), Q (.int (g i j) s.toks) { s with toks := s.toks + 1 } -> wpAny (model X.prog X.w) X.A (f (.int i t) (.int j u)) Q E s) :
    OpR X f (rI0 fun i j => .int (g i j)) := by
  intro pins s σ H x y v u Q I rx ry h
  obtain ⟨i, j, rfl, rfl, q⟩ := h
  obtain ⟨t, rfl⟩ := rx
  obtain ⟨t', rfl⟩ := ry
  exact rule i j t t' s _ _ ⟨.int (g i j), H, I.tok _, ⟨_, rfl⟩, q⟩
theorem xh2 {f : Value -> Value -> Sem Value} {g : Int -> Int -> Bool}
    (rule : ∀ (i j : Int) (t u : Tok) (s : Shared) (Q : Value -> Shared -> Prop) (E : Value -> Shared -> Prop), Q (.bool (g i j)) s -> wpAny (model X.prog X.w) X.A (f (.int i t) (.int j u)) Q E s) :
    OpR X f (rI0 fun i j => .bl (g i j)) := by
  intro pins s σ H x y v u Q I rx ry h
  obtain ⟨i, j, rfl, rfl, q⟩ := h
  obtain ⟨t, rfl⟩ := rx
  obtain ⟨t', rfl⟩ := ry
  exact rule i j t t' s _ _ ⟨.bl (g i j), H, I, rfl, q⟩
noncomputable def wk0 (i j : Int) : Prop := 0 < j /\ j < 1073741824
noncomputable def xu6 (i j : Int) : Prop := (-(2 ^ 64) < i /\ i < 2 ^ 64) \/ (-(2 ^ 64) < j /\ j < 2 ^ 64)
theorem xu6.ok {i j : Int} (h : xu6 i j) : IntMulOk i j := by
  rcases h with ⟨h1, h2⟩ | ⟨h1, h2⟩
  . exact .of_left (intBits_le_64 h1 h2)
  . exact .of_right (intBits_le_64 h1 h2)
theorem xh3 (k : Nat) : (0 : Int) <= 2 ^ k := by
  rw [two_pow_cast]
  exact Int.natCast_nonneg _
theorem yc3 : OpR X (binaryOp .Add) (rI0 fun i j => .int (i + j)) := xr0 fun _ _ _ _ _ _ _ q => add_int q
theorem wb1 : OpR X (binaryOp .Sub) (rI0 fun i j => .int (i - j)) := xr0 fun _ _ _ _ _ _ _ q => sub_int q
theorem zu2 : OpR X (binaryOp .Mult) (rI xu6 fun i j => .int (i * j)) := opI fun _ _ _ _ _ _ _ hc q => mul_int q hc.ok
theorem xe5 : OpR X (binaryOp .FloorDiv) (rI wk0 fun i j => .int (i / j)) := opI fun i j _ _ _ _ _ hc q => by
  have h1 : (0 : Int) < j := hc.1
  have h2 : j < 1073741824 := hc.2
  exact floordiv_int (by omega) (by rw [Int.fdiv_eq_ediv_of_nonneg i (by omega)]; exact q) (.inl (PyProof.noPylong_small (by omega)))
theorem yn3 : OpR X (binaryOp .Mod) (rI (fun _ j => 0 < j) fun i j => .int (i % j)) := opI fun i j _ _ _ _ _ hc q => by
  have h1 : (0 : Int) < j := hc
  exact mod_int' (by omega) (by rw [Int.fmod_eq_emod_of_nonneg i (by omega)]; exact q)
theorem wb2 : OpR X (binaryOp .RShift) (rI (fun _ j => 0 <= j) fun i j => .int (i / 2 ^ j.toNat)) := opI fun i j _ _ _ _ _ hc q =>
  rshift_int hc (by rw [Int.fdiv_eq_ediv_of_nonneg i (xh3 _)]; exact q)
theorem xm4 : OpR X (binaryOp .BitAnd) (rI0 fun i j => .int (Builtin.bitAnd i j)) := xr0 fun _ _ _ _ _ _ _ q => and_int q
theorem unI {f : Value -> Sem Value} {g : Int -> Int}
    (rule : ∀ (i : Int) (t : Tok) (s : Shared) (Q : Value -> Shared -> Prop) (E : Value -> Shared -> Prop), Q (.int (g i) s.toks) { s with toks := s.toks + 1 } -> wpAny (model X.prog X.w) X.A (f (.int i t)) Q E s) :
    UnR X f (rU fun i => .int (g i)) := by
  intro pins s σ H x v Q I rx h
  obtain ⟨i, rfl, q⟩ := h
  obtain ⟨t, rfl⟩ := rx
  exact rule i t s _ _ ⟨.int (g i), H, I.tok _, ⟨_, rfl⟩, q⟩
theorem wb3 : UnR X (unaryOp .USub) (rU fun i => .int (-i)) := unI fun _ _ _ _ _ q => neg_int q
end
noncomputable def wf1 : V -> V -> Bool
  | .non, .non => true | .non, .int _ => true | .int _, .non => true | .non, .bl _ => true | .bl _, .non => true | .non, .str _ => true | .str _, .non => true
  | .int _, .int _ => true | .bl _, .bl _ => true | .str _, .str _ => true | .byt _, .byt _ => true
  | .int _, .str _ => true | .str _, .int _ => true | .bl _, .str _ => true | .str _, .bl _ => true
  | _, _ => false
noncomputable def rEq : R2 := fun x y H Q => wf1 x y = true /\ Q (.bl (decide (x = y))) H
noncomputable def rNe : R2 := fun x y H Q => wf1 x y = true /\ Q (.bl (!decide (x = y))) H
theorem xe6 {i j : Int} : decide (V.int i = V.int j) = (i == j) := by
  rw [Bool.eq_iff_iff]
  simp
theorem xm5 {i j : Bool} : decide (V.bl i = V.bl j) = (i == j) := by
  rw [Bool.eq_iff_iff]
  simp
theorem xe7 {i j : Str} : decide (V.str i = V.str j) = (i == j) := by
  rw [Bool.eq_iff_iff]
  simp
theorem xe8 {i j : Array UInt8} : decide (V.byt i = V.byt j) = (i.toList == j.toList) := by
  rw [Bool.eq_iff_iff]
  cases i
  cases j
  simp
section
variable {X : Cx} {a b c : Expr} {ta tb tc : TE} {pos : Pos}
theorem zf3 {pins : List (Addr × Obj)} {σ : St} {H : Hp} {s : Shared} {Q : VK} {k k' : Bool} (I : Inv X pins σ H s) (q : Q (.bl k) H) (e : k = k') : EP X pins σ Q (.bool k') s := by
  subst e
  exact ⟨.bl k, H, I, rfl, q⟩
theorem xh4 : OpR X (compareOp .Eq) rEq := by
  intro pins s σ H x y v u Q I rx ry h
  obtain ⟨hs, q⟩ := h
  cases x with
  | non =>
    cases rx
    cases y with
    | non => cases ry; exact PySem.EqNone.eq_none_none (zf3 I q (by simp))
    | bl j => cases ry; exact PySem.EqNone.eq_none_bool (zf3 I q (by simp))
    | int j => obtain ⟨t', rfl⟩ := ry; exact PySem.EqNone.eq_none_int (zf3 I q (by simp))
    | str j => obtain ⟨t', rfl⟩ := ry; exact PySem.EqNone.eq_none_str (zf3 I q (by simp))
    | _ => exact absurd (show false = true from hs) Bool.false_ne_true
  | bl i =>
    cases rx
    cases y with
    | non => cases ry; exact PySem.EqNone.eq_bool_none (zf3 I q (by simp))
    | bl j => cases ry; exact eq_bool (zf3 I q xm5)
    | str j => obtain ⟨t', rfl⟩ := ry; exact PySem.EqMixed.eq_bool_str (zf3 I q (by simp))
    | _ => exact absurd (show false = true from hs) Bool.false_ne_true
  | int i =>
    obtain ⟨t, rfl⟩ := rx
    cases y with
    | non => cases ry; exact PySem.EqNone.eq_int_none (zf3 I q (by simp))
    | int j => obtain ⟨t', rfl⟩ := ry; exact eq_int (zf3 I q xe6)
    | str j => obtain ⟨t', rfl⟩ := ry; exact PySem.EqMixed.eq_int_str (zf3 I q (by simp))
    | _ => exact absurd (show false = true from hs) Bool.false_ne_true
  | str i =>
    obtain ⟨t, rfl⟩ := rx
    cases y with
    | non => cases ry; exact PySem.EqNone.eq_str_none (zf3 I q (by simp))
    | bl j => cases ry; exact PySem.EqMixed.eq_str_bool (zf3 I q (by simp))
    | int j => obtain ⟨t', rfl⟩ := ry; exact PySem.EqMixed.eq_str_int (zf3 I q (by simp))
    | str j => obtain ⟨t', rfl⟩ := ry; exact eq_str (zf3 I q xe7)
    | _ => exact absurd (show false = true from hs) Bool.false_ne_true
  | byt i =>
    obtain ⟨t, rfl⟩ := rx
    cases y with
    | byt j => obtain ⟨t', rfl⟩ := ry; exact PySem.W.eq_bytes (zf3 I q xe8)
    | _ => exact absurd (show false = true from hs) Bool.false_ne_true
  | _ => cases y <;> exact absurd (show false = true from hs) Bool.false_ne_true
theorem xv0 : OpR X (compareOp .NotEq) rNe := by
  intro pins s σ H x y v u Q I rx ry h
  obtain ⟨hs, q⟩ := h
  cases x with
  | non =>
    cases rx
    cases y with
    | non => cases ry; exact PySem.EqNone.ne_none_none (zf3 I q (by simp))
    | bl j => cases ry; exact PySem.EqNone.ne_none_bool (zf3 I q (by simp))
    | int j => obtain ⟨t', rfl⟩ := ry; exact PySem.EqNone.ne_none_int (zf3 I q (by simp))
    | str j => obtain ⟨t', rfl⟩ := ry; exact PySem.EqNone.ne_none_str (zf3 I q (by simp))
    | _ => exact absurd (show false = true from hs) Bool.false_ne_true
  | bl i =>
    cases rx
    cases y with
    | non => cases ry; exact PySem.EqNone.ne_bool_none (zf3 I q (by simp))
    | bl j => cases ry; exact ne_bool (zf3 I q (congrArg not xm5))
    | str j => obtain ⟨t', rfl⟩ := ry; exact PySem.EqMixed.ne_bool_str (zf3 I q (by simp))
    | _ => exact absurd (show false = true from hs) Bool.false_ne_true
  | int i =>
    obtain ⟨t, rfl⟩ := rx
    cases y with
    | non => cases ry; exact PySem.EqNone.ne_int_none (zf3 I q (by simp))
    | int j => obtain ⟨t', rfl⟩ := ry; exact ne_int (zf3 I q (congrArg not xe6))
    | str j => obtain ⟨t', rfl⟩ := ry; exact PySem.EqMixed.ne_int_str (zf3 I q (by simp))
    | _ => exact absurd (show false = true from hs) Bool.false_ne_true
  | str i =>
    obtain ⟨t, rfl⟩ := rx
    cases y with
    | non => cases ry; exact PySem.EqNone.ne_str_none (zf3 I q (by simp))
    | bl j => cases ry; exact PySem.EqMixed.ne_str_bool (zf3 I q (by simp))
    | int j => obtain ⟨t', rfl⟩ := ry; exact PySem.EqMixed.ne_str_int (zf3 I q (by simp))
    | str j => obtain ⟨t', rfl⟩ := ry; exact ne_str (zf3 I q (congrArg not xe7))
    | _ => exact absurd (show false = true from hs) Bool.false_ne_true
  | byt i =>
    obtain ⟨t, rfl⟩ := rx
    cases y with
    | byt j => obtain ⟨t', rfl⟩ := ry; exact PySem.W.ne_bytes (zf3 I q (congrArg not xe8))
    | _ => exact absurd (show false = true from hs) Bool.false_ne_true
  | _ => cases y <;> exact absurd (show false = true from hs) Bool.false_ne_true
theorem wg2 : OpR X (compareOp .Lt) (rI0 fun i j => .bl (decide (i < j))) := xh2 fun _ _ _ _ _ _ _ q => lt_int q
theorem wg3 : OpR X (compareOp .LtE) (rI0 fun i j => .bl (decide (i <= j))) := xh2 fun _ _ _ _ _ _ _ q => le_int q
theorem wg4 : OpR X (compareOp .Gt) (rI0 fun i j => .bl (decide (j < i))) := xh2 fun _ _ _ _ _ _ _ q => gt_int q
theorem wg5 : OpR X (compareOp .GtE) (rI0 fun i j => .bl (decide (j <= i))) := xh2 fun _ _ _ _ _ _ _ q => ge_int q
theorem wb4 : OpR X (compareOp .Is) (fun x y H Q => y = .non /\ Q (.bl (decide (x = .non))) H) := by
  intro pins s σ H x y v u Q I rx ry h
  obtain ⟨rfl, q⟩ := h
  cases ry
  refine is_none_gen (zf3 I q ?_)
  cases x <;> first
    | (cases rx; rfl)
    | (obtain ⟨t, rfl⟩ := rx; rfl)
theorem OpR.or {f : Value -> Value -> Sem Value} {r r' : R2} (h : OpR X f r) (h' : OpR X f r') : OpR X f (fun x y H Q => r x y H Q \/ r' x y H Q) := by
  intro pins s σ H x y v u Q I rx ry q
  rcases q with q | q
  . exact h pins s σ H x y v u Q I rx ry q
  . exact h' pins s σ H x y v u Q I rx ry q
theorem zf9 (b : Expr) {op : CmpOp} (h : op ≠ .In := by decide) (h2 : op ≠ .NotIn := by decide) : behindInMarks op b = false := by
  have e1 : (op == CmpOp.In) = false := by cases op <;> first | rfl | exact absurd rfl h
  have e2 : (op == CmpOp.NotIn) = false := by cases op <;> first | rfl | exact absurd rfl h2
  cases b <;> simp [behindInMarks, e1, e2]
theorem xx0 {op : CmpOp} {r : R2} (ho : OpR X (compareOp op) r) (ha : PE X a ta) (hb : PE X b tb) (hm : behindInMarks op b = false) : PE X (.Compare a [op] [b] pos) (tOp r ta tb) := by
  intro pins s σ H Q I h
  exact wpAny_Compare1 (xq9 ha hb I h fun v u s2 x y H2 I2 rx ry q => ho pins s2 σ H2 x y v u Q I2 rx ry q) hm
noncomputable def wh5 (t : TE) : TT := fun σ H Q => t σ H fun x H' => ∃ k, x = .bl k /\ Q k H'
theorem xe9 {op : CmpOp} {r : R2} (ho : OpR X (compareOp op) r) (ha : PE X a ta) (hb : PE X b tb) (hm : behindInMarks op b = false) : PT X (.Compare a [op] [b] pos) (wh5 (tOp r ta tb)) := by
  intro pins s σ H Q I h
  refine wpAny_isTrue_Compare1 (thn (ha pins s σ H _ I h) fun v s1 ⟨x, H1, I1, r1, q1⟩ => thn (hb pins s1 σ H1 _ I1 q1) fun u s2 ⟨y, H2, I2, r2, q2⟩ =>
    thn (ho pins s2 σ H2 x y v u _ I2 r1 r2 q2) fun c s3 ⟨z, H3, I3, r3, k, e, q3⟩ => ?_) hm
  subst e
  cases r3
  exact wpAny_truthy_bool ⟨H3, I3, q3⟩
noncomputable def xu7 (K : PySem.W.Frag) (x : V) (H : Hp) (k : Bool) : Prop :=
  match x with
  | .non => k = false
  | .bl b => k = b
  | .int i => k = (i != 0)
  | .str y => y.length <= sizeLine /\ k = ((y.length : Int) != 0)
  | .byt y => y.size <= sizeLine /\ k = ((y.size : Int) != 0)
  | .ref p => (∃ xs, SqL K H p xs /\ k = !xs.isEmpty) \/ (∃ xs, SqT K H p xs /\ k = !xs.isEmpty) \/ ∃ kvs, H p = some (.dK kvs) /\ k = !kvs.isEmpty
  | _ => False
theorem xh5 {κ : Type} {kvs : List (κ × V)} {vs : List (κ × Value)} (r : KV kvs vs) : (!vs.isEmpty) = !kvs.isEmpty := by
  cases r <;> rfl
theorem yn4 {xs : List V} {its : List Value} (r : zc0 xs its) : (!its.toArray.isEmpty) = !xs.isEmpty := by
  cases r <;> simp
theorem zz0 : (sizeLine : Nat) < 2 ^ 63 := by rw [sizeLine_eq]; decide
theorem wb5 : wj9 X (fun x H Q => ∃ k, xu7 X.K x H k /\ Q k H) := by
  intro pins s σ H x v Q I rx h
  obtain ⟨k, e, q⟩ := h
  have hl := zz0
  have hs : sizeLine = 16777216 := sizeLine_eq
  cases x with
  | non =>
    cases rx
    have e' : k = false := e
    subst e'
    exact truthy_none ⟨H, I, q⟩
  | bl b =>
    cases rx
    have e' : k = b := e
    subst e'
    exact wpAny_truthy_bool ⟨H, I, q⟩
  | int i =>
    obtain ⟨t, rfl⟩ := rx
    have e' : k = (i != 0) := e
    subst e'
    exact PySem.P.truthy_int ⟨H, I, q⟩
  | str y =>
    obtain ⟨t, rfl⟩ := rx
    obtain ⟨hy, e'⟩ : y.length <= sizeLine /\ k = ((y.length : Int) != 0) := e
    subst e'
    exact PySem.P.truthy_str (by omega) ⟨H, I.tok _, q⟩
  | byt y =>
    obtain ⟨t, rfl⟩ := rx
    obtain ⟨hy, e'⟩ : y.size <= sizeLine /\ k = ((y.size : Int) != 0) := e
    subst e'
    exact PySem.W.truthy_bytes (by omega) ⟨H, I.tok _, q⟩
  | ref p =>
    cases rx
    have e' : (∃ xs, SqL X.K H p xs /\ k = !xs.isEmpty) \/ (∃ xs, SqT X.K H p xs /\ k = !xs.isEmpty) \/ ∃ kvs, H p = some (.dK kvs) /\ k = !kvs.isEmpty := e
    rcases e' with ⟨xs, hx, e'⟩ | ⟨xs, hx, e'⟩ | ⟨kvs, hx, e'⟩
    . subst e'
      obtain ⟨its, r, pl, hz⟩ := I.list hx
      have hlen := r.length
      exact wpAny_truthy_list pl.isList (by simp only [List.size_toArray]; omega) ⟨H, I.tok _, by rw [yn4 r]; exact q⟩
    . subst e'
      obtain ⟨its, r, pl, hz⟩ := I.tuple hx
      have hlen := r.length
      exact truthy_tuple pl (by simp only [List.size_toArray]; omega) ⟨H, I.tok _, by rw [yn4 r]; exact q⟩
    . subst e'
      obtain ⟨hz, hS, vs, r, m⟩ : kvs.length <= sizeLine /\ (p == sysModules) = false /\ ∃ vs, KV kvs vs /\ s.heap.DictOf (yt8 X.prog X.w) p vs := I.hok p _ hx
      have hlen : kvs.length = vs.length := Paired.length r
      exact wpAny_truthy_dict hS m (by omega) ⟨H, I.tok _, by rw [xh5 r]; exact q⟩
  | _ => exact (show False from e).elim
theorem xr1 (ha : PE X a ta) (he : ∀ whole, isTrue a X.env whole = (do let v <- whole; standAt a.pos; holding [v] (truthy v))) :
    PT X a (fun σ H Q => ta σ H fun x H' => ∃ k, xu7 X.K x H' k /\ Q k H') := by
  intro pins s σ H Q I h
  exact isTrue_plain (thn (ha pins s σ H _ I h) fun v s1 ⟨x, H1, I1, r1, q1⟩ => wb5 pins s1 σ H1 x v Q I1 r1 q1) (he _)
theorem xh6 : OpR X (binaryOp .Add) (fun x y H Q => ∃ i j, x = .str i /\ y = .str j /\ i.length + j.length <= sizeLine /\ Q (.str (i ++ j)) H) := by
  intro pins s σ H x y v u Q I rx ry h
  obtain ⟨i, j, rfl, rfl, hz, q⟩ := h
  obtain ⟨t, rfl⟩ := rx
  obtain ⟨t', rfl⟩ := ry
  exact add_str (fun t' tk => ⟨.str (i ++ j), H, I.tok _, ⟨_, rfl⟩, q⟩) hz
theorem yn5 {x : V} {us : List Value} (r : zc0 [x] us) : ∃ u, us = [u] /\ zd2 x u := by
  cases r with
  | cons r1 r2 => cases r2; exact ⟨_, rfl, r1⟩
theorem xh7 {x y : V} {us : List Value} (r : zc0 [x, y] us) : ∃ u w', us = [u, w'] /\ zd2 x u /\ zd2 y w' := by
  cases r with
  | cons r1 r2 =>
    cases r2 with
    | cons r3 r4 => cases r4; exact ⟨_, _, rfl, r1, r3⟩
theorem xm6 (hc : X.calm = true) : zk0 X (.builtin "max") (fun xs H Q => ∃ i j, xs = [.int i, .int j] /\ Q (.int (if j > i then j else i)) H) := by
  intro pins s σ H xs us Q I r h
  obtain ⟨i, j, rfl, q⟩ := h
  obtain ⟨u, w', rfl, ⟨t, rfl⟩, ⟨t', rfl⟩⟩ := xh7 r
  refine max_two_ints (I.ok.hd hc) fun h' tk k => ⟨_, H, I.kept k, ?_, q⟩
  by_cases hj : j > i
  . rw [if_pos hj, if_pos hj]; exact ⟨_, rfl⟩
  . rw [if_neg hj, if_neg hj]; exact ⟨_, rfl⟩
end
end L2
namespace L2
open PySem PySem.Spec PyProof.Rows
structure ObjM (h : Heap) (x dx C : Addr) (mA : Str -> Option Value) : Prop where
  obj : h.get? x = some (PySem.W.instObj C dx)
  ns : h.Ns1 dx mA
  ne : dx ≠ x
theorem xm7 {h : Heap} {dx : Addr} {mA : Str -> Option Value} (n : h.Ns1 dx mA) : ∃ od, h.get? dx = some od /\ ∀ name, PySem.W.lookIn name od = some (mA name) := by
  obtain ⟨o, es, ep, ho, hd, hk, _, hm⟩ := n
  refine ⟨o, ho, fun name => ?_⟩
  have e := hm name
  unfold nsFind findBy at e
  rw [<- Array.find?_toList] at e
  unfold PySem.W.lookIn
  rw [hd]
  dsimp only
  split
  . rename_i y q
    rw [q] at e
    exact congrArg some e
  . rename_i q
    rw [q] at e
    have a : es.toList.any (·.refKey) = false := by
      rw [List.any_eq_false]
      intro y hy
      obtain ⟨z, t, hkey⟩ := hk y (Array.mem_toList_iff.mp hy)
      simp [DictEntry.refKey, hkey]
    have a' : ¬ es.toList.any (·.refKey) = true := by rw [a]; exact Bool.false_ne_true
    rw [if_neg a']
    exact congrArg some e
theorem ObjM.look {h : Heap} {x dx C : Addr} {mA : Str -> Option Value} (I : ObjM h x dx C mA) : ∃ od, PySem.W.InstAt h x (PySem.W.instObj C dx) C (some od) /\ ∀ name, PySem.W.lookIn name od = some (mA name) :=
  let ⟨od, ho, hl⟩ := xm7 I.ns
  ⟨od, ⟨I.obj, rfl, rfl, ho⟩, hl⟩
section
variable {prog : Program} {w : World} {A : Around} {E : Value -> Shared -> Prop} {s : Shared} {K : PySem.W.Frag} {x dx C f : Addr} {mA : Str -> Option Value} {name : Str} {v : Value}
theorem xf0 {expr : Bool} {Q : Value -> Shared -> Prop} (X : K.In s.heap) (I : ObjM s.heap x dx C mA) (hg : PySem.W.plainGet K C name = true) (hh : PySem.W.hasDictIn K C = true)
    (ha : PySem.W.findIn K (.ref C) name = some none) (hv : mA name = some v) (hv' : PySem.W.handedIn v = true) (h : Q v { s with toks := s.toks + 1 }) :
    wpAny (model prog w) A (getAttr (.ref x) name expr) Q E s := by
  obtain ⟨od, J, hl⟩ := I.look
  exact PySem.W.get_value X J (PySem.W.plainGet_of hg).1 (PySem.W.findObj_own hh ha rfl (by rw [hl, hv])) hv' h
theorem xr2 {pl : Sem Bool} {Q : Value × List Value -> Shared -> Prop} (X : K.In s.heap) (I : ObjM s.heap x dx C mA) (hg : PySem.W.plainGet K C name = true)
    (hf : PySem.W.findIn K (.ref C) name = some (some (.ref f))) (ht : PySem.W.isFn K (.ref f) = true) (hv : mA name = none) (h : Q (.ref f, [.ref x]) s) :
    wpAny (model prog w) A (getMethod (.ref x) name pl) Q E s := by
  obtain ⟨od, J, hl⟩ := I.look
  exact PySem.W.method_fn X J (PySem.W.plainGet_of hg).1 (PySem.W.plainGet_of hg).2 hf (beq_iff_eq.mp ht) (by show (PySem.W.lookIn name od).map (·.isSome) = some false; rw [hl, hv]; rfl) h
theorem xx1 {ns : List Str} {Q : Unit -> Shared -> Prop} (X : K.In s.heap) (I : ObjM s.heap x dx C mA)
    (hs : PySem.W.findIn K (.ref C) "__setattr__" = some (some (.builtin "object.__setattr__"))) (hp : PySem.W.plainOver K C = true) (ht : PySem.W.takerIn K C name = some none) (hh : PySem.W.hasDictIn K C = true)
    (hw : PySem.Within mA ns) (hsz : ns.length <= sizeLine)
    (h : ∀ h', ObjM h' x dx C (fun y => if y = name then some v else mA y) -> Heap.SameBut dx s.heap h' -> Q () { s with heap := h', toks := s.toks + 2 }) :
    wpAny (model prog w) A (setAttr (.ref x) name v) Q E s := by
  obtain ⟨od, J, hl⟩ := I.look
  refine PySem.W.set_plain X J hs (PySem.W.osa_open (s := { s with toks := s.toks + 1 }) (r := none) X J hp ht fun b => ?_)
  obtain ⟨cd, hc, hd'⟩ := PySem.W.any_some hh
  have hx : s.heap.get? x = some ⟨.ref C, some dx, .plain, #[]⟩ := I.obj
  refine wpAny_bind (wpAny_pure (wpAny_bind (wpAny_bind (wpAny_loadPart hx (wpAny_bind (PySem.W.Looks.here (s := { s with toks := s.toks + 1 }) (PySem.W.looks_clsIn X hc) ?_))))))
  rw [hd']
  refine wpAny_pure (a := some dx) (wpAny_bind (wpAny_pure (wpAny_bind ?_)))
  refine wpAny_nsSet1 (s := { s with toks := s.toks + 1 }) I.ns fun h' hn2 hs2 => ?_
  obtain ⟨oD, esD, epD, hoD, hdD, hcD⟩ := hn2.count (PySem.Within.cons name v hw)
  refine wpAny_bind (wpAny_lookBehind hoD (by rw [hdD]; exact pastItsLine_dict (Nat.le_trans hcD (by rw [List.length_cons]; omega))) ?_)
  exact wpAny_pure (h _ ⟨(hs2.2 _ (Ne.symm I.ne)).trans I.obj, hn2, I.ne⟩ hs2)
theorem xr3 {R : Result -> Shared -> Prop} {vs : List Value} {kw : List (Str × Value)} (X : K.In s.heap) (hm : PySem.W.makesIn K C = true)
    (hi : PySem.W.findIn K (.ref C) "__init__" = some (some (.ref f))) (hf : PySem.W.typeIn K (.ref f) = some (.type "function"))
    (h : codeAny (model prog w) (A.under (.builtin "type.__call__" ⟨.ref C :: vs, kw⟩)) (.call (.ref f) ⟨.ref (s.heap.objs.size + 1) :: vs, kw⟩) (PySem.W.InitBack (s.heap.objs.size + 1) R)
      { s with heap := (s.heap.push PySem.W.emptyDict).push (PySem.W.instObj C s.heap.objs.size) }) :
    codeAny (model prog w) A (.call (.ref C) ⟨vs, kw⟩) R s := by
  obtain ⟨hh, g, d, t, os⟩ := s
  exact PySem.W.make_core (PySem.W.makes_of X hm) (PySem.W.looks_findIn X hi) (fun self => PySem.W.bind_fn X self hf) (.inl rfl) h
end
noncomputable def zk8 (f : Str) (v : V) : List (Str × V) -> List (Str × V)
  | [] => [(f, v)]
  | (g, x) :: r => if g = f then (g, v) :: r else (g, x) :: zk8 f v r
theorem yk9 (f g : Str) (v : V) : ∀ fs : List (Str × V), (zk8 f v fs).lookup g = if g = f then some v else fs.lookup g
  | [] => by
    show List.lookup g [(f, v)] = _
    by_cases h : g = f
    . have hb : (g == f) = true := beq_iff_eq.mpr h
      simp only [List.lookup, hb, if_pos h]
    . have hb : (g == f) = false := beq_eq_false_iff_ne.mpr h
      simp only [List.lookup, hb, if_neg h]
  | (k, x) :: r => by
    have ih := yk9 f g v r
    rw [show zk8 f v ((k, x) :: r) = (if k = f then (k, v) :: r else (k, x) :: zk8 f v r) from rfl]
    by_cases hk : k = f
    . rw [if_pos hk]
      by_cases h : g = k
      . have hb : (g == k) = true := beq_iff_eq.mpr h
        simp only [List.lookup, hb, if_pos (h.trans hk)]
      . have hb : (g == k) = false := beq_eq_false_iff_ne.mpr h
        simp only [List.lookup, hb, if_neg (fun e : g = f => h (e.trans hk.symm))]
    . rw [if_neg hk]
      by_cases h : g = k
      . have hb : (g == k) = true := beq_iff_eq.mpr h
        simp only [List.lookup, hb, if_neg (fun e : g = f => hk (h.symm.trans e))]
      . have hb : (g == k) = false := beq_eq_false_iff_ne.mpr h
        simp only [List.lookup, hb]
        exact ih
theorem yf9 (f : Str) (v : V) : ∀ fs : List (Str × V), f ∈ (zk8 f v fs).map (·.1) /\ ∀ g, g ∈ fs.map (·.1) -> g ∈ (zk8 f v fs).map (·.1)
  | [] => ⟨by simp [zk8], fun g h => by simp at h⟩
  | (k, x) :: r => by
    obtain ⟨i1, i2⟩ := yf9 f v r
    rw [show zk8 f v ((k, x) :: r) = (if k = f then (k, v) :: r else (k, x) :: zk8 f v r) from rfl]
    by_cases hk : k = f
    . rw [if_pos hk]
      subst hk
      exact ⟨by simp, fun g h => by simpa using h⟩
    . rw [if_neg hk]
      refine ⟨?_, fun g h => ?_⟩
      . rw [List.map_cons]
        exact List.mem_cons_of_mem _ i1
      . rw [List.map_cons] at h |-
        rcases List.mem_cons.mp h with e | e
        . exact List.mem_cons.mpr (.inl e)
        . exact List.mem_cons_of_mem _ (i2 g e)
theorem yl0 (f : Str) (v : V) : ∀ fs : List (Str × V), (zk8 f v fs).length <= fs.length + 1
  | [] => by simp [zk8]
  | (k, x) :: r => by
    have ih := yl0 f v r
    rw [show zk8 f v ((k, x) :: r) = (if k = f then (k, v) :: r else (k, x) :: zk8 f v r) from rfl]
    by_cases hk : k = f
    . rw [if_pos hk, List.length_cons, List.length_cons]; omega
    . rw [if_neg hk, List.length_cons, List.length_cons]; omega
theorem zq5.some_of {v : V} {o : Option Value} (r : zq5 (some v) o) : ∃ u, o = some u /\ zd2 v u := by
  cases o with
  | none => exact (show False from r).elim
  | some u => exact ⟨u, rfl, r⟩
theorem zq5.none_of {o : Option Value} (r : zq5 none o) : o = none := by
  cases o with
  | none => rfl
  | some u => exact (show False from r).elim
theorem yu1 {v : V} {u : Value} (r : zd2 v u) : PySem.W.handedIn u = true := by
  cases v with
  | non => cases (show u = Value.none from r); rfl
  | bl b => cases (show u = Value.bool b from r); rfl
  | int i => obtain ⟨t, e⟩ := (show ∃ t, u = Value.int i t from r); cases e; rfl
  | str x => obtain ⟨t, e⟩ := (show ∃ t, u = Value.str x t from r); cases e; rfl
  | byt b => obtain ⟨t, e⟩ := (show ∃ t, u = Value.bytes b t from r); cases e; rfl
  | flt b => obtain ⟨t, e⟩ := (show ∃ t, u = Value.float b t from r); cases e; rfl
  | ref a => cases (show u = Value.ref a from r); rfl
  | ty n => cases (show u = Value.type n from r); rfl
section
variable {P : Program} {w : World} {H H' : Hp} {h h' : Heap} {a C dx : Addr} {fs fs' : List (Str × V)}
theorem yi2 (hok : HOk P w H h) (e : H a = some (.ins C dx fs)) : ∃ mA, ObjM h a dx C mA /\ (∀ f, zq5 (fs.lookup f) (mA f)) /\ PySem.Within mA (fs.map (·.1)) /\ fs.length <= 1000 /\ H dx = some (.own a) := by
  obtain ⟨d, z, ne, ob, mA, n, r, q⟩ := (show zi8 P w H h a (.ins C dx fs) from hok a _ e)
  exact ⟨mA, ⟨ob, n, ne⟩, r, q, z, d⟩
end
structure Cls (K : PySem.W.Frag) (C : Addr) : Prop where
  pg : PySem.W.plainGet K C Str.empty = true
  hd : PySem.W.hasDictIn K C = true
  po : PySem.W.plainOver K C = true
  sa : PySem.W.findIn K (.ref C) "__setattr__" = some (some (.builtin "object.__setattr__"))
theorem Cls.get {K : PySem.W.Frag} {C : Addr} (c : Cls K C) (f : Str) : PySem.W.plainGet K C f = true := c.pg
noncomputable def zd6 (K : PySem.W.Frag) (C : Addr) (f : Str) : Prop := PySem.W.findIn K (.ref C) f = some none
theorem zd6.taker {K : PySem.W.Frag} {C : Addr} {f : Str} (n : zd6 K C f) : PySem.W.takerIn K C f = some none := by
  unfold PySem.W.takerIn
  rw [show PySem.W.findIn K (.ref C) f = some none from n]
  rfl
structure Con (K : PySem.W.Frag) (C : Addr) (f : Str) (v : V) (u : Value) : Prop where
  at_ : PySem.W.findIn K (.ref C) f = some (some u)
  rel : zd2 v u
  get : PySem.W.specialIn K u "__get__" = some none
  cp : PySem.W.copiedNames.contains f = false
structure Meth (K : PySem.W.Frag) (C : Addr) (m : Str) (f : Addr) : Prop where
  at_ : PySem.W.findIn K (.ref C) m = some (some (.ref f))
  fn : PySem.W.isFn K (.ref f) = true
  kp : PySem.W.keepIn K (.ref f) = true
section
variable {X : Cx} {pins : List (Addr × Obj)} {σ : St} {H : Hp} {s : Shared} {a C dx : Addr} {fs : List (Str × V)} {f : Str} {v : V} {A : Around} {E : Value -> Shared -> Prop}
theorem xh8 {b : Bool} {Q : Value -> Shared -> Prop} (I : Inv X pins σ H s) (e : H a = some (.ins C dx fs)) (c : Cls X.K C) (n : zd6 X.K C f) (l : fs.lookup f = some v)
    (h : ∀ u s', Inv X pins σ H s' -> zd2 v u -> Q u s') : wpAny (model X.prog X.w) A (getAttr (.ref a) f b) Q E s := by
  obtain ⟨mA, O, r, _, _, _⟩ := yi2 I.hok e
  obtain ⟨u, hu, ru⟩ := zq5.some_of (v := v) (o := mA f) (by rw [<- l]; exact r f)
  exact xf0 I.kIn O (c.get f) c.hd n hu (yu1 ru) (h u _ (I.tok _) ru)
theorem yn6 {m : Str} {g : Addr} {pl : Sem Bool} {Q : Value × List Value -> Shared -> Prop} (I : Inv X pins σ H s) (e : H a = some (.ins C dx fs)) (c : Cls X.K C) (k : Meth X.K C m g) (l : fs.lookup m = none)
    (h : Q (.ref g, [.ref a]) s) : wpAny (model X.prog X.w) A (getMethod (.ref a) m pl) Q E s := by
  obtain ⟨mA, O, r, _, _, _⟩ := yi2 I.hok e
  have hn : mA m = none := zq5.none_of (by rw [<- l]; exact r m)
  exact xr2 I.kIn O (c.get m) k.at_ k.fn hn h
theorem xh9 {y : V} {u : Value} {Q : Unit -> Shared -> Prop} (I : Inv X pins σ H s) (e : H a = some (.ins C dx fs)) (c : Cls X.K C) (n : zd6 X.K C f) (hl : fs.length < 1000) (ry : zd2 y u)
    (h : ∀ s', Inv X pins σ (upd H a (.ins C dx (zk8 f y fs))) s' -> Q () s') : wpAny (model X.prog X.w) A (setAttr (.ref a) f u) Q E s := by
  obtain ⟨mA, O, r, wi, _, ho⟩ := yi2 I.hok e
  have hz : (fs.map (·.1)).length <= sizeLine := by rw [List.length_map, sizeLine_eq]; omega
  refine xx1 I.kIn O c.sa c.po n.taker c.hd wi hz fun h' O' sb => h _ ?_
  have hd : ∃ o, h'.get? dx = some o := let ⟨o, _, _, e', _⟩ := O'.ns; ⟨o, e'⟩
  refine I.write (x := a) (e := dx) (by rw [e]; exact True.intro) (.inr ho) (fun b q hb z => (sb.2 b hb).trans z) hd ?_
  refine ⟨by rw [zd4 O.ne]; exact ho, ?_, O.ne, O'.obj, _, O'.ns, fun g => ?_, fun g hg => ?_⟩
  . have := yl0 f y fs; omega
  . show zq5 ((zk8 f y fs).lookup g) (if g = f then some u else mA g)
    rw [yk9]
    by_cases q : g = f
    . rw [if_pos q, if_pos q]; exact ry
    . rw [if_neg q, if_neg q]; exact r g
  . by_cases q : g = f
    . rw [q]; exact (yf9 f y fs).1
    . refine (yf9 f y fs).2 g (wi g fun z => hg ?_)
      show (if g = f then some u else mA g) = none
      rw [if_neg q]; exact z
theorem Inv.made (I : Inv X pins σ H s) : Inv X pins σ (upd (upd H s.heap.objs.size (.own (s.heap.objs.size + 1))) (s.heap.objs.size + 1) (.ins C s.heap.objs.size []))
    { s with heap := (s.heap.push PySem.W.emptyDict).push (PySem.W.instObj C s.heap.objs.size) } := by
  have e1 : (s.heap.push PySem.W.emptyDict).get? s.heap.objs.size = some PySem.W.emptyDict := Heap.get?_push_size s.heap rfl
  have e2 : ((s.heap.push PySem.W.emptyDict).push (PySem.W.instObj C s.heap.objs.size)).get? (s.heap.objs.size + 1) = some (PySem.W.instObj C s.heap.objs.size) := by
    have := Heap.get?_push_size (s.heap.push PySem.W.emptyDict) (o := PySem.W.instObj C s.heap.objs.size) rfl
    rwa [Heap.size_push] at this
  have e3 : (s.heap.push PySem.W.emptyDict).Ns s.heap.objs.size (fun _ => none) := ⟨PySem.W.emptyDict, #[], _, e1, rfl, (fun e he => absurd he (by simp)), fun _ => rfl⟩
  have I1 := I.laid (a := s.heap.objs.size) (o := .own (s.heap.objs.size + 1)) (h' := s.heap.push PySem.W.emptyDict) (t' := s.toks) (fun b u q => Heap.get?_push_of_some _ q) (Nat.le_refl _) ⟨_, e1⟩
  refine I1.laid (a := s.heap.objs.size + 1) (o := .ins C s.heap.objs.size []) (t' := s.toks) (fun b u q => Heap.get?_push_of_some _ q) (Nat.le_of_eq (Heap.size_push _ _)) ?_
  have ne : s.heap.objs.size ≠ s.heap.objs.size + 1 := Nat.ne_of_lt (Nat.lt_succ_self _)
  refine ⟨by rw [zd4 ne, zh0], Nat.zero_le _, ne, e2, fun _ => none, (Heap.Ns1.of_empty e3).at fun o q => Heap.get?_push_of_some _ q, fun _ => True.intro, fun y hy => absurd rfl hy⟩
theorem xf1 {prog : Program} {w : World} {env : Env} {e : Expr} {f : Str} {pos : Pos} {s : Shared} {Q : Value -> Shared -> Prop} (hb : attributeBase e f env (eval e env) = eval e env)
    (h : wpAny (model prog w) A (eval e env) (fun o s₁ => wpAny (model prog w) A (getAttr o f true) Q E s₁) E s) : wpAny (model prog w) A (eval (.Attribute e f pos) env) Q E s :=
  Attribute_any_ h (by rw [arm_eval_Attribute, hb])
end
noncomputable def wk1 (K : PySem.W.Frag) (ta : TE) (f : Str) : TE := fun σ H Q => ta σ H fun x H1 => ∃ a C dx fs v, x = .ref a /\ H1 a = some (.ins C dx fs) /\ Cls K C /\ zd6 K C f /\ fs.lookup f = some v /\ Q v H1
noncomputable def wk2 (K : PySem.W.Frag) (ta tv : TE) (f : Str) : TS := fun D σ H => tv σ H fun y H1 => ta σ H1 fun x H2 => ∃ a C dx fs, x = .ref a /\ H2 a = some (.ins C dx fs) /\ Cls K C /\ zd6 K C f /\ fs.length < 1000 /\
  D.nx σ (upd H2 a (.ins C dx (zk8 f y fs)))
section
variable {X : Cx} {o e value : Expr} {f : Str} {pos pos' tpos : Pos} {ta tv : TE}
theorem wb6 (he : PE X e ta) (hb : attributeBase e f X.env (eval e X.env) = eval e X.env) : PE X (.Attribute e f pos) (wk1 X.K ta f) := by
  intro pins s σ H Q I h
  refine xf1 hb (thn (he pins s σ H _ I h) fun u s1 ⟨x, H1, I1, rx, a, C, dx, fs, v, ex, ea, c, n, l, q⟩ => ?_)
  subst ex
  obtain rfl : u = Value.ref a := rx
  exact xh8 I1 ea c n l fun u' s2 I2 ru => ⟨v, H1, I2, ru, q⟩
theorem wb7 (ha : PE X o ta) (hv : PE X value tv) (hs : swapsWith value (some (.Attribute o f pos')) pos.line X.env = pure false) : PS X (.Assign [.Attribute o f pos'] value pos) (wk2 X.K ta tv f) := by
  intro pins s σ H D I h
  refine plainObj_wpAny_Assign_Attribute (thn (hv pins s σ H _ I h) fun u s1 ⟨y, H1, I1, ry, q⟩ => thn (ha pins s1 σ H1 _ I1 q) fun ov s2 ⟨x, H2, I2, rx, a, C, dx, fs, ex, ea, c, n, l, q2⟩ => ?_) hs
  subst ex
  obtain rfl : ov = Value.ref a := rx
  exact xh9 I2 ea c n l ry fun s3 I3 => ⟨σ, _, I3, q2⟩
end
section
variable {X : Cx} {pins : List (Addr × Obj)} {σ : St} {H : Hp} {s : Shared} {A : Around} {E : Value -> Shared -> Prop} {Q : Value -> Shared -> Prop} {c : Value} {b : Bool}
inductive TyOf (K : PySem.W.Frag) (H : Hp) : V -> Value -> Prop where
  | non : TyOf K H .non (.type "NoneType")
  | bl (x : Bool) : TyOf K H (.bl x) (.type "bool")
  | int (i : Int) : TyOf K H (.int i) (.type "int")
  | str (x : Str) : TyOf K H (.str x) (.type "str")
  | flt (x : UInt64) : TyOf K H (.flt x) (.type "float")
  | lst {a : Addr} {xs : List V} (e : H a = some (.lst xs)) : TyOf K H (.ref a) (.type "list")
  | frz {a : Addr} {o : Obj} {xs : List V} (e : H a = some (.frz o (.lst xs))) : TyOf K H (.ref a) (.type "list")
  | tup {a : Addr} {xs : List V} (e : H a = some (.tup xs)) : TyOf K H (.ref a) (.type "tuple")
  | dK {a : Addr} {kvs : List (Key × V)} (e : H a = some (.dK kvs)) : TyOf K H (.ref a) (.type "dict")
  | dT {a : Addr} {kvs : List (List Key × V)} (e : H a = some (.dT kvs)) : TyOf K H (.ref a) (.type "dict")
  | ins {a C dx : Addr} {fs : List (Str × V)} (e : H a = some (.ins C dx fs)) (cl : Cls K C) (ha : PySem.W.findIn K (.ref C) "__class__" = some (some (.builtin "object.__class__")))
      (hn : PySem.W.specialIn K (.builtin "object.__class__") "__get__" = some (some (.builtin "getset_descriptor.__get__"))) (htk : PySem.W.takesIn K (.builtin "object.__class__") = some true)
      (hm : PySem.W.mroIn K C (.type "object") = some true) : TyOf K H (.ref a) (.ref C)
theorem xm8 {x : V} {u t : Value} (I : Inv X pins σ H s) (rx : zd2 x u) (ty : TyOf X.K H x t) (e : PySem.W.kitOne X.K t c = some b) (h : ∀ tk, Q (.bool b) { s with toks := tk }) :
    wpAny (model X.prog X.w) A (call (.builtin "isinstance") [u, c]) Q E s := by
  cases ty with
  | non => cases (show u = Value.none from rx); exact PySem.W.kia_one PySem.W.kitx_none I.kIn True.intro e (fun z => nomatch z) h
  | bl y => cases (show u = Value.bool y from rx); exact PySem.W.kia_one PySem.W.kitx_bool I.kIn True.intro e (fun z => nomatch z) h
  | int i => obtain ⟨t, q⟩ := (show ∃ t, u = Value.int i t from rx); cases q; exact PySem.W.kia_one PySem.W.kitx_int I.kIn True.intro e (fun z => nomatch z) h
  | str y => obtain ⟨t, q⟩ := (show ∃ t, u = Value.str y t from rx); cases q; exact PySem.W.kia_one PySem.W.kitx_str I.kIn True.intro e (fun z => nomatch z) h
  | flt y => obtain ⟨t, q⟩ := (show ∃ t, u = Value.float y t from rx); cases q; exact PySem.W.kia_one PySem.W.kitx_float I.kIn True.intro e (fun z => nomatch z) h
  | @lst a xs ea =>
    cases (show u = Value.ref a from rx)
    obtain ⟨_, _, n, _, h1⟩ := (show zi8 X.prog X.w H s.heap a (.lst xs) from I.hok a _ ea)
    exact PySem.W.kia_one PySem.W.kitx_list I.kIn ⟨_, h1, rfl⟩ e (fun z => nomatch z) h
  | @frz a ob xs ea =>
    cases (show u = Value.ref a from rx)
    obtain ⟨_, _, _, n, _, h1⟩ := (show zi8 X.prog X.w H s.heap a (.frz ob (.lst xs)) from I.hok a _ ea)
    exact PySem.W.kia_one PySem.W.kitx_list I.kIn ⟨_, h1, rfl⟩ e (fun z => nomatch z) h
  | @tup a xs ea =>
    cases (show u = Value.ref a from rx)
    obtain ⟨_, _, _, p⟩ := (show zi8 X.prog X.w H s.heap a (.tup xs) from I.hok a _ ea)
    obtain ⟨o, h1, h2, _⟩ := p
    exact PySem.W.kia_one PySem.W.kitx_tuple I.kIn ⟨o, h1, h2⟩ e (fun z => nomatch z) h
  | @dK a kvs ea =>
    cases (show u = Value.ref a from rx)
    obtain ⟨_, _, vs, _, p⟩ := (show zi8 X.prog X.w H s.heap a (.dK kvs) from I.hok a _ ea)
    obtain ⟨o, es, ep, h1, h2, _⟩ := p
    exact PySem.W.kia_one PySem.W.kitx_dict I.kIn ⟨o, h1, h2.1⟩ e (fun z => nomatch z) h
  | @dT a kvs ea =>
    cases (show u = Value.ref a from rx)
    obtain ⟨_, _, xs, _, o, es, ep, h1, h2, _⟩ := (show zi8 X.prog X.w H s.heap a (.dT kvs) from I.hok a _ ea)
    exact PySem.W.kia_one PySem.W.kitx_dict I.kIn ⟨o, h1, h2.1⟩ e (fun z => nomatch z) h
  | @ins a C dx fs ea cl ha hn htk hm =>
    cases (show u = Value.ref a from rx)
    obtain ⟨mA, O, _⟩ := yi2 I.hok ea
    obtain ⟨od, J, _⟩ := O.look
    exact PySem.W.kia_one (PySem.W.kitx_own (cl.get _) cl.hd ha hn htk hm) I.kIn J e (fun z => nomatch z) h
end
end L2
namespace L2
open PySem PySem.Spec PyProof.Rows
structure Room (k : Nat) (A : Around) : Prop where
  hd : A.handled = none
  dp : A.depth + 3 * k + 5 < recursionLimit
  un : A.units + 16 * k + 200 < cLine
theorem Room.mono {j k : Nat} {A : Around} (r : Room k A) (h : j <= k) : Room j A := ⟨r.hd, by have := r.dp; omega, by have := r.un; omega⟩
theorem Room.deeper {k : Nat} {A : Around} (r : Room (k + 1) A) (env : Env) : Room k (A.deeper env) :=
  ⟨r.hd, by have := r.dp; show A.depth + 1 + 3 * k + 5 < _; omega, by have := r.un; show A.units + 3 + 16 * k + 200 < _; omega⟩
theorem xi0 {A : Around} {C : Addr} {us : List Value} {kw : List (Str × Value)} : (A.under (.builtin "type.__call__" ⟨.ref C :: us, kw⟩)).depth = A.depth + 1 := by
  first | rfl | simp [Around.under, Code.weight, Code.isCreation, Code.isGuard, Code.isCaller, Code.frames, Code.isFrame, guardIds]
theorem xi1 {A : Around} {C : Addr} {us : List Value} {kw : List (Str × Value)} : (A.under (.builtin "type.__call__" ⟨.ref C :: us, kw⟩)).units = A.units + 1 := by
  first | rfl | simp [Around.under, Code.cUnits, Code.frames, Code.isFrame]
theorem Room.make {k : Nat} {A : Around} (r : Room (k + 1) A) (C : Addr) (us : List Value) (kw : List (Str × Value)) : Room k (A.under (.builtin "type.__call__" ⟨.ref C :: us, kw⟩)) :=
  ⟨r.hd, by have := r.dp; rw [xi0]; omega, by have := r.un; rw [xi1]; omega⟩
theorem Room.depth {k : Nat} {A : Around} (r : Room k A) : A.depth < recursionLimit := by have := r.dp; omega
theorem Room.units {k : Nat} {A : Around} (r : Room k A) : A.units + 64 < cLine := by have := r.un; omega
theorem Room.units0 {k : Nat} {A : Around} (r : Room k A) : A.units < cLine := by have := r.un; omega
noncomputable def xk9 : TA := fun _ H Q => Q [] H
noncomputable def wh6 (ta : TE) (tr : TA) : TA := fun σ H Q => ta σ H fun x H1 => tr σ H1 fun xs H2 => Q (x :: xs) H2
section
variable {X : Cx} {e : Expr} {es : List Expr} {te : TE} {t : TA} {pos : Pos}
theorem zw7 : PA X [] xk9 := fun _ _ _ _ H Q I h => Calls.spliced_nil ⟨[], H, I, .nil, h⟩
theorem zq2 (ha : PE X e te) (hr : PA X es t) (hs : starEach (e :: es) X.env = (false, eval e X.env) :: starEach es X.env := by rfl) : PA X (e :: es) (wh6 te t) := by
  intro pos pins s σ H Q I h
  rw [hs]
  show wpAny _ _ (spliced ((false, eval e X.env) :: backTo pos (starEach es X.env))) _ _ s
  refine Calls.spliced_cons (thn (ha pins s σ H _ I h) fun u s1 ⟨x, H1, I1, r1, q1⟩ => ?_)
  exact thn (hr pos pins s1 σ H1 _ I1 q1) fun us s2 ⟨xs, H2, I2, r2, q2⟩ => ⟨x :: xs, H2, I2, .cons r1 r2, q2⟩
noncomputable def wk3 (t : TA) : TE := fun σ H Q => t σ H fun xs H1 => xs.length <= sizeLine /\ ∀ p, H1 p = none -> Q (.ref p) (upd H1 p (.tup xs))
noncomputable def wk4 (t : TA) : TE := fun σ H Q => t σ H fun xs H1 => xs.length <= sizeLine /\ ∀ p, H1 p = none -> Q (.ref p) (upd H1 p (.lst xs))
theorem wb8 {x1} (h : PA X es t) : PE X (.Tuple es x1 pos) (wk3 t) := by
  intro pins s σ H Q I hq
  refine wpAny_Tuple_spliced (thn (h pos pins s σ H _ I hq) fun us s1 ⟨xs, H1, I1, r, z, q⟩ => ⟨by rw [<- r.length]; exact z, ?_⟩)
  have hf : H1 s1.heap.objs.size = none := I1.hok.fresh (Nat.le_refl _)
  refine ⟨.ref s1.heap.objs.size, upd H1 s1.heap.objs.size (.tup xs), I1.laid (t' := s1.toks) (fun b u e => Heap.get?_push_of_some _ e) (Nat.le_refl _) ?_, rfl, q _ hf⟩
  exact ⟨z, us, r, ⟨_, Heap.get?_push_size _ rfl, rfl, _, rfl⟩⟩
theorem wb9 (h : PA X es t) : PE X (.List es pos) (wk4 t) := by
  intro pins s σ H Q I hq
  refine wpAny_List_spliced (thn (h pos pins s σ H _ I hq) fun us s1 ⟨xs, H1, I1, r, z, q⟩ => ⟨by rw [<- r.length]; exact z, ?_⟩)
  have hf : H1 s1.heap.objs.size = none := I1.hok.fresh (Nat.le_refl _)
  refine ⟨.ref s1.heap.objs.size, upd H1 s1.heap.objs.size (.lst xs), I1.laid (t' := s1.toks) (fun b u e => Heap.get?_push_of_some _ e) (Nat.le_refl _) ?_, rfl, q _ hf⟩
  exact ⟨z, us, 0, r, Heap.get?_push_size _ rfl⟩
end
noncomputable abbrev Sp := List V -> Hp -> VK -> XK -> Prop
noncomputable abbrev CXT := List Env -> Hp -> Shared -> XK -> Value -> Shared -> Prop
structure Env0 (P : Program) (w : World) (K : PySem.W.Frag) (mg : Str -> Option Value) (base : Heap) (A : Around) (outer : List Env) (s : Shared) (H : Hp) : Prop where
  frames : A.frames = some outer
  mod : Mod K mg base
  bs : ∀ b o, base.get? b = some o -> s.heap.get? b = some o /\ H b = none
  bsz : base.objs.size <= s.heap.objs.size
  funs : s.heap.FunFrames base outer
  frf : ∀ b ∈ frs outer, H b = none
  hok : HOk P w H s.heap
  bare : AllBare s.gens
noncomputable def CE (outer : List Env) (P : Program) (w : World) (H : Hp) (s : Shared) (Q : VK) (u : Value) (s' : Shared) : Prop :=
  ∃ v H', s'.os = s.os /\ AllBare s'.gens /\ Un (frs outer) [] H H' s.heap s'.heap /\ HOk P w H' s'.heap /\ zd2 v u /\ Q v H'
noncomputable def CR (CX : CXT) (outer : List Env) (P : Program) (w : World) (H : Hp) (s : Shared) (Q : VK) (E : XK) (r : Result) (s' : Shared) : Prop :=
  match r with
  | .ok (.ret u) => CE outer P w H s Q u s'
  | .ok _ => False
  | .error e => CX outer H s E e s'
structure FnOk (P : Program) (w : World) (K : PySem.W.Frag) (mg : Str -> Option Value) (base : Heap) (CX : CXT) (k : Nat) (f : Addr) (fd : FuncData) (ps : List Str) (sp : Sp) : Prop where
  len : ∀ vs H Q E, sp vs H Q E -> vs.length = ps.length
  run : ∀ (A : Around) (outer : List Env) (s : Shared) (H : Hp) (args : Args) (us : List Value) (vs : List V) (Q : VK) (E : XK), Room k A -> Env0 P w K mg base A outer s H -> BindsTo s fd args (ps.zip us) -> zc0 vs us -> sp vs H Q E ->
    codeAny (model P w) A (.call (.ref f) args) (CR CX outer P w H s Q E) s
theorem FnOk.mono {P : Program} {w : World} {K : PySem.W.Frag} {mg : Str -> Option Value} {base : Heap} {CX : CXT} {j k : Nat} {f : Addr} {fd : FuncData} {ps : List Str} {sp : Sp} (F : FnOk P w K mg base CX j f fd ps sp) (h : j <= k) :
    FnOk P w K mg base CX k f fd ps sp := ⟨F.len, fun A outer s H args us vs Q E hr => F.run A outer s H args us vs Q E (hr.mono h)⟩
theorem FnOk.imp {P : Program} {w : World} {K : PySem.W.Frag} {mg : Str -> Option Value} {base : Heap} {CX : CXT} {k : Nat} {f : Addr} {fd : FuncData} {ps : List Str} {sp sp' : Sp} (F : FnOk P w K mg base CX k f fd ps sp)
    (h : ∀ vs H Q E, sp' vs H Q E -> sp vs H Q E) : FnOk P w K mg base CX k f fd ps sp' :=
  ⟨fun vs H Q E q => F.len vs H Q E (h _ _ _ _ q), fun A outer s H args us vs Q E hr he hb hv hs => F.run A outer s H args us vs Q E hr he hb hv (h _ _ _ _ hs)⟩
theorem Env0.make {P : Program} {w : World} {K : PySem.W.Frag} {mg : Str -> Option Value} {base : Heap} {A : Around} {outer : List Env} {s : Shared} {H : Hp} (e : Env0 P w K mg base A outer s H) (C : Addr) (us : List Value) (kw : List (Str × Value)) :
    Env0 P w K mg base (A.under (.builtin "type.__call__" ⟨.ref C :: us, kw⟩)) outer s H := ⟨by first | exact e.frames | (simpa [Around.under, Code.envs, Code.isFrame, pushEnvs] using e.frames), e.mod, e.bs, e.bsz, e.funs, e.frf, e.hok, e.bare⟩
section
variable {X : Cx} {pins : List (Addr × Obj)} {σ : St} {H : Hp} {s s' : Shared}
theorem Inv.env0 (I : Inv X pins σ H s) : Env0 X.prog X.w X.K X.mg X.base X.A X.stack s H :=
  ⟨I.ok.frames, I.ok.mod, I.bs, Nat.le_trans I.ok.bsz I.sz, I.stack, I.stkFree, I.hok, I.bare⟩
theorem Inv.after {Q : VK} {u : Value} (I : Inv X pins σ H s) (h : CE X.stack X.prog X.w H s Q u s') : EP X pins σ Q u s' := by
  obtain ⟨v, H', os, bare, un, hok, r, q⟩ := h
  obtain ⟨hh, g, d, t, os'⟩ := s'
  obtain rfl : os' = s.os := os
  exact ⟨v, H', I.call (h' := hh) (g' := g) (d' := d) (t' := t) (ch := []) un hok bare (fun b z => absurd z (by simp)), r, q⟩
end
noncomputable def yx4 (sp : Sp) (dvs : List V) (E : XK) (t : TA) : TE := fun σ H Q => t σ H fun vs H1 => sp (vs ++ dvs) H1 Q E
noncomputable def xw0 (C : Addr) (m : Str) (sp : Sp) (dvs : List V) (E : XK) (ta : TE) (t : TA) : TE := fun σ H Q => ta σ H fun x H1 => ∃ a dx fs, x = .ref a /\ H1 a = some (.ins C dx fs) /\ fs.lookup m = none /\
  t σ H1 fun vs H2 => sp (x :: (vs ++ dvs)) H2 Q E
noncomputable def wh7 (C : Addr) (sp : Sp) (dvs : List V) (E : XK) (t : TA) : TE := fun σ H Q => t σ H fun vs H1 => ∀ x dx, H1 x = none -> H1 dx = none -> dx ≠ x ->
  sp (.ref x :: (vs ++ dvs)) (upd (upd H1 dx (.own x)) x (.ins C dx [])) (fun v H2 => v = .non /\ Q (.ref x) H2) E
noncomputable def zs2 (K : PySem.W.Frag) (fd : FuncData) (ps : List Str) (ds : List Value) : Prop :=
  ∀ (s : Shared) (us : List Value), K.In s.heap -> (us ++ ds).length = ps.length -> BindsTo s fd ⟨us, []⟩ (ps.zip (us ++ ds))
theorem zs2.all {K : PySem.W.Frag} {fd : FuncData} {ps : List Str} (h : ∀ us : List Value, us.length = ps.length -> bindArgs fd ⟨us, []⟩ = pure (ps.zip us)) : zs2 K fd ps [] := fun s us _ hl => by
  rw [List.append_nil] at hl |-
  exact .of_eq (h us hl)
noncomputable def zu7 (CX : CXT) (X : Cx) (E : XK) : Prop := ∀ (pins : List (Addr × Obj)) (σ : St) (H : Hp) (s : Shared) (e : Value) (s' : Shared), Inv X pins σ H s -> CX X.stack H s E e s' -> X.xe e s'
section
variable {X : Cx} {CX : CXT} {k : Nat} {f C : Addr} {fd : FuncData} {ps : List Str} {sp : Sp} {dvs : List V} {ds : List Value} {E : XK} {x m : Str} {p pos apos : Pos} {e o : Expr} {es : List Expr} {ta : TE} {t : TA}
theorem yn7 {pins : List (Addr × Obj)} {σ : St} {H : Hp} {s : Shared} {Q : VK} {us : List Value} {vs : List V} (F : FnOk X.prog X.w X.K X.mg X.base CX k f fd ps sp) (hr : Room k X.A) (hb : zs2 X.K fd ps ds) (hd : zc0 dvs ds) (hx : zu7 CX X E)
    (I : Inv X pins σ H s) (r : zc0 vs us) (h : sp (vs ++ dvs) H Q E) : wpAny (model X.prog X.w) X.A (call (.ref f) us) (EP X pins σ Q) X.xe s := by
  have r2 : zc0 (vs ++ dvs) (us ++ ds) := r.append hd
  have hl : (us ++ ds).length = ps.length := by rw [<- r2.length]; exact F.len _ _ _ _ h
  refine wpAny_call (codeAny_mono (F.run X.A X.stack s H ⟨us, []⟩ (us ++ ds) (vs ++ dvs) Q E hr I.env0 (hb s us I.kIn hl) r2 h) fun r s' hq => ?_)
  cases r with
  | error e => exact hx pins σ H s e s' I hq
  | ok fl =>
    cases fl with
    | ret u => exact I.after hq
    | next => exact False.elim hq
    | brk => exact False.elim hq
    | cont => exact False.elim hq
theorem xx2 (F : FnOk X.prog X.w X.K X.mg X.base CX k f fd ps sp) (hr : Room k X.A) (hg : Gl X x) (hm : X.mg x = some (.ref f)) (hk : PySem.W.keepIn X.K (.ref f) = true) (hb : zs2 X.K fd ps ds) (hd : zc0 dvs ds) (hx : zu7 CX X E)
    (ha : PA X (e :: es) t) (hdb : (x == ("__debug__" : Str)) = false := by decide) (he : starEach (e :: es) X.env = (false, eval e X.env) :: starEach es X.env := by rfl) (hpl : (backTo pos (starEach es X.env)).any (·.1) = false := by rfl) :
    PE X (.Call (.Name x p) (e :: es) [] pos) (yx4 sp dvs E t) := by
  intro pins s σ H Q I h
  refine wpAny_Call_Name_kw (zy6 I hg hm ?_ hdb)
  refine PySem.W.callWith_K (h₀ := X.base) I.ok.mod.kin hk (thn (ha pos pins s σ H _ I h) fun us s1 ⟨vs, H1, I1, r, q⟩ => ⟨I1.kIn, ?_⟩) he hpl
  exact yn7 F hr hb hd hx I1 r q
theorem xr4 (F : FnOk X.prog X.w X.K X.mg X.base CX k f fd ps sp) (hr : Room k X.A) (hg : Gl X x) (hm : X.mg x = some (.ref f)) (hk : PySem.W.keepIn X.K (.ref f) = true) (hb : zs2 X.K fd ps ds) (hd : zc0 dvs ds) (hx : zu7 CX X E)
    (hdb : (x == ("__debug__" : Str)) = false := by decide) : PE X (.Call (.Name x p) [] [] pos) (yx4 sp dvs E xk9) := by
  intro pins s σ H Q I h
  refine wpAny_Call_Name_kw (zy6 I hg hm ?_ hdb)
  exact PySem.W.callWith_K0 I.kIn hk (yn7 (us := []) F hr hb hd hx I .nil h)
theorem xx3 {pl : Sem Bool} (he : PE X o ta) (c : Cls X.K C) (hm : Meth X.K C m f) (F : FnOk X.prog X.w X.K X.mg X.base CX k f fd ps sp) (hr : Room k X.A) (hb : zs2 X.K fd ps ds) (hd : zc0 dvs ds) (hx : zu7 CX X E) (ha : PA X (e :: es) t)
    (hst : starEach (e :: es) X.env = (false, eval e X.env) :: starEach es X.env := by rfl) (hpl : (backTo pos (starEach es X.env)).any (·.1) = false := by rfl)
    (ht : eval (.Call (.Attribute o m apos) (e :: es) [] pos) X.env = (do
      let ov <- eval o X.env
      standAt apos.atName
      let (f, first) <- holding [ov] (getMethod ov m pl)
      callWith pos f first (backTo pos (starEach (e :: es) X.env)) (backToKw pos (keywordEach [] X.env))) := by rfl) :
    PE X (.Call (.Attribute o m apos) (e :: es) [] pos) (xw0 C m sp dvs E ta t) := by
  intro pins s σ H Q I h
  refine PySem.W.methodCall_KW (pl := pl) (thn (he pins s σ H _ I h) fun u s1 ⟨x, H1, I1, rx, a, dx, fs, ex, ea, l, q⟩ => ?_) ht
  subst ex
  obtain rfl : u = Value.ref a := rx
  refine yn6 I1 ea c hm l ?_
  refine PySem.W.callWith_K (first := [.ref a]) (h₀ := X.base) I.ok.mod.kin hm.kp (thn (ha pos pins s1 σ H1 _ I1 q) fun us s2 ⟨vs, H2, I2, r, q2⟩ => ⟨I2.kIn, ?_⟩) hst hpl
  exact yn7 (us := .ref a :: us) (vs := .ref a :: vs) F hr hb hd hx I2 (.cons rfl r) q2
theorem yy0 {pl : Sem Bool} (he : PE X o ta) (c : Cls X.K C) (hm : Meth X.K C m f) (F : FnOk X.prog X.w X.K X.mg X.base CX k f fd ps sp) (hr : Room k X.A) (hb : zs2 X.K fd ps ds) (hd : zc0 dvs ds) (hx : zu7 CX X E)
    (ht : eval (.Call (.Attribute o m apos) [] [] pos) X.env = (do
      let ov <- eval o X.env
      standAt apos.atName
      let (f, first) <- holding [ov] (getMethod ov m pl)
      callWith pos f first (backTo pos (starEach [] X.env)) (backToKw pos (keywordEach [] X.env))) := by rfl) :
    PE X (.Call (.Attribute o m apos) [] [] pos) (xw0 C m sp dvs E ta xk9) := by
  intro pins s σ H Q I h
  refine PySem.W.methodCall_KW (pl := pl) (thn (he pins s σ H _ I h) fun u s1 ⟨x, H1, I1, rx, a, dx, fs, ex, ea, l, q⟩ => ?_) ht
  subst ex
  obtain rfl : u = Value.ref a := rx
  refine yn6 I1 ea c hm l ?_
  exact PySem.W.callWith_K0 (first := [.ref a]) I1.kIn hm.kp (yn7 (us := [.ref a]) (vs := [.ref a]) F hr hb hd hx I1 (.cons rfl .nil) q)
structure Mk (K : PySem.W.Frag) (C f : Addr) : Prop where
  makes : PySem.W.makesIn K C = true
  init : PySem.W.findIn K (.ref C) "__init__" = some (some (.ref f))
  fn : PySem.W.isFn K (.ref f) = true
  kp : PySem.W.keepIn K (.ref C) = true
theorem xr5 {pins : List (Addr × Obj)} {σ : St} {H : Hp} {s : Shared} {Q : VK} {us : List Value} {vs : List V} (M : Mk X.K C f) (F : FnOk X.prog X.w X.K X.mg X.base CX k f fd ps sp) (hr : Room (k + 1) X.A) (hb : zs2 X.K fd ps ds) (hd : zc0 dvs ds)
    (hx : zu7 CX X E) (I : Inv X pins σ H s) (r : zc0 vs us)
    (h : ∀ x dx, H x = none -> H dx = none -> dx ≠ x -> sp (.ref x :: (vs ++ dvs)) (upd (upd H dx (.own x)) x (.ins C dx [])) (fun v H2 => v = .non /\ Q (.ref x) H2) E) :
    wpAny (model X.prog X.w) X.A (call (.ref C) us) (EP X pins σ Q) X.xe s := by
  have hq := h (s.heap.objs.size + 1) s.heap.objs.size (I.hok.fresh (Nat.le_succ _)) (I.hok.fresh (Nat.le_refl _)) (Nat.ne_of_lt (Nat.lt_succ_self _))
  have I2 := Inv.made (C := C) I
  have r2 : zc0 (V.ref (s.heap.objs.size + 1) :: (vs ++ dvs)) (Value.ref (s.heap.objs.size + 1) :: (us ++ ds)) := .cons rfl (r.append hd)
  have hl : (Value.ref (s.heap.objs.size + 1) :: us ++ ds).length = ps.length := by
    have e := r2.length
    rw [F.len _ _ _ _ hq] at e
    exact e.symm
  refine wpAny_call (xr3 (f := f) I.kIn M.makes M.init (beq_iff_eq.mp M.fn) (codeAny_mono (F.run _ X.stack _ _ ⟨Value.ref (s.heap.objs.size + 1) :: us, []⟩ (Value.ref (s.heap.objs.size + 1) :: (us ++ ds)) _ _ E (hr.make C us [])
    (I2.env0.make C us []) (hb _ (Value.ref (s.heap.objs.size + 1) :: us) I2.kIn hl) r2 hq) fun r s' hq' => ?_))
  cases r with
  | error e => exact hx pins σ _ _ e s' I2 hq'
  | ok fl =>
    cases fl with
    | ret u =>
      obtain ⟨v, H', I3, rv, ev, q3⟩ := I2.after hq'
      subst ev
      exact ⟨rv, ⟨V.ref (s.heap.objs.size + 1), H', I3, rfl, q3⟩⟩
    | next => exact False.elim hq'
    | brk => exact False.elim hq'
    | cont => exact False.elim hq'
theorem xx4 (M : Mk X.K C f) (F : FnOk X.prog X.w X.K X.mg X.base CX k f fd ps sp) (hr : Room (k + 1) X.A) (hg : Gl X x) (hm : X.mg x = some (.ref C)) (hb : zs2 X.K fd ps ds) (hd : zc0 dvs ds) (hx : zu7 CX X E)
    (ha : PA X (e :: es) t) (hdb : (x == ("__debug__" : Str)) = false := by decide) (he : starEach (e :: es) X.env = (false, eval e X.env) :: starEach es X.env := by rfl) (hpl : (backTo pos (starEach es X.env)).any (·.1) = false := by rfl) :
    PE X (.Call (.Name x p) (e :: es) [] pos) (wh7 C sp dvs E t) := by
  intro pins s σ H Q I h
  refine wpAny_Call_Name_kw (zy6 I hg hm ?_ hdb)
  refine PySem.W.callWith_K (h₀ := X.base) I.ok.mod.kin M.kp (thn (ha pos pins s σ H _ I h) fun us s1 ⟨vs, H1, I1, r, q⟩ => ⟨I1.kIn, ?_⟩) he hpl
  exact xr5 M F hr hb hd hx I1 r q
end
section
variable {X : Cx} {CX : CXT} {k : Nat} {f C : Addr} {fd : FuncData} {ps ks : List Str} {sp : Sp} {E : XK} {x m : Str} {p pos apos kpos : Pos} {e o : Expr} {es : List Expr} {kws : List Keyword} {te ta : TE} {t tk : TA} {nm : Option Str}
structure KBinds (K : PySem.W.Frag) (fd : FuncData) (ps ks : List Str) (g : List Value -> List Value -> List Value) (gV : List V -> List V -> List V) : Prop where
  to : ∀ (s : Shared) (us ws : List Value), K.In s.heap -> (g us ws).length = ps.length -> BindsTo s fd ⟨us, ks.zip ws⟩ (ps.zip (g us ws))
  rel : ∀ {vs : List V} {us : List Value} {zs : List V} {ws : List Value}, zc0 vs us -> zc0 zs ws -> zc0 (gV vs zs) (g us ws)
variable {g : List Value -> List Value -> List Value} {gV : List V -> List V -> List V}
end
structure FnScope (N P : List Str) (sc : Scope) : Prop where
  kind : sc.kind = .function
  co : sc.isCoroutine = false
  gen : sc.isGenerator = false
  nd : N.Nodup
  pre : N.take P.length = P
  par : ∀ x ∈ P, sc.names.lookup x = some .local \/ sc.names.lookup x = some .cell
  nofree : ∀ y ∈ sc.names, y.2 ≠ .free
theorem yu2 {kindOf : Str -> Option NameKind} {x : Str} : ∀ {binds : List (Str × Value)} {m : Str -> Option Value}, (∀ v, (x, v) ∉ binds) -> bindL kindOf binds m x = m x
  | [], _, _ => rfl
  | (n, v) :: r, m, h => by
    unfold bindL
    rw [yu2 fun w hw => h w (List.mem_cons_of_mem _ hw)]
    split
    . have : x ≠ n := by rintro rfl; exact h v List.mem_cons_self
      simp [this]
    . rfl
theorem yu3 {kindOf : Str -> Option NameKind} {x : Str} : ∀ {binds : List (Str × Value)} {m : Str -> Option Value}, (∀ v, (x, v) ∉ binds) -> bindC kindOf binds m x = m x
  | [], _, _ => rfl
  | (n, v) :: r, m, h => by
    unfold bindC
    rw [yu3 fun w hw => h w (List.mem_cons_of_mem _ hw)]
    split
    . rfl
    . have : x ≠ n := by rintro rfl; exact h v List.mem_cons_self
      simp [this]
theorem yu4 {kindOf : Str -> Option NameKind} {x : Str} {v : Value} : ∀ {P : List Str} {vs : List Value} {i : Nat} {m : Str -> Option Value}, P.Nodup -> P[i]? = some x -> vs[i]? = some v -> kindOf x = some .local ->
    bindL kindOf (P.zip vs) m x = some v
  | [], _, _, _, _, h, _, _ => by simp at h
  | _ :: _, [], _, _, _, _, h, _ => by simp at h
  | p :: P, w :: vs, 0, m, nd, h1, h2, hk => by
    simp at h1 h2; subst h1; subst h2
    show bindL kindOf ((p, w) :: P.zip vs) m p = _
    unfold bindL
    rw [yu2 fun v hv => (List.nodup_cons.mp nd).1 (List.of_mem_zip hv).1, if_pos hk]
    simp
  | p :: P, w :: vs, i + 1, m, nd, h1, h2, hk => by
    show bindL kindOf ((p, w) :: P.zip vs) m x = _
    unfold bindL
    exact yu4 (i := i) (List.nodup_cons.mp nd).2 (by simpa using h1) (by simpa using h2) hk
theorem yu5 {kindOf : Str -> Option NameKind} {x : Str} {v : Value} : ∀ {P : List Str} {vs : List Value} {i : Nat} {m : Str -> Option Value}, P.Nodup -> P[i]? = some x -> vs[i]? = some v -> kindOf x ≠ some .local ->
    bindC kindOf (P.zip vs) m x = some v
  | [], _, _, _, _, h, _, _ => by simp at h
  | _ :: _, [], _, _, _, _, h, _ => by simp at h
  | p :: P, w :: vs, 0, m, nd, h1, h2, hk => by
    simp at h1 h2; subst h1; subst h2
    show bindC kindOf ((p, w) :: P.zip vs) m p = _
    unfold bindC
    rw [yu3 fun v hv => (List.nodup_cons.mp nd).1 (List.of_mem_zip hv).1, if_neg hk]
    simp
  | p :: P, w :: vs, i + 1, m, nd, h1, h2, hk => by
    show bindC kindOf ((p, w) :: P.zip vs) m x = _
    unfold bindC
    exact yu5 (i := i) (List.nodup_cons.mp nd).2 (by simpa using h1) (by simpa using h2) hk
noncomputable def start (N : List Str) (vs : List V) : St := vs.map some ++ List.replicate (N.length - vs.length) none
noncomputable def zk9 (CX : CXT) (P : Program) (w : World) (K : PySem.W.Frag) (mg : Str -> Option Value) (base : Heap) (N : List Str) (qual : Str) (scope : Scope) (f : Addr) (cd : Value) (A : Around) (outer : List Env) (s : Shared) (H : Hp) (E : XK) : Cx where
  prog := P
  w := w
  K := K
  mg := mg
  base := base
  A := A.deeper (envOfC qual scope s.heap.objs.size f cd)
  N := N
  s₀ := s
  H₀ := H
  env := envOfC qual scope s.heap.objs.size f cd
  outer := outer
  stack := envOfC qual scope s.heap.objs.size f cd :: outer
  ex := []
  calm := true
  fn := fun _ => true
  pn := []
  xe := fun e s' => wpAny (model P w) (A.deeper (envOfC qual scope s.heap.objs.size f cd)) (leaving (envOfC qual scope s.heap.objs.size f cd) e) (fun _ s'' => CX outer H s E e s'') (fun e' s'' => CX outer H s E e' s'') s'
theorem yy1 {sc : Scope} {n : Nat} {x : Str} (h : sc.names.lookup x = some .cell) : ∃ c, (cellsFrom n sc.names []).lookup x = some c := by
  have q := PySem.W.cellsFrom_some sc.names n [] (.inl h)
  exact Option.isSome_iff_exists.mp q
theorem xm9 {CX : CXT} {P : Program} {w : World} {K : PySem.W.Frag} {mg : Str -> Option Value} {base : Heap} {N ps : List Str} {qual : Str} {scope : Scope} {f : Addr} {cd : Value} {A : Around} {outer : List Env} {s s1 : Shared} {H : Hp} {E : XK} {us : List Value} {vs : List V}
    (S : FnScope N ps scope) (hd : A.handled = none) (e0 : Env0 P w K mg base A outer s H) (hl : vs.length = ps.length) (r : zc0 vs us)
    (x : InCallC s s.heap.objs.size (bindL (envOfC qual scope s.heap.objs.size f cd).kindOf (ps.zip us) fun _ => none) (cellsFrom (s.heap.objs.size + 1) scope.names []) (bindC (envOfC qual scope s.heap.objs.size f cd).kindOf (ps.zip us) fun _ => none) s1) :
    Inv (zk9 CX P w K mg base N qual scope f cd A outer s H E) [] (start N vs) H s1 := by
  have hpl : ps.length <= N.length := by have := congrArg List.length S.pre; rw [List.length_take] at this; omega
  obtain ⟨h1, tk, rfl, hk⟩ := x.done
  have noA : ∀ b : Addr, b ∉ (zk9 CX P w K mg base N qual scope f cd A outer s H E).ex := fun b z => absurd (show b ∈ ([] : List Addr) from z) (by simp)
  refine ⟨⟨e0.mod, S.kind, rfl, rfl, Nat.le_refl _, fun y z c h1 h2 => ?_, fun y hy => ?_, fun y c _ h => ?_, fun _ => hd, Around.frames_deeper e0.frames, .inr ⟨rfl, rfl⟩, fun b z => absurd z (noA b), e0.bs, e0.bsz, fun b _ _ => noA b, fun b z => absurd z (noA b), e0.funs, e0.frf⟩,
    rfl, e0.bare, Un.kept hk, ⟨_, x.toInCall.ns, fun i y v h1 h2 h3 => ?_⟩, fun y c h => ⟨_, x.cell y c h⟩, e0.hok.fresh (Nat.le_refl _), fun y c h => ?_, fun p hp => absurd (show p ∈ ([] : List (Addr × Obj)) from hp) (by simp), e0.hok.kept hk, ?_⟩
  . exact name_of_addr x.apart (PySem.mem_of_lookup h1) (PySem.mem_of_lookup h2)
  . have hy : scope.names.lookup y = some .cell \/ scope.names.lookup y = some .free := hy
    rcases hy with hy | hy
    . exact yy1 hy
    . exact absurd rfl (S.nofree _ (PySem.mem_of_lookup hy))
  . exact Nat.le_of_lt (x.above y c (PySem.mem_of_lookup h))
  . have hi : i < vs.length := by
      unfold start at h2
      by_cases hi : i < vs.length
      . exact hi
      . rw [List.getElem?_append_right (by simpa using hi)] at h2
        rw [List.getElem?_replicate] at h2
        split at h2 <;> cases h2
    have ha : vs[i]? = some v := by
      unfold start at h2
      rw [List.getElem?_append_left (by simpa using hi), List.getElem?_map] at h2
      cases e : vs[i]? with
      | none => rw [e] at h2; cases h2
      | some a => rw [e] at h2; cases h2; rfl
    obtain ⟨u, hu, rv⟩ := r.get ha
    have hp : ps[i]? = some y := by
      rw [<- S.pre, List.getElem?_take_of_lt (by omega)]; exact h1
    have ndP : ps.Nodup := by rw [<- S.pre]; exact S.nd.sublist (List.take_sublist _ _)
    refine ⟨u, rv, ?_⟩
    rcases S.par y (List.mem_of_getElem? hp) with k | k
    . exact .inl ⟨k, yu4 ndP hp hu k⟩
    . obtain ⟨c, e⟩ := yy1 (n := s.heap.objs.size + 1) k
      refine .inr ⟨.inl k, c, e, ?_⟩
      have q := x.cell y c e
      rw [yu5 ndP hp hu (by show scope.names.lookup y ≠ _; rw [k]; decide)] at q
      exact q
  . exact e0.hok.fresh (Nat.le_of_lt (x.above y c (PySem.mem_of_lookup h)))
  . unfold start
    show _ = N.length
    rw [List.length_append, List.length_map, List.length_replicate]
    omega
theorem xv1 {CX : CXT} {P : Program} {w : World} {K : PySem.W.Frag} {mg : Str -> Option Value} {base : Heap} {k : Nat} {f : Addr} {name qual : Str} {params : Arguments} {body : List Stmt} {scope : Scope} {dV kV doc pm cdv ct oc : Value} {an od : Option Addr}
    {osl : Array (Option Value)} {N ps : List Str} {sp : Sp} (lk : K.lookup f = some ⟨oc, od, .func (PySem.W.fnOf name qual params body scope dV kV doc pm an cdv ct), osl⟩) (hcd : PySem.W.codeIn K cdv qual = true) (S : FnScope N ps scope)
    (len : ∀ vs H Q E, sp vs H Q E -> vs.length = ps.length)
    (hbody : ∀ (A : Around) (outer : List Env) (s : Shared) (H : Hp) (vs : List V) (Q : VK) (E : XK), Room k (A.deeper (envOfC qual scope s.heap.objs.size f cdv)) -> sp vs H Q E ->
      ∃ t, PSs (zk9 CX P w K mg base N qual scope f cdv A outer s H E) body t /\ t { nx := fun _ H' => Q .non H', rt := Q } (start N vs) H) :
    FnOk P w K mg base CX (k + 1) f (PySem.W.fnOf name qual params body scope dV kV doc pm an cdv ct) ps sp := by
  refine ⟨len, fun A outer s H args us vs Q E hr e0 hb r hsp => ?_⟩
  have hl := len _ _ _ _ hsp
  have KX : K.In s.heap := e0.mod.kin.keeps fun b o e => (e0.bs b o e).1
  have lim : s.heap.NoLimit := e0.mod.nolimit.keeps fun b o e => (e0.bs b o e).1
  have hkind : ∀ y ∈ ps.zip us, scope.names.lookup y.1 = some .local \/ (scope.names.lookup y.1 = some .cell /\ ((cellsFrom (s.heap.objs.size + 1) scope.names []).lookup y.1).isSome = true) := fun ⟨n, v⟩ hy => by
    rcases S.par n (List.of_mem_zip hy).1 with q | q
    . exact .inl q
    . exact .inr ⟨q, PySem.W.cellsFrom_some _ _ _ (.inl q)⟩
  refine codeAny_call_function hr.depth (KX _ _ lk) rfl S.co S.gen rfl (PySem.W.codeRec_of KX hcd) (hb _ _ _ _ ?_)
  refine wpAny_newFunctionEnv_cells S.kind hkind fun env he s1 x => ?_
  subst he
  refine ⟨lim.keeps x.toInCall.keep, codeAny_func ?_⟩
  obtain ⟨t, ht, hq⟩ := hbody A outer s H vs Q E (hr.deeper _) hsp
  have I : Inv (zk9 CX P w K mg base N qual scope f cdv A outer s H E) [] (start N vs) H s1 := xm9 S hr.hd e0 hl r x
  refine wpAny_mono (ht [] s1 (start N vs) H _ I hq) (fun fl s' hs => ?_) fun e s' hs => hs
  have fin : ∀ {σ' : St} {H' : Hp} {v : V} {u : Value}, Inv (zk9 CX P w K mg base N qual scope f cdv A outer s H E) [] σ' H' s' -> zd2 v u -> Q v H' -> CE outer P w H s Q u s' :=
    fun {σ' H' v u} J rv q => ⟨v, H', J.os, J.bare, J.base, J.hok, rv, q⟩
  cases fl with
  | ret u =>
    obtain ⟨v, σ', H', J, rv, q⟩ := hs
    exact fin J rv q
  | next =>
    obtain ⟨σ', H', J, q⟩ := hs
    exact fin (v := V.non) (u := Value.none) J rfl q
  | brk =>
    obtain ⟨_, _, _, q⟩ := hs
    exact False.elim q
  | cont =>
    obtain ⟨_, _, _, q⟩ := hs
    exact False.elim q
end L2
namespace L2
open PySem PySem.Spec PyProof.Rows
section
variable {X : Cx} {x : Str} {p pos : Pos} {e : Expr} {es : List Expr} {t : TA} {id T : String} {r : List V -> Hp -> VK -> Prop}
noncomputable def tCB (r : List V -> Hp -> VK -> Prop) (t : TA) : TE := fun σ H Q => t σ H fun vs H1 => r vs H1 Q
theorem zz1 (hc : zk0 X (.builtin id) r) (hg : Gl X x) (hm : X.mg x = none) (hv : bootBuiltins x = some (.builtin id)) (ha : PA X (e :: es) t) (hn : x ≠ "__name__" := by decide) (hdb : (x == ("__debug__" : Str)) = false := by decide)
    (he : starEach (e :: es) X.env = (false, eval e X.env) :: starEach es X.env := by rfl) (hpl : (backTo pos (starEach es X.env)).any (·.1) = false := by rfl) : PE X (.Call (.Name x p) (e :: es) [] pos) (tCB r t) := by
  intro pins s σ H Q I h
  refine wpAny_Call_Name_kw (yn2 I hg hm hv ?_ hn hdb)
  exact PyProof.Rows.callWith_builtin1 (thn (ha pos pins s σ H _ I h) fun us s1 ⟨vs, H1, I1, r1, q1⟩ => hc pins s1 σ H1 vs us Q I1 r1 q1) he hpl
theorem xn0 (hc : zk0 X (.type T) r) (hg : Gl X x) (hm : X.mg x = none) (hv : bootBuiltins x = some (.type T)) (ha : PA X (e :: es) t) (hn : x ≠ "__name__" := by decide) (hdb : (x == ("__debug__" : Str)) = false := by decide)
    (he : starEach (e :: es) X.env = (false, eval e X.env) :: starEach es X.env := by rfl) (hpl : (backTo pos (starEach es X.env)).any (·.1) = false := by rfl) : PE X (.Call (.Name x p) (e :: es) [] pos) (tCB r t) := by
  intro pins s σ H Q I h
  refine wpAny_Call_Name_kw (yn2 I hg hm hv ?_ hn hdb)
  exact PyProof.Rows.callWith_type1 (thn (ha pos pins s σ H _ I h) fun us s1 ⟨vs, H1, I1, r1, q1⟩ => hc pins s1 σ H1 vs us Q I1 r1 q1) he hpl
end
end L2
namespace HT
open PySem PyProof.Rows
section
open PySem.SeqAt
open PySem.AutoSeq1 (wpAny_loadPart')
open PySem.MeetsSeq PySem.MeetsSeq2 PySem.MeetsSeq3
end
end HT
namespace L2
open PySem PySem.Spec PyProof.Rows
noncomputable abbrev TO := St -> Hp -> (Option Int -> Hp -> Prop) -> Prop
section
variable {X : Cx} {e : Expr} {te : TE} {lo hi : Option Expr} {tl th : TO} {pos p2 : Pos}
noncomputable def SlR (X : Cx) (r : V -> Option Int -> Option Int -> Hp -> VK -> Prop) : Prop :=
  ∀ (pins : List (Addr × Obj)) (s : Shared) (σ : St) (H : Hp) (x : V) (v vl vu : Value) (lo hi : Option Int) (sl : Addr) (Q : VK), Inv X pins σ H s -> zd2 x v -> s.heap.IsSliceOf sl vl vu .none -> IsPart vl lo -> IsPart vu hi -> r x lo hi H Q ->
    ∃ T id, typeLookup (.type T) "__getitem__" = pure (some (.builtin id)) /\ s.TypeIs v T /\ wpAny (model X.prog X.w) X.A (getItem v (.ref sl)) (EP X pins σ Q) X.xe s
theorem SlR.or {r r' : V -> Option Int -> Option Int -> Hp -> VK -> Prop} (h : SlR X r) (h' : SlR X r') : SlR X (fun x lo hi H Q => r x lo hi H Q \/ r' x lo hi H Q) := by
  intro pins s σ H x v vl vu lo hi sl Q I rx hs pl pu q
  rcases q with q | q
  . exact h pins s σ H x v vl vu lo hi sl Q I rx hs pl pu q
  . exact h' pins s σ H x v vl vu lo hi sl Q I rx hs pl pu q
end
end L2
namespace L2
open PySem PySem.Spec PyProof.Rows
noncomputable def ixN (n : Nat) (i : Int) : Option Nat := if 0 <= i then (if i < n then some i.toNat else none) else if -(n : Int) <= i then some (i + n).toNat else none
noncomputable def atI {α : Type} (xs : List α) (i : Int) : Option α := (ixN xs.length i).bind fun j => xs[j]?
theorem yr3 {n : Nat} {i : Int} {j : Nat} (h : ixN n i = some j) : seqIndex? i n = some j /\ j < n /\ -(n : Int) <= i /\ i < n := by
  unfold ixN at h
  by_cases h0 : 0 <= i
  . rw [if_pos h0] at h
    by_cases h1 : i < n
    . rw [if_pos h1] at h
      have e : i.toNat = j := Option.some.inj h
      exact ⟨by rw [seqIndex_of h0 h1, e], by omega, by omega, h1⟩
    . rw [if_neg h1] at h; cases h
  . rw [if_neg h0] at h
    by_cases h1 : -(n : Int) <= i
    . rw [if_pos h1] at h
      have e : (i + n).toNat = j := Option.some.inj h
      exact ⟨by rw [seqIndex_neg (by omega) h1, e], by omega, h1, by omega⟩
    . rw [if_neg h1] at h; cases h
theorem zy8 {α : Type} {xs : List α} {i : Int} {v : α} (h : atI xs i = some v) : ∃ j, seqIndex? i xs.length = some j /\ xs[j]? = some v /\ j < xs.length /\ -(xs.length : Int) <= i /\ i < xs.length := by
  unfold atI at h
  cases e : ixN xs.length i with
  | none => rw [e] at h; cases h
  | some j =>
    rw [e] at h
    obtain ⟨h1, h2, h3, h4⟩ := yr3 e
    exact ⟨j, h1, h, h2, h3, h4⟩
theorem yr4 {α : Type} {xs : List α} {j : Nat} {v : α} (h : xs[j]? = some v) : atI xs (j : Int) = some v := by
  have hj : j < xs.length := (List.getElem?_eq_some_iff.mp h).1
  have e : ixN xs.length (j : Int) = some j := by
    unfold ixN
    rw [if_pos (by omega), if_pos (by omega)]; simp
  unfold atI; rw [e]; exact h
noncomputable def yt9 (b : Expr) : Prop := ∀ o i, subscripted b false o i = operate [o, i] (getItem o i)
noncomputable def IxR (X : Cx) (r : R2) : Prop :=
  ∀ (value slice : Expr) (pins : List (Addr × Obj)) (s : Shared) (σ : St) (H : Hp) (x y : V) (v u : Value) (Q : VK), Inv X pins σ H s -> zd2 x v -> zd2 y u -> r x y H Q ->
    subscripted slice false v u = operate [v, u] (getItem v u) -> wpAny (model X.prog X.w) X.A (subscriptTail value slice v u) (EP X pins σ Q) X.xe s
noncomputable def MtR (X : Cx) (id : String) (r : V -> List V -> Hp -> VK -> Prop) : Prop :=
  ∀ (pins : List (Addr × Obj)) (s : Shared) (σ : St) (H : Hp) (x : V) (xs : List V) (v : Value) (us : List Value) (Q : VK), Inv X pins σ H s -> zd2 x v -> zc0 xs us -> r x xs H Q ->
    wpAny (model X.prog X.w) X.A (call (.builtin id) (v :: us)) (EP X pins σ Q) X.xe s
section
variable {X : Cx} {a b : Expr} {ta tb : TE} {pos : Pos}
theorem IxR.or {r r' : R2} (h : IxR X r) (h' : IxR X r') : IxR X (fun x y H Q => r x y H Q \/ r' x y H Q) := by
  intro value slice pins s σ H x y v u Q I rx ry q hs
  rcases q with q | q
  . exact h value slice pins s σ H x y v u Q I rx ry q hs
  . exact h' value slice pins s σ H x y v u Q I rx ry q hs
theorem MtR.or {id : String} {r r' : V -> List V -> Hp -> VK -> Prop} (h : MtR X id r) (h' : MtR X id r') : MtR X id (fun x xs H Q => r x xs H Q \/ r' x xs H Q) := by
  intro pins s σ H x xs v us Q I rx rs q
  rcases q with q | q
  . exact h pins s σ H x xs v us Q I rx rs q
  . exact h' pins s σ H x xs v us Q I rx rs q
theorem xv2 {r : R2} (hr : IxR X r) (ha : PE X a ta) (hb : PE X b tb) (hs : yt9 b) : PE X (.Subscript a b pos) (tOp r ta tb) := by
  intro pins s σ H Q I h
  exact Subscript_ (xq9 ha hb I h fun v u s2 x y H2 I2 rx ry q => hr a b pins s2 σ H2 x y v u Q I2 rx ry q (hs _ _))
noncomputable def wf2 (K : PySem.W.Frag) : R2 := fun x y H Q => ∃ p xs i v, x = .ref p /\ y = .int i /\ SqL K H p xs /\ atI xs i = some v /\ Q v H
noncomputable def wf3 (K : PySem.W.Frag) : R2 := fun x y H Q => ∃ p xs i v, x = .ref p /\ y = .int i /\ SqT K H p xs /\ atI xs i = some v /\ Q v H
noncomputable def wf4 : R2 := fun x y H Q => ∃ z i c, x = .str z /\ y = .int i /\ z.length <= sizeLine /\ atI z.cps.toList i = some c /\ Q (.str ⟨#[c]⟩) H
theorem xf2 : IxR X (wf2 X.K) := by
  intro value slice pins s σ H x y v u Q I rx ry h hs
  obtain ⟨p, xs, i, z, rfl, rfl, hq, he, q⟩ := h
  cases rx
  obtain ⟨t, rfl⟩ := ry
  obtain ⟨its, r, pl, hz⟩ := I.list hq
  obtain ⟨j, h1, h2, h3, h4, h5⟩ := zy8 he
  obtain ⟨w, ew, rw'⟩ := r.get h2
  have hl := r.length
  have hn := zz0
  have fin : EP X pins σ Q w s := ⟨z, H, I, rw', q⟩
  by_cases h0 : 0 <= i
  . have hj : i.toNat = j := by
      rw [seqIndex_of h0 h5] at h1
      exact Option.some.inj h1
    exact item_listR pl.isList h0 (by omega) (by rw [hj]; simpa using ew) fin hs
  . have hj : (i + (its.toArray.size : Int)).toNat = j := by
      rw [seqIndex_neg (by omega) h4] at h1
      rw [List.size_toArray, <- hl]
      exact Option.some.inj h1
    exact subscriptTail_builtinR (x := w) pl.isList.typeIs slot_list_getitem.lookup
      (wpAny_getItem_list_neg (Q := fun r s' => r = w /\ EP X pins σ Q r s') pl.isList (by omega) (by rw [List.size_toArray] <;> omega) (by omega) (by rw [hj]; simpa using ew) ⟨rfl, fin⟩) hs
theorem wc0 : IxR X (wf3 X.K) := by
  intro value slice pins s σ H x y v u Q I rx ry h hs
  obtain ⟨p, xs, i, z, rfl, rfl, hq, he, q⟩ := h
  cases rx
  obtain ⟨t, rfl⟩ := ry
  obtain ⟨its, r, pl, hz⟩ := I.tuple hq
  obtain ⟨j, h1, h2, h3, h4, h5⟩ := zy8 he
  obtain ⟨w, ew, rw'⟩ := r.get h2
  have hl := r.length
  have hn := zz0
  have fin : EP X pins σ Q w s := ⟨z, H, I, rw', q⟩
  exact subscriptTail_builtinR (x := w) pl.typeIs slot_tuple_getitem.lookup
    (getItem_tuple (j := j) (Q := fun r s' => r = w /\ EP X pins σ Q r s') pl (by omega) (by omega) (by rw [List.size_toArray, <- hl]; exact h1) (by simpa using ew) ⟨rfl, fin⟩) hs
theorem wc1 : IxR X wf4 := by
  intro value slice pins s σ H x y v u Q I rx ry h hs
  obtain ⟨z, i, c, rfl, rfl, hz, he, q⟩ := h
  obtain ⟨t, rfl⟩ := rx
  obtain ⟨t', rfl⟩ := ry
  obtain ⟨j, h1, h2, h3, h4, h5⟩ := zy8 he
  have hl : z.cps.toList.length = z.length := by simp [Str.length]
  rw [hl] at h1 h4 h5
  have hn := zz0
  exact tail_any (typeIs_str s z t) slot_str_getitem.lookup (getItem_str (c := c) (by
    have e1 : decide (i < -(2 ^ 63 : Int)) = false := decide_eq_false (by omega)
    have e2 : decide (i >= 2 ^ 63) = false := decide_eq_false (by omega)
    rw [e1, e2, Bool.or_false]) (by rw [h1]; simpa using h2) ⟨.str ⟨#[c]⟩, H, I.tok _, ⟨_, rfl⟩, q⟩) hs
noncomputable def rIx (K : PySem.W.Frag) : R2 := fun x y H Q => wf2 K x y H Q \/ wf3 K x y H Q \/ wf4 x y H Q
theorem wc2 : IxR X (rIx X.K) := xf2.or (wc0.or wc1)
theorem xi2 (its : List Value) (n j : Nat) (u : Value) : Obj.mapSeq (·.setIfInBounds j u) { cls := .type "list", data := .seq its.toArray n } = { cls := .type "list", data := .seq (its.set j u).toArray n } := by
  simp [Obj.mapSeq]
theorem Inv.lst {pins : List (Addr × Obj)} {σ : St} {H : Hp} {s : Shared} {p : Addr} {xs : List V} (I : Inv X pins σ H s) (h : H p = some (.lst xs)) :
    ∃ (its : List Value) (n : Nat), zc0 xs its /\ s.heap.get? p = some { cls := .type "list", data := .seq its.toArray n } /\ xs.length <= sizeLine := by
  obtain ⟨z, its, n, r, e⟩ := I.hok p _ h
  exact ⟨its, n, r, e, z⟩
theorem Inv.lstUpd {pins : List (Addr × Obj)} {σ : St} {H : Hp} {s : Shared} {p : Addr} {xs ys : List V} {its its' : List Value} {n n' : Nat} {f : Obj -> Obj} (I : Inv X pins σ H s) (h : H p = some (.lst xs))
    (ho : s.heap.get? p = some { cls := .type "list", data := .seq its.toArray n }) (hf : f { cls := .type "list", data := .seq its.toArray n } = { cls := .type "list", data := .seq its'.toArray n' }) (r : zc0 ys its') (hz : ys.length <= sizeLine) (t : Nat) :
    Inv X pins σ (upd H p (.lst ys)) { s with heap := s.heap.update p f, toks := t } := by
  have e : (s.heap.update p f).get? p = some { cls := .type "list", data := .seq its'.toArray n' } := by
    rw [Heap.get?_update_self f ho (by rw [hf] <;> rfl), hf]
  refine I.write (x := p) (e := p) (by rw [h]; trivial) (.inl rfl) (fun b u hb q => (Heap.get?_update_other _ _ (Ne.symm hb)).trans q) ⟨_, e⟩ ?_
  exact ⟨hz, its', n', r, e⟩
noncomputable def wh8 : V -> V -> V -> Hp -> (Hp -> Prop) -> Prop := fun o i v H Q => ∃ p xs k j, o = .ref p /\ i = .int k /\ H p = some (.lst xs) /\ ixN xs.length k = some j /\ Q (upd H p (.lst (xs.set j v)))
theorem xr6 : we8 X wh8 := by
  intro pins s σ H o i v ov iv u Q I ro ri rv h
  obtain ⟨p, xs, k, j, rfl, rfl, hp, hj, q⟩ := h
  cases ro
  obtain ⟨t, rfl⟩ := ri
  obtain ⟨its, n, r, ho, hz⟩ := I.lst hp
  obtain ⟨h1, h2, h3, h4⟩ := yr3 hj
  have hl := r.length
  have hn := zz0
  have I' : Inv X pins σ (upd H p (.lst (xs.set j v))) { s with heap := s.heap.update p (Obj.mapSeq (·.setIfInBounds j u)) } :=
    I.lstUpd hp ho (xi2 its n j u) (r.set rv j) (by rw [List.length_set]; exact hz) s.toks
  by_cases h0 : 0 <= k
  . have hk : k.toNat = j := by
      rw [seqIndex_of h0 h4] at h1
      exact Option.some.inj h1
    exact PySem.W.ki_setAt ho h0 (by omega) (by rw [List.size_toArray, <- hl]; exact h4) (by rw [hk]; exact ⟨_, I', q⟩)
  . have hk : (k + (its.toArray.size : Int)).toNat = j := by
      rw [seqIndex_neg (by omega) h3] at h1
      rw [List.size_toArray, <- hl]
      exact Option.some.inj h1
    exact PySem.W.ki_setBack ho (by omega) (by rw [List.size_toArray, <- hl]; exact h3) (by omega) (by rw [hk]; exact ⟨_, I', q⟩)
noncomputable def zq6 : V -> Bool
  | .non => true
  | .bl _ => true
  | .int _ => true
  | .str _ => true
  | _ => false
noncomputable def eqV : V -> V -> Bool
  | .non, .non => true
  | .bl a, .bl b => a == b
  | .bl a, .int b => (if a then 1 else 0) == b
  | .int a, .bl b => a == (if b then 1 else 0)
  | .int a, .int b => a == b
  | .str a, .str b => a == b
  | _, _ => false
theorem wc3 {A : Around} {s : Shared} {y x : V} {u v : Value} (ry : zd2 y u) (rx : zd2 x v) (fy : zq6 y = true) (fx : zq6 x = true) : SeqAt.EqAt A s u v (eqV y x) := by
  cases y with
  | non =>
    cases ry
    cases x with
    | non => cases rx; exact SeqAt.EqAt.same _
    | bl b => cases rx; exact SeqAt.EqAt.none_bool b
    | int b => obtain ⟨t, rfl⟩ := rx; exact SeqAt.EqAt.none_int b t
    | str b => obtain ⟨t, rfl⟩ := rx; exact SeqAt.EqAt.none_str b t
    | _ => exact absurd (show false = true from fx) Bool.false_ne_true
  | bl a =>
    cases ry
    cases x with
    | non => cases rx; exact SeqAt.EqAt.bool_none a
    | bl b => cases rx; exact SeqAt.EqAt.bool_bool a b
    | int b => obtain ⟨t, rfl⟩ := rx; exact SeqAt.EqAt.bool_int a b t
    | str b => obtain ⟨t, rfl⟩ := rx; exact SeqAt.EqAt.bool_str a b t
    | _ => exact absurd (show false = true from fx) Bool.false_ne_true
  | int a =>
    obtain ⟨t', rfl⟩ := ry
    cases x with
    | non => cases rx; exact SeqAt.EqAt.int_none a t'
    | bl b => cases rx; exact SeqAt.EqAt.int_bool a t' b
    | int b => obtain ⟨t, rfl⟩ := rx; exact SeqAt.EqAt.int_int a t' b t
    | str b => obtain ⟨t, rfl⟩ := rx; exact SeqAt.EqAt.int_str a t' b t
    | _ => exact absurd (show false = true from fx) Bool.false_ne_true
  | str a =>
    obtain ⟨t', rfl⟩ := ry
    cases x with
    | non => cases rx; exact SeqAt.EqAt.str_none a t'
    | bl b => cases rx; exact SeqAt.EqAt.str_bool a t' b
    | int b => obtain ⟨t, rfl⟩ := rx; exact SeqAt.EqAt.str_int a t' b t
    | str b => obtain ⟨t, rfl⟩ := rx; exact SeqAt.EqAt.str_str a t' b t
    | _ => exact absurd (show false = true from fx) Bool.false_ne_true
  | _ => exact absurd (show false = true from fy) Bool.false_ne_true
noncomputable def eqU (x : V) (u : Value) : Bool := match u with
  | .none => eqV .non x
  | .bool b => eqV (.bl b) x
  | .int i _ => eqV (.int i) x
  | .str z _ => eqV (.str z) x
  | _ => false
theorem xn1 {x y : V} {u : Value} (r : zd2 y u) (f : zq6 y = true) : eqU x u = eqV y x := by
  cases y with
  | non => cases r; rfl
  | bl b => cases r; rfl
  | int i => obtain ⟨t, rfl⟩ := r; rfl
  | str z => obtain ⟨t, rfl⟩ := r; rfl
  | _ => exact absurd (show false = true from f) Bool.false_ne_true
theorem yr5 {x : V} : ∀ {xs : List V} {us : List Value}, zc0 xs us -> xs.all zq6 = true -> us.any (eqU x) = xs.any fun y => eqV y x
  | _, _, .nil, _ => rfl
  | y :: xs, u :: us, .cons r t, f => by
    rw [List.all_cons, Bool.and_eq_true] at f
    rw [List.any_cons, List.any_cons, xn1 r f.1, yr5 t f.2]
theorem yl2 {A : Around} {s : Shared} {x : V} {v : Value} (rx : zd2 x v) (fx : zq6 x = true) : ∀ {xs : List V} {us : List Value}, zc0 xs us -> xs.all zq6 = true -> ∀ u ∈ us, SeqAt.EqAt A s u v (eqU x u)
  | _, _, .nil, _ => fun u hu => by cases hu
  | y :: xs, u :: us, .cons r t, f => fun u' hu => by
    rw [List.all_cons, Bool.and_eq_true] at f
    rcases List.mem_cons.mp hu with rfl | hu
    . rw [xn1 r f.1]; exact wc3 r rx f.1 fx
    . exact yl2 rx fx t f.2 u' hu
noncomputable def inV (x : V) (xs : List V) : Bool := xs.any fun y => eqV y x
noncomputable def rIn (K : PySem.W.Frag) (neg : Bool) : R2 := fun x y H Q => ∃ p xs, y = .ref p /\ (SqL K H p xs \/ SqT K H p xs) /\ zq6 x = true /\ xs.all zq6 = true /\ Q (.bl (if neg then !inV x xs else inV x xs)) H
theorem xn2 : OpR X (compareOp .In) (rIn X.K false) := by
  intro pins s σ H x y v u Q I rx ry h
  obtain ⟨p, xs, rfl, hq, fx, fs, q⟩ := h
  cases ry
  rcases hq with hq | hq
  . obtain ⟨its, r, pl, hz⟩ := I.list hq
    refine SeqAt.in_listAt (eqU x) pl.isList (fun w hw => yl2 rx fx r fs w (by simpa using hw)) ⟨.bl _, H, I, rfl, ?_⟩
    rw [show its.toArray.any (eqU x) = its.any (eqU x) by simp, yr5 r fs]
    exact q
  . obtain ⟨its, r, pl, hz⟩ := I.tuple hq
    refine SeqAt.in_tupleAt (eqU x) pl (fun w hw => yl2 rx fx r fs w (by simpa using hw)) ⟨.bl _, H, I, rfl, ?_⟩
    rw [show its.toArray.any (eqU x) = its.any (eqU x) by simp, yr5 r fs]
    exact q
theorem zo6 : zk0 X (.builtin "len") (fun xs H Q => ∃ p ys, xs = [.ref p] /\ (SqL X.K H p ys \/ SqT X.K H p ys) /\ Q (.int ys.length) H) := by
  intro pins s σ H xs us Q I r h
  obtain ⟨p, ys, rfl, hq, q⟩ := h
  obtain ⟨u, rfl, rx⟩ := yn5 r
  cases rx
  have hn := zz0
  rcases hq with hq | hq
  . obtain ⟨its, r', pl, hz⟩ := I.list hq
    have hlen := r'.length
    exact Calls.call_len_list pl.isList (by simp only [List.size_toArray] <;> omega) ⟨.int ys.length, H, I.tok _, ⟨s.toks + 1, by rw [List.size_toArray, hlen]⟩, q⟩
  . obtain ⟨its, r', pl, hz⟩ := I.tuple hq
    have hlen := r'.length
    exact len_tuple pl (by simp only [List.size_toArray] <;> omega) ⟨.int ys.length, H, I.tok _, ⟨s.toks + 1, by rw [List.size_toArray, hlen]⟩, q⟩
theorem yy2 : zk0 X (.builtin "len") (fun xs H Q => ∃ z, xs = [.str z] /\ z.length <= sizeLine /\ Q (.int z.length) H) := by
  intro pins s σ H xs us Q I r h
  obtain ⟨z, rfl, hz, q⟩ := h
  obtain ⟨u, rfl, t, rfl⟩ := yn5 r
  have hn := zz0
  exact len_str (by omega) ⟨.int z.length, H, I.tok _, ⟨_, rfl⟩, q⟩
theorem zk0.or {f : Value} {r r' : List V -> Hp -> VK -> Prop} (h : zk0 X f r) (h' : zk0 X f r') : zk0 X f (fun xs H Q => r xs H Q \/ r' xs H Q) := by
  intro pins s σ H xs us Q I rs q
  rcases q with q | q
  . exact h pins s σ H xs us Q I rs q
  . exact h' pins s σ H xs us Q I rs q
theorem yf4 : zk0 X (.type "tuple") (fun xs H Q => ∃ p ys, xs = [.ref p] /\ ((SqL X.K H p ys /\ ∀ l, H l = none -> Q (.ref l) (upd H l (.tup ys))) \/ (SqT X.K H p ys /\ Q (.ref p) H))) := by
  intro pins s σ H xs us Q I r h
  obtain ⟨p, ys, rfl, h⟩ := h
  obtain ⟨u, rfl, rx⟩ := yn5 r
  cases rx
  rcases h with ⟨hq, q⟩ | ⟨hq, q⟩
  . obtain ⟨its, r', pl, hz⟩ := I.list hq
    have hlen := r'.length
    refine call_tuple_list pl.isList (fun h' kp => ?_) (by simp only [List.size_toArray] <;> omega)
    have I1 : Inv X pins σ H { s with heap := h' } := I.kept (t' := s.toks) kp
    have I2 : Inv X pins σ (upd H h'.objs.size (.tup ys)) { s with heap := h'.push { cls := .type "tuple", data := .seq its.toArray } } :=
      I1.laid (t' := s.toks) (fun b o e => Heap.get?_push_of_some _ e) (Nat.le_refl _) (show zi8 X.prog X.w _ _ _ (.tup ys) from ⟨hz, its, r', IsTup.new _ _⟩)
    exact ⟨.ref h'.objs.size, _, I2, rfl, q _ (I1.hok.fresh (Nat.le_refl _))⟩
  . obtain ⟨its, r', pl, hz⟩ := I.tuple hq
    exact call_tuple_same pl ⟨.ref p, H, I, rfl, q⟩
noncomputable def tyV (K : PySem.W.Frag) (T : String) (x : V) (H : Hp) : Prop := match x with
  | .str _ => T = "str"
  | .int _ => T = "int"
  | .ref p => (T = "list" /\ ∃ xs, SqL K H p xs) \/ (T = "tuple" /\ ∃ o, K.lookup p = some o /\ o.cls = .type "tuple" /\ o.dict = none) \/
      (T = "dict" /\ ((∃ kvs, H p = some (.dK kvs)) \/ ∃ kvs, H p = some (.dT kvs))) \/ (T = "set" /\ ∃ S n, H p = some (.set S n))
  | _ => False
theorem wc4 {pins : List (Addr × Obj)} {σ : St} {H : Hp} {s : Shared} {T : String} {x : V} {v : Value} (I : Inv X pins σ H s) (r : zd2 x v) (ty : tyV X.K T x H) :
    s.TypeIs v T /\ ∀ a, v = .ref a -> ∃ ob, s.heap.get? a = some ob /\ ob.dict = none := by
  cases x with
  | str z =>
    obtain ⟨t, rfl⟩ := r
    cases (show T = "str" from ty)
    exact ⟨typeIs_str s z t, fun _ e => nomatch e⟩
  | int i =>
    obtain ⟨t, rfl⟩ := r
    cases (show T = "int" from ty)
    exact ⟨typeIs_int s i t, fun _ e => nomatch e⟩
  | ref p =>
    cases r
    rcases ty with ⟨rfl, xs, hq⟩ | ⟨rfl, o, hk, hc, hd⟩ | ⟨rfl, hk⟩ | ⟨rfl, S, n, hk⟩
    . obtain ⟨its, _, pl, _⟩ := I.list hq
      refine ⟨pl.isList.typeIs, fun a e => ?_⟩
      cases e
      obtain ⟨o, n, e, c, hd, _⟩ := pl
      exact ⟨o, e, hd⟩
    . refine ⟨⟨o, I.kIn p o hk, hc⟩, fun a e => ?_⟩
      cases e
      exact ⟨o, I.kIn _ o hk, hd⟩
    . have z : ∃ o, s.heap.get? p = some o /\ o.ExactDict := by
        rcases hk with ⟨kvs, hk⟩ | ⟨kvs, hk⟩
        . obtain ⟨_, _, _, _, o, _, _, e, ex, _⟩ := I.hok p _ hk
          exact ⟨o, e, ex⟩
        . obtain ⟨_, _, _, _, o, _, _, e, ex, _⟩ := I.hok p _ hk
          exact ⟨o, e, ex⟩
      obtain ⟨o, e, ex⟩ := z
      refine ⟨⟨o, e, ex.1⟩, fun a e2 => ?_⟩
      cases e2
      exact ⟨o, e, ex.2.1⟩
    . obtain ⟨o, _, _, _, e, ex, _⟩ := I.hok p _ hk
      refine ⟨⟨o, e, ex.1⟩, fun a e2 => ?_⟩
      cases e2
      exact ⟨o, e, ex.2.1⟩
  | _ => exact False.elim ty
noncomputable def tBM (K : PySem.W.Frag) (T : String) (r : V -> List V -> Hp -> VK -> Prop) (to : TE) (t : TA) : TE := fun σ H Q => to σ H fun x H1 => tyV K T x H1 /\ t σ H1 fun xs H2 => r x xs H2 Q
variable {o e : Expr} {es : List Expr} {to : TE} {t : TA} {name : Str} {apos cpos : Pos} {T id : String} {r : V -> List V -> Hp -> VK -> Prop}
theorem xv3 (pa : PlainAttrs T) (slot : Slot T name id) (hty : typeOf (.builtin id) = pure (.type "method_descriptor")) (hm : MtR X id r) (ho : PE X o to) (ha : PA X (e :: es) t)
    (hbase : attributeBase o name X.env (eval o X.env) = eval o X.env := by rfl)
    (hfew : ((backTo cpos (starEach (e :: es) X.env)).all (fun x => !x.1) && (backToKw cpos (keywordEach [] X.env)).all (fun x => x.1.isSome)
      && decide ((e :: es).length + ([] : List Keyword).length + (if ([] : List Keyword).isEmpty then 0 else 1) < 30)) = true := by rfl)
    (hline : (apos.endLine == cpos.line) = true := by rfl) (hs : starEach (e :: es) X.env = (false, eval e X.env) :: starEach es X.env := by rfl) (hplain : (backTo cpos (starEach es X.env)).any (·.1) = false := by rfl) :
    PE X (.Call (.Attribute o name apos) (e :: es) [] cpos) (tBM X.K T r to t) := by
  intro pins s σ H Q I h
  refine wpAny_Call_method_late hbase hfew hline rfl (thn (ho pins s σ H _ I h) fun v s1 ⟨x, H1, I1, r1, ty, q1⟩ => ?_)
  obtain ⟨h1, h2⟩ := wc4 I1 r1 ty
  refine ⟨T, id, pa, slot, hty, h1, h2, ?_⟩
  have hA := ha cpos pins s1 σ H1 _ I1 q1
  rw [hs] at hA |-
  refine Calls.callWith_builtin (by show (false || (backTo cpos (starEach es X.env)).any (·.1)) = false; rw [hplain] <;> rfl) (Calls.evalArgs_plain ?_)
  exact thn hA fun us s2 ⟨vs, H2, I2, r2, q2⟩ => hm pins s2 σ H2 x vs v us Q I2 r1 r2 q2
end
end L2
namespace L2
open PySem PySem.Spec PyProof.Rows
noncomputable def MtM (X : Cx) (id : String) (r : V -> List V -> Hp -> VK -> Prop) : Prop :=
  ∀ (pins : List (Addr × Obj)) (s : Shared) (σ : St) (H : Hp) (x : V) (xs : List V) (v : Value) (us : List Value) (Q : VK), Inv X pins σ H s -> zd2 x v -> zc0 xs us -> r x xs H Q ->
    wpAny (model X.prog X.w) X.A (call (.builtin id) (v :: us)) (EP X pins σ Q) X.xe s
theorem zc0.one : ∀ {x : V} {us : List Value}, zc0 [x] us -> ∃ u, us = [u] /\ zd2 x u
  | _, _, .cons r .nil => ⟨_, rfl, r⟩
theorem zc0.zero : ∀ {us : List Value}, zc0 [] us -> us = []
  | _, .nil => rfl
theorem zc0.reverse {xs : List V} {us : List Value} (h : zc0 xs us) : zc0 xs.reverse us.reverse := by
  induction h with
  | nil => exact .nil
  | cons r t ih => rw [List.reverse_cons, List.reverse_cons]; exact zc0.append ih (.cons r .nil)
theorem zc0.rep {xs : List V} {us : List Value} (h : zc0 xs us) : ∀ k : Nat, zc0 (List.replicate k xs).flatten (List.replicate k us).flatten
  | 0 => .nil
  | k + 1 => by
    rw [List.replicate_succ, List.replicate_succ, List.flatten_cons, List.flatten_cons]
    exact zc0.append h (zc0.rep h k)
section
variable {X : Cx} {pins : List (Addr × Obj)} {σ : St} {H : Hp} {s : Shared} {l b : Addr} {xs ys zs : List V}
theorem Inv.lset {its its' : List Value} {n : Nat} {f : Array Value -> Array Value} {t' : Nat} (I : Inv X pins σ H s) (hH : H l = some (.lst xs))
    (e : s.heap.get? l = some { cls := .type "list", data := .seq its.toArray n }) (hf : f its.toArray = its'.toArray) (hv : zc0 ys its') (hz : ys.length <= sizeLine) :
    Inv X pins σ (upd H l (.lst ys)) { s with heap := s.heap.update l (Obj.mapSeq f), toks := t' } := by
  have q := PySem.IsL.update e f
  rw [hf] at q
  refine I.write (x := l) (e := l) (by rw [hH]; exact trivial) (.inl rfl) (fun b' u hb hu => (Heap.get?_update_other s.heap (Obj.mapSeq f) (Ne.symm hb)).trans hu) ⟨_, q⟩ ?_
  exact ⟨hz, its', _, hv, q⟩
theorem Inv.lnew {its : List Value} {t' : Nat} (I : Inv X pins σ H s) (hv : zc0 ys its) (hz : ys.length <= sizeLine) :
    Inv X pins σ (upd H s.heap.objs.size (.lst ys)) { s with heap := s.heap.push { cls := .type "list", data := .seq its.toArray }, toks := t' } :=
  I.laid (fun _ _ q => Heap.get?_push_of_some _ q) (Nat.le_refl _) ⟨hz, its, 0, hv, Heap.get?_push_size _ rfl⟩
theorem Inv.fresh (I : Inv X pins σ H s) : H s.heap.objs.size = none := I.hok.fresh (Nat.le_refl _)
theorem Inv.lstM (I : Inv X pins σ H s) (hH : H l = some (.lst xs)) : xs.length <= sizeLine /\ ∃ (its : List Value) (n : Nat), zc0 xs its /\ xs.length = its.length /\ s.heap.get? l = some { cls := .type "list", data := .seq its.toArray n } := by
  obtain ⟨z, its, n, r, e⟩ := I.hok l _ hH
  exact ⟨z, its, n, r, r.length, e⟩
end
section
variable {X : Cx}
noncomputable def xz7 : V -> List V -> Hp -> VK -> Prop := fun x vs H Q => ∃ l xs y, x = .ref l /\ vs = [y] /\ H l = some (.lst xs) /\ xs.length < sizeLine /\ Q .non (upd H l (.lst (xs ++ [y])))
theorem yu6 : MtM X "list.append" xz7 := by
  intro pins s σ H x vs v us Q I rx rv h
  obtain ⟨l, xs, y, rfl, rfl, hH, hz, q⟩ := h
  cases rx
  obtain ⟨u, rfl, ru⟩ := rv.one
  obtain ⟨z, its, n, r, hl, e⟩ := I.lstM hH
  refine call_meets F.slot_list_append ⟨_, e, rfl⟩ F.entry_list_append (F.args_list_append_2 _ _) (PySem.list_append l its.toArray n u (by rw [List.size_toArray]; omega)) ⟨e, ?_⟩
  refine ⟨.non, _, I.lset (its' := its ++ [u]) hH e (by simp) (r.append (.cons ru .nil)) ?_, rfl, q⟩
  rw [List.length_append, List.length_singleton]
  omega
end
end L2
namespace Att
open PySem PySem.W PySem.Calls PyProof.Rows
theorem yn8 {P : Params} {h : Heap} : ∀ (ns : List Int) (vs : List Value), WellAll P h vs (ns.map WData.int) -> IntsAre vs ns := by
  intro ns
  induction ns with
  | nil =>
    intro vs w
    rw [List.map_nil] at w
    cases w
    exact .nil
  | cons n ns ih =>
    intro vs w
    rw [List.map_cons] at w
    cases w with
    | cons a b =>
      cases a
      exact .cons _ _ (ih _ b)
theorem xn3 {l : OpenLaw} {n : Nat} (hn : l.most = some n) {P : Params} {h : Heap} {args : List WData} {vals : List Value}
    (hpre : l.row.toRowW.claim.pre args = true) (hwl : WellAll P h vals args) :
    ∃ a vs ns, vals = [Value.ref a] /\ args = [WData.list (ns.map WData.int)] /\ h.get? a = some { cls := .type "list", data := .seq vs.toArray } /\ IntsAre vs ns /\ ns.length <= n := by
  have hsh : WShape.hasAll [] args [.list .int] = true := (pre_splitW hpre).1
  have hc : l.pre.holds [] { args := args } = true := (pre_splitW hpre).2
  obtain ⟨d, r, rfl, h1, h2⟩ := hasAllW_cons hsh
  obtain rfl := hasAllW_nil h2
  obtain ⟨xs, rfl, h3⟩ := hasW_list h1
  obtain ⟨ns, rfl⟩ := items_int h3
  have hlen : ns.length <= n := by
    unfold OpenLaw.pre at hc
    have h4 : (WTm.not (.lt (.lit (.int (n : Int))) (.len (.arg 0)))).holds [] { args := [.list (ns.map .int)] } = true := by
      have h4 := (holds_andW hc).1
      rw [hn] at h4
      exact h4
    have h5 := condW_of h4 (w_not (w_lt w_lit (w_len_list (w_arg rfl))))
    rw [List.length_map] at h5
    refine Nat.le_of_not_lt fun q => ?_
    have q' : (n : Int) < ((ns.length : Nat) : Int) := by omega
    first
      | (rw [decide_eq_true q'] at h5; exact absurd h5 (by decide))
      | (simp at h5; omega)
  cases hwl with
  | cons w1 w2 =>
    cases w2
    cases w1 with
    | list ho hall => exact ⟨_, _, ns, rfl, rfl, ho, yn8 ns _ hall, hlen⟩
theorem xn4 (l : OpenLaw) (args : List WData) : l.row.toRowW.claim.post args (.bool true) args = true :=
  postW_of (r := l.row.toRowW) (X := (true == true))
    (show WShape.has [] (.bool true) .bool = true by first | rfl | decide | simp [WShape.has, WShape.arms, WShape.armsAll])
    (show (WTm.eq .res (.lit (.bool true))).value [] { args := args, res := some (.bool true), after := args } = some (.bool (true == true)) from w_eq_bool (w_res rfl) w_lit) rfl
theorem attach_call {l : OpenLaw} {n : Nat} {q : Program} {loose : List Str} {XP : (Str -> Option Value) -> Heap -> Prop} {YP : World -> Heap -> Prop} {d : DefRec}
    (hn : l.most = some n) (hdf : d.params.defaults = [])
    (call : ∀ (w : World) (s₀ s₁ : Shared) (mg mb : Str -> Option Value) (fa : Addr) (o : Obj) (pm cd doc : Value) (a : Addr) (vs : List Value) (ns : List Int),
      Ground q loose [] XP w s₀ mg mb s₁.heap -> YP w s₁.heap ->
      s₁.heap.get? fa = some o -> o.data = .func (docDef d.name d.params d.body d.scope pm cd doc) -> s₁.heap.CodeRec cd d.name -> mg d.name = some (.ref fa) ->
      s₁.heap.get? a = some { cls := .type "list", data := .seq vs.toArray } -> IntsAre vs ns -> ns.length <= n -> s₁.gens = #[] ->
      codeAny (model l.prog w) callerA (.call (.ref fa) ⟨[.ref a], []⟩) (fun r s' => r = .ok (.ret (.bool true)) /\ OldK s₁.heap s'.heap /\ s'.os = s₁.os /\ AllBare s'.gens) s₁) :
    WalkO q loose XP YP l.row.toRowW d [] (fun f vs => PySem.call f vs) := by
  intro w s₀ s₁ mg mb G Y fa o pm cd doc dV kV ho hd hcd hD hmg hg args vals as hpre hlay hrd hwl hlo
  obtain rfl : dV = .none := Dflts.none hD hdf
  obtain rfl : kV = .none := Dflts.noKw hD
  obtain ⟨a, vs, ns, rfl, rfl, hobj, hints, hlen⟩ := xn3 hn hpre hwl
  refine enter_call (codeAny_mono (call w s₀ s₁ mg mb fa o pm cd doc a vs ns G Y ho (fd_plain hd) hcd hmg hobj hints hlen hg) fun r s' hq => ?_)
  obtain ⟨rfl, h2, h3, h4⟩ := hq
  exact ⟨.inl ⟨.bool true, .bool true, [], rfl, fun _ => rfl, .bool true, xn4 l _, fun _ => ⟨List.Pairwise.nil, fun _ hm => (nomatch hm)⟩⟩, h2, h3, h4⟩
end Att
namespace L2
open PySem PySem.Spec PyProof.Rows
theorem yu7 : ∀ {vs : List Value} {ns : List Int}, IntsAre vs ns -> zc0 (ns.map V.int) vs
  | _, _, .nil => .nil
  | _, _, .cons n t h => .cons ⟨t, rfl⟩ (yu7 h)
noncomputable def xu8 (H : Hp) : Prop := ∀ b, H b = none \/ ∃ o xs, H b = some (.frz o (.lst xs))
theorem xr7 {P : Program} {w : World} {K : PySem.W.Frag} {mg mb : Str -> Option Value} {CX : CXT} {k : Nat} {fa a : Addr} {fd : FuncData} {x : Str} {sp : Sp} {s₁ : Shared} {vs : List Value} {ns : List Int}
    (KX : K.In s₁.heap) (hns : s₁.heap.Ns mainGlobals mg) (hb : s₁.heap.Ns builtinsNs mb) (hbb : ∀ x : Str, x ≠ "__name__" -> mb x = bootBuiltins x) (hlim : s₁.heap.NoLimit) (hg : s₁.gens = #[])
    (ha : s₁.heap.get? a = some { cls := .type "list", data := .seq vs.toArray }) (hi : IntsAre vs ns) (hl : ns.length <= sizeLine) (hr : Room k callerA)
    (F : ∀ base : Heap, K.In base -> base.Ns mainGlobals mg -> FnOk P w K mg base CX k fa fd [x] sp) (hbind : ∀ (s : Shared) (u : Value), BindsTo s fd ⟨[u], []⟩ [(x, u)])
    (hsp : ∀ H : Hp, xu8 H -> SqL K H a (ns.map V.int) -> sp [.ref a] H (fun v _ => v = .bl true) fun _ _ _ => False)
    (hCX : ∀ H e s', CX [] H s₁ (fun _ _ _ => False) e s' -> False) :
    codeAny (model P w) callerA (.call (.ref fa) ⟨[.ref a], []⟩) (fun r s' => r = .ok (.ret (.bool true)) /\ OldK s₁.heap s'.heap /\ s'.os = s₁.os /\ AllBare s'.gens) s₁ := by
  have rv := yu7 hi
  have lenV := hi.length
  have core : ∀ H : Hp, xu8 H -> SqL K H a (ns.map V.int) -> HOk P w H s₁.heap -> (∀ b, H b ≠ none -> b = a) -> (H a ≠ none -> K.lookup a = none) ->
      codeAny (model P w) callerA (.call (.ref fa) ⟨[.ref a], []⟩) (fun r s' => r = .ok (.ret (.bool true)) /\ OldK s₁.heap s'.heap /\ s'.os = s₁.os /\ AllBare s'.gens) s₁ := by
    intro H hO hS hok hA hK
    have base_of : ∀ {b : Addr} {o : Obj}, s₁.heap.get? b = some o -> H b = none -> (ye3 s₁.heap H).get? b = some o := fun e n => xq5 e n
    have noA : ∀ {b : Addr} {o : Obj} {es : Array DictEntry} {ep : Nat}, s₁.heap.get? b = some o -> o.data = .dict es ep -> H b = none := fun {b o es ep} e d => by
      cases q : H b with
      | none => rfl
      | some u =>
        have e' : b = a := hA b (by rw [q]; simp)
        subst e'
        rw [ha] at e; cases e
        have d' : Data.seq vs.toArray _ = Data.dict es ep := d
        cases d'
    have nsK : ∀ {b : Addr} {m : Str -> Option Value}, s₁.heap.Ns b m -> (ye3 s₁.heap H).Ns b m := fun {b m} ⟨o, es, ep, e, d, r⟩ => ⟨o, es, ep, base_of e (noA e d), d, r⟩
    have hKb : K.In (ye3 s₁.heap H) := fun b o e => base_of (KX b o e) (by
      cases q : H b with
      | none => rfl
      | some u =>
        have e' : b = a := hA b (by rw [q]; simp)
        subst e'
        rw [hK (by rw [q]; simp)] at e; cases e)
    have hM : Mod K mg (ye3 s₁.heap H) := ⟨hKb, nsK hns, ⟨mb, nsK hb, hbb⟩, let ⟨mc, h1, h2⟩ := hlim; ⟨mc, nsK h1, h2⟩⟩
    have e0 : Env0 P w K mg (ye3 s₁.heap H) callerA [] s₁ H := ⟨rfl, hM, fun b o e => xw5 e, Nat.le_of_eq (xl8 _ _), trivial, fun b hb => absurd (show b ∈ ([] : List Addr) from hb) (by simp), hok, .of_eq hg⟩
    refine codeAny_mono ((F _ hKb (nsK hns)).run callerA [] s₁ H ⟨[.ref a], []⟩ [.ref a] [.ref a] _ _ hr e0 (hbind s₁ (.ref a)) (.cons rfl .nil) (hsp H hO hS)) fun r s' h => ?_
    cases r with
    | error e => exact (hCX H e s' h).elim
    | ok fl =>
      cases fl with
      | next => exact False.elim h
      | brk => exact False.elim h
      | cont => exact False.elim h
      | ret u =>
        obtain ⟨v, H', os, bare, un, hok', r', q⟩ := h
        have q' : v = .bl true := q
        subst q'
        obtain rfl : u = Value.bool true := r'
        refine ⟨rfl, OldK.of_keep fun b o e => ?_, os, bare⟩
        cases q : H b with
        | none => exact un.keep b o e q (by intro z; exact absurd (show b ∈ ([] : List Addr) from z) (by simp)) (by simp)
        | some u =>
          rcases hO b with z | ⟨ob, xs, z⟩
          . rw [q] at z; cases z
          . have z2 := un.frzs b ob _ z
            obtain ⟨e1, _⟩ := hok b _ z
            obtain ⟨e2, _⟩ := hok' b _ z2
            rw [e] at e1; cases e1
            exact e2
  cases hk : K.lookup a with
  | some o =>
    have e := KX a o hk
    rw [ha] at e
    cases e
    refine core (fun _ => none) (fun _ => .inl rfl) (.inr ⟨_, vs.toArray, _, hk, rfl, rfl, rfl, by rw [List.size_toArray, lenV]; exact hl, by simpa using rv⟩) (fun b u z => by have z' : (none : Option HO) = some u := z; cases z') (fun b z => absurd rfl z) fun z => absurd rfl z
  | none =>
    refine core (fun b => if b = a then some (.frz { cls := .type "list", data := .seq vs.toArray } (.lst (ns.map V.int))) else none) (fun b => ?_) (.inl (.inr ⟨{ cls := .type "list", data := .seq vs.toArray }, if_pos rfl⟩)) (fun b u z => ?_) (fun b z => ?_) fun _ => hk
    . by_cases hb : b = a
      . exact .inr ⟨_, _, if_pos hb⟩
      . exact .inl (if_neg hb)
    . by_cases hb : b = a
      . have z' := (if_pos hb).symm.trans z
        cases z'
        subst hb
        exact ⟨ha, by rw [List.length_map]; exact hl, vs, _, rv, ha⟩
      . have z' := (if_neg hb).symm.trans z
        cases z'
    . by_cases hb : b = a
      . exact hb
      . exact absurd (if_neg hb) z
end L2
namespace L2
open PySem PySem.Spec PyProof.Rows
theorem xx5 {l : PySem.W.OpenLaw} {n k : Nat} {q : Program} {loose : List Str} {XP : (Str -> Option Value) -> Heap -> Prop} {YP : World -> Heap -> Prop} {d : DefRec} {K : Params -> PySem.W.Frag} {CX : World -> CXT} {sp : World -> Sp} {x : Str}
    (hn : l.most = some n) (hn2 : n <= sizeLine) (hdf : d.params.defaults = []) (hr : Room k callerA)
    (hY : ∀ (w : World) (h : Heap), YP w h -> (K w.params).In h)
    (F : ∀ (w : World) (mg : Str -> Option Value) (fa : Addr) (h : Heap), (K w.params).In h -> h.Ns mainGlobals mg -> mg d.name = some (.ref fa) ->
      ∃ fd : FuncData, (∀ (s : Shared) (u : Value), BindsTo s fd ⟨[u], []⟩ [(x, u)]) /\
        ∀ base : Heap, (K w.params).In base -> base.Ns mainGlobals mg -> FnOk l.prog w (K w.params) mg base (CX w) k fa fd [x] (sp w))
    (hsp : ∀ (w : World) (H : Hp) (a : Addr) (ns : List Int), ns.length <= n -> xu8 H -> SqL (K w.params) H a (ns.map V.int) -> sp w [.ref a] H (fun v _ => v = .bl true) fun _ _ _ => False)
    (hCX : ∀ (w : World) (H : Hp) (s : Shared) (e : Value) (s' : Shared), CX w [] H s (fun _ _ _ => False) e s' -> False) :
    PySem.W.WalkO q loose XP YP l.row.toRowW d [] (fun f vs => PySem.call f vs) := by
  refine Att.attach_call hn hdf fun w s₀ s₁ mg mb fa o pm cd doc a vs ns G Y ho hd hcd hmg hobj hints hlen hg => ?_
  have KX := hY w _ Y
  obtain ⟨fd, hb, hF⟩ := F w mg fa _ KX G.T.g hmg
  exact xr7 KX G.T.g G.T.b G.T.builtins G.T.nolimit hg hobj hints (Nat.le_trans hlen hn2) hr hF hb (fun H hO hS => hsp w H a ns hlen hO hS) fun H e s' => hCX w H s₁ e s'
end L2
namespace L2
open PySem PySem.Spec PyProof.Rows
noncomputable def zv8 (s : Stmt) (j : Nat) : Stmt := match s with
  | .ClassDef _ _ _ body _ _ _ _ _ _ _ => body.getD j (.Pass ⟨0, 0, 0, 0⟩)
  | _ => .Pass ⟨0, 0, 0, 0⟩
noncomputable def ze2 (s : Stmt) : Arguments := match s with
  | .FunctionDef _ a _ _ _ _ _ _ _ _ => a
  | _ => { posonlyargs := [], args := [], vararg := none, kwonlyargs := [], kw_defaults := [], kwarg := none, defaults := [] }
noncomputable def zd1 (s : Stmt) : List Stmt := match s with
  | .FunctionDef _ _ b _ _ _ _ _ _ _ => b
  | _ => []
noncomputable def za4 (s : Stmt) : Scope := match s with
  | .FunctionDef _ _ _ _ _ _ sc _ _ _ => sc
  | _ => { kind := .function, names := [], isGenerator := false, isCoroutine := false }
noncomputable abbrev CX0 : CXT := fun _ _ _ _ _ _ => False
noncomputable abbrev E0 : XK := fun _ _ _ => False
theorem yn9 {X : Cx} : zu7 CX0 X E0 := fun _ _ _ _ _ _ _ h => h.elim
structure Fun (K : PySem.W.Frag) (x qual : Str) (st : Stmt) (f : Addr) (fd : FuncData) : Prop where
  ex : ∃ (oc : Value) (od : Option Addr) (kV doc pm : Value) (an : Option Addr) (cdv ct : Value) (osl : Array (Option Value)),
    fd = PySem.W.fnOf x qual (ze2 st) (zd1 st) (za4 st) .none kV doc pm an cdv ct /\ K.lookup f = some ⟨oc, od, .func fd, osl⟩ /\ PySem.W.codeIn K cdv qual = true
  kp : PySem.W.keepIn K (.ref f) = true
section
variable {P : Program} {w : World} {K : PySem.W.Frag} {mg : Str -> Option Value} {base : Heap}
theorem Fun.ok {x qual : Str} {st : Stmt} {f : Addr} {fd : FuncData} {N ps : List Str} {k : Nat} {sp : Sp} (F : Fun K x qual st f fd) (S : FnScope N ps (za4 st)) (len : ∀ vs H Q E, sp vs H Q E -> vs.length = ps.length)
    (hbody : ∀ (cdv : Value) (A : Around) (outer : List Env) (s : Shared) (H : Hp) (vs : List V) (Q : VK) (E : XK), Room k (A.deeper (envOfC qual (za4 st) s.heap.objs.size f cdv)) -> sp vs H Q E ->
      ∃ t, PSs (zk9 CX0 P w K mg base N qual (za4 st) f cdv A outer s H E).nox (zd1 st) t /\ t { nx := fun _ H' => Q .non H', rt := Q } (start N vs) H) : FnOk P w K mg base CX0 (k + 1) f fd ps sp := by
  obtain ⟨oc, od, kV, doc, pm, an, cdv, ct, osl, rfl, lk, hcd⟩ := F.ex
  refine xv1 lk hcd S len fun A outer s H vs Q E hr hsp => ?_
  obtain ⟨t, h, q⟩ := hbody cdv A outer s H vs Q E hr hsp
  exact ⟨t, h.nox, q⟩
theorem Fun.binds {x qual : Str} {st : Stmt} {f : Addr} {fd : FuncData} {ps : List Str} (F : Fun K x qual st f fd)
    (h : ∀ (kV doc pm : Value) (an : Option Addr) (cdv ct : Value) (us : List Value), us.length = ps.length -> bindArgs (PySem.W.fnOf x qual (ze2 st) (zd1 st) (za4 st) .none kV doc pm an cdv ct) ⟨us, []⟩ = pure (ps.zip us)) : zs2 K fd ps [] := by
  obtain ⟨oc, od, kV, doc, pm, an, cdv, ct, osl, rfl, lk, hcd⟩ := F.ex
  exact .all (h kV doc pm an cdv ct)
theorem zl6 {x qual : Str} {st : Stmt} {f : Addr} {oc : Value} {od an : Option Addr} {osl : Array (Option Value)} {kV doc pm cdv ct : Value} (l : K.lookup f = some ⟨oc, od, .func (PySem.W.fnOf x qual (ze2 st) (zd1 st) (za4 st) .none kV doc pm an cdv ct), osl⟩)
    (c : PySem.W.codeIn K cdv qual = true) (k : PySem.W.keepIn K (.ref f) = true) : Fun K x qual st f (PySem.W.fnOf x qual (ze2 st) (zd1 st) (za4 st) .none kV doc pm an cdv ct) := ⟨⟨oc, od, kV, doc, pm, an, cdv, ct, osl, rfl, l, c⟩, k⟩
end
theorem yg0 {n : Nat} (h : n <= 1000) : n < sizeLine := Nat.lt_of_le_of_lt h (by decide)
section
variable {X : Cx}
theorem pv (i : Nat) {x : Str} {pos : Pos} (hN : X.N[i]? = some x := by rfl) (hv : Vis X.env.scope x := by first | exact Or.inl rfl | exact Or.inr (Or.inl rfl) | exact Or.inr (Or.inr rfl)) (hd : (x == ("__debug__" : Str)) = false := by decide)
    (hcd : (x == ("__classdict__" : Str)) = false := by decide) : PE X (.Name x pos) (we6 i) := yf8 hN hv hd hcd
end
theorem wi4 {c A B : Prop} [Decidable c] (h1 : c -> A) (h2 : ¬ c -> B) : if c then A else B := by
  by_cases h : c
  . rw [if_pos h]
    exact h1 h
  . rw [if_neg h]
    exact h2 h
noncomputable def zr4 (H H' : Hp) : Prop := ∀ b o, H b = some o -> H' b = some o
theorem zr4.refl (H : Hp) : zr4 H H := fun _ _ h => h
theorem zr4.trans {H H1 H2 : Hp} (a : zr4 H H1) (b : zr4 H1 H2) : zr4 H H2 := fun c o h => b c o (a c o h)
theorem zr4.free {H H' : Hp} (e : zr4 H H') {l : Addr} (h : H' l = Option.none) : H l = Option.none := by
  cases q : H l with
  | none => rfl
  | some o =>
    rw [e l o q] at h
    cases h
theorem zr4.seq {K : PySem.W.Frag} {H H' : Hp} {a : Addr} {xs : List V} (e : zr4 H H') (h : SqL K H a xs) : SqL K H' a xs := by
  rcases h with (h | ⟨o, h⟩) | h
  . exact .inl (.inl (e _ _ h))
  . exact .inl (.inr ⟨o, e _ _ h⟩)
  . exact .inr h
end L2
namespace L2
open PySem PySem.Spec PyProof.Rows
section
variable {κ : Type} [DecidableEq κ]
noncomputable def zx5 (kvs : List (κ × V)) (k : κ) : Option V := (kvs.find? fun kv => decide (kv.1 = k)).map (·.2)
noncomputable def yh3 (kvs : List (κ × V)) (k : κ) (v : V) : List (κ × V) :=
  if (kvs.any fun kv => decide (kv.1 = k)) = true then kvs.map (fun kv => if kv.1 = k then (kv.1, v) else kv) else kvs ++ [(k, v)]
noncomputable def xw1 (kvs : List (κ × V)) (k : κ) : List (κ × V) := kvs.filter fun kv => decide (kv.1 ≠ k)
theorem yl3 {p : κ × V} {r : List (κ × V)} {k : κ} (e : p.1 = k) : zx5 (p :: r) k = some p.2 := by simp [zx5, List.find?_cons, e]
theorem yl4 {p : κ × V} {r : List (κ × V)} {k : κ} (e : ¬ p.1 = k) : zx5 (p :: r) k = zx5 r k := by simp [zx5, List.find?_cons, e]
theorem yy3 (k : κ) : ∀ kvs : List (κ × V), (kvs.any fun kv => decide (kv.1 = k)) = (zx5 kvs k).isSome
  | [] => rfl
  | p :: r => by
    rw [List.any_cons]
    by_cases e : p.1 = k
    . simp only [yl3 e, decide_eq_true e, Bool.true_or, Option.isSome_some]
    . rw [yl4 e, decide_eq_false e, Bool.false_or]; exact yy3 k r
theorem zq5.isSome_eq {o : Option V} {u : Option Value} (r : zq5 o u) : o.isSome = u.isSome := by
  cases o with
  | none => cases u with
    | none => rfl
    | some _ => exact (show False from r).elim
  | some _ => cases u with
    | none => exact (show False from r).elim
    | some _ => rfl
theorem zq5.getD {o : Option V} {u : Option Value} {d : V} {d' : Value} (r : zq5 o u) (rd : zd2 d d') : zd2 (o.getD d) (u.getD d') := by
  cases o with
  | none => cases u with
    | none => exact rd
    | some _ => exact (show False from r).elim
  | some _ => cases u with
    | none => exact (show False from r).elim
    | some _ => exact r
theorem KV.val {kvs : List (κ × V)} {vs : List (κ × Value)} (r : KV kvs vs) (k : κ) : zq5 (zx5 kvs k) (valueAt vs k) := by
  unfold KV at r
  induction r with
  | nil => exact True.intro
  | @cons p q ps qs h t ih =>
    obtain ⟨h1, h2⟩ := h
    by_cases e : p.1 = k
    . have e' : q.1 = k := h1.symm.trans e
      have b : valueAt (q :: qs) k = some q.2 := by simp [valueAt, List.find?_cons, e']
      rw [yl3 e, b]; exact h2
    . have e' : ¬ q.1 = k := fun z => e (h1.trans z)
      have b : valueAt (q :: qs) k = valueAt qs k := by simp [valueAt, List.find?_cons, e']
      rw [yl4 e, b]; exact ih
theorem KV.any {kvs : List (κ × V)} {vs : List (κ × Value)} (r : KV kvs vs) (k : κ) : (kvs.any fun kv => decide (kv.1 = k)) = vs.any fun kv => decide (kv.1 = k) := by
  unfold KV at r
  induction r with
  | nil => rfl
  | cons h t ih => rw [List.any_cons, List.any_cons, ih, h.1]
theorem KV.repl {kvs : List (κ × V)} {vs : List (κ × Value)} (r : KV kvs vs) (k : κ) {y : V} {u : Value} (ry : zd2 y u) :
    KV (kvs.map fun kv => if kv.1 = k then (kv.1, y) else kv) (vs.map fun kv => if kv.1 = k then (kv.1, u) else kv) := by
  unfold KV at r |-
  induction r with
  | nil => exact .nil
  | @cons p q ps qs h t ih =>
    rw [List.map_cons, List.map_cons]
    refine .cons ?_ ih
    obtain ⟨h1, h2⟩ := h
    by_cases e : p.1 = k
    . rw [if_pos e, if_pos (h1.symm.trans e)]; exact ⟨h1, ry⟩
    . rw [if_neg e, if_neg (fun z => e (h1.trans z))]; exact ⟨h1, h2⟩
theorem KV.put {kvs : List (κ × V)} {vs : List (κ × Value)} (r : KV kvs vs) (k : κ) {y : V} {u : Value} (ry : zd2 y u) : KV (yh3 kvs k y) (stored vs k u) := by
  unfold yh3 stored
  rw [r.any k]
  by_cases e : (vs.any fun kv => decide (kv.1 = k)) = true
  . rw [if_pos e, if_pos e]; exact r.repl k ry
  . rw [if_neg e, if_neg e]; exact Paired.snoc r ⟨rfl, ry⟩
theorem KV.drop {kvs : List (κ × V)} {vs : List (κ × Value)} (r : KV kvs vs) (k : κ) : KV (xw1 kvs k) (without vs k) := by
  unfold KV at r |-
  unfold xw1 without
  induction r with
  | nil => exact .nil
  | @cons p q ps qs h t ih =>
    obtain ⟨h1, h2⟩ := h
    rw [List.filter_cons, List.filter_cons]
    by_cases e : p.1 = k
    . have a : ¬ decide (p.1 ≠ k) = true := by simp [e]
      have b : ¬ decide (q.1 ≠ k) = true := by simp [h1.symm.trans e]
      rw [if_neg a, if_neg b]; exact ih
    . have e' : ¬ q.1 = k := fun z => e (h1.trans z)
      have a : decide (p.1 ≠ k) = true := by simp [e]
      have b : decide (q.1 ≠ k) = true := by simp [e']
      rw [if_pos a, if_pos b]; exact .cons ⟨h1, h2⟩ ih
theorem KV.length {kvs : List (κ × V)} {vs : List (κ × Value)} (r : KV kvs vs) : kvs.length = vs.length := Paired.length r
end
noncomputable abbrev KT (H : Hp) : List (List Key × V) -> List (List Key × Addr × Value) -> Prop := Paired fun p q => p.1 = q.1 /\ H q.2.1 = some (.tup (p.1.map kV)) /\ zd2 p.2 q.2.2
theorem KT.val {H : Hp} {kvs : List (List Key × V)} {xs : List (List Key × Addr × Value)} (r : KT H kvs xs) (k : List Key) : zq5 (zx5 kvs k) ((atKey xs k).map (·.2)) := by
  induction r with
  | nil => exact True.intro
  | @cons p q ps qs h t ih =>
    obtain ⟨h1, _, h2⟩ := h
    by_cases e : p.1 = k
    . have e' : q.1 = k := h1.symm.trans e
      have b : atKey (q :: qs) k = some q.2 := by simp [atKey, List.find?_cons, e']
      rw [yl3 e, b]; exact h2
    . have e' : ¬ q.1 = k := fun z => e (h1.trans z)
      have b : atKey (q :: qs) k = atKey qs k := by simp [atKey, List.find?_cons, e']
      rw [yl4 e, b]; exact ih
theorem KT.repl {H : Hp} {kvs : List (List Key × V)} {xs : List (List Key × Addr × Value)} (r : KT H kvs xs) (k : List Key) {y : V} {u : Value} (ry : zd2 y u) :
    KT H (kvs.map fun kv => if kv.1 = k then (kv.1, y) else kv) (xs.map (putAt k u)) := by
  induction r with
  | nil => exact .nil
  | @cons p q ps qs h t ih =>
    rw [List.map_cons, List.map_cons]
    refine .cons ?_ ih
    obtain ⟨h1, h2, h3⟩ := h
    unfold putAt
    by_cases e : p.1 = k
    . rw [if_pos e, if_pos (h1.symm.trans e)]; exact ⟨h1, h2, ry⟩
    . rw [if_neg e, if_neg (fun z => e (h1.trans z))]; exact ⟨h1, h2, h3⟩
theorem KT.put {H : Hp} {kvs : List (List Key × V)} {xs : List (List Key × Addr × Value)} (r : KT H kvs xs) (k : List Key) {b : Addr} {y : V} {u : Value} (hb : H b = some (.tup (k.map kV))) (ry : zd2 y u) :
    KT H (yh3 kvs k y) (storedH xs k b u) := by
  have e : (kvs.any fun kv => decide (kv.1 = k)) = (atKey xs k).isSome := by
    rw [yy3, (r.val k).isSome_eq, Option.isSome_map]
  unfold yh3 storedH
  rw [e]
  by_cases q : (atKey xs k).isSome = true
  . rw [if_pos q, if_pos q]; exact r.repl k ry
  . rw [if_neg q, if_neg q]; exact Paired.snoc r ⟨rfl, hb, ry⟩
theorem KT.keeps {H H' : Hp} {kvs : List (List Key × V)} {xs : List (List Key × Addr × Value)} (r : KT H kvs xs) (ht : ∀ b ys, H b = some (.tup ys) -> H' b = some (.tup ys)) : KT H' kvs xs :=
  Paired.mapP r fun _ _ z => ⟨z.1, ht _ _ z.2.1, z.2.2⟩
noncomputable def xl0 (H : Hp) (a : Addr) (y : V) (r : Option V) : Prop :=
  (∃ kvs k, Rd H a (.dK kvs) /\ y = kV k /\ r = zx5 kvs k) \/ ∃ kvs k b, Rd H a (.dT kvs) /\ y = .ref b /\ H b = some (.tup (k.map kV)) /\ r = zx5 kvs k
noncomputable def xl1 (H : Hp) (a : Addr) (y v : V) (H' : Hp) : Prop :=
  (∃ kvs k, H a = some (.dK kvs) /\ y = kV k /\ kvs.length < sizeLine /\ H' = upd H a (.dK (yh3 kvs k v))) \/
  ∃ kvs k b, H a = some (.dT kvs) /\ y = .ref b /\ H b = some (.tup (k.map kV)) /\ kvs.length < sizeLine /\ H' = upd H a (.dT (yh3 kvs k v))
theorem xl0.k {H : Hp} {a : Addr} {kvs : List (Key × V)} {k : Key} (e : H a = some (.dK kvs)) : xl0 H a (kV k) (zx5 kvs k) := .inl ⟨kvs, k, .inl e, rfl, rfl⟩
theorem xl0.t {H : Hp} {a b : Addr} {kvs : List (List Key × V)} {k : List Key} (e : H a = some (.dT kvs)) (eb : H b = some (.tup (k.map kV))) : xl0 H a (.ref b) (zx5 kvs k) := .inr ⟨kvs, k, b, .inl e, rfl, eb, rfl⟩
theorem xl1.k {H : Hp} {a : Addr} {kvs : List (Key × V)} {k : Key} {v : V} (e : H a = some (.dK kvs)) (hl : kvs.length < sizeLine) : xl1 H a (kV k) v (upd H a (.dK (yh3 kvs k v))) := .inl ⟨kvs, k, e, rfl, hl, rfl⟩
theorem xl1.t {H : Hp} {a b : Addr} {kvs : List (List Key × V)} {k : List Key} {v : V} (e : H a = some (.dT kvs)) (eb : H b = some (.tup (k.map kV))) (hl : kvs.length < sizeLine) :
    xl1 H a (.ref b) v (upd H a (.dT (yh3 kvs k v))) := .inr ⟨kvs, k, b, e, rfl, eb, hl, rfl⟩
structure M1 (X : Cx) (o : Expr) (m : Str) (apos : Pos) (e : Expr) (cpos : Pos) : Prop where
  base : attributeBase o m X.env (eval o X.env) = eval o X.env
  few : ((backTo cpos (starEach [e] X.env)).all (fun x => !x.1) && (backToKw cpos (keywordEach [] X.env)).all (fun x => x.1.isSome)
    && decide (([e] : List Expr).length + ([] : List Keyword).length + (if ([] : List Keyword).isEmpty then 0 else 1) < 30)) = true
  line : (apos.endLine == cpos.line) = true
  trees : backTo cpos (starEach [e] X.env) = [(false, eval e X.env)]
structure M2 (X : Cx) (o : Expr) (m : Str) (apos : Pos) (e f : Expr) (cpos : Pos) : Prop where
  base : attributeBase o m X.env (eval o X.env) = eval o X.env
  few : ((backTo cpos (starEach [e, f] X.env)).all (fun x => !x.1) && (backToKw cpos (keywordEach [] X.env)).all (fun x => x.1.isSome)
    && decide (([e, f] : List Expr).length + ([] : List Keyword).length + (if ([] : List Keyword).isEmpty then 0 else 1) < 30)) = true
  line : (apos.endLine == cpos.line) = true
  trees : backTo cpos (starEach [e, f] X.env) = [(false, eval e X.env), (false, eval f X.env)]
end L2
namespace L2
open PySem PySem.Spec PyProof.Rows
structure Dn (K : PySem.W.Frag) (mg : Str -> Option Value) (x : Str) (st : Stmt) (ps : List Str) (f : Addr) (fd : FuncData) : Prop where
  F : Fun K x x st f fd
  b : zs2 K fd ps []
  m : mg x = some (.ref f)
section
variable {X : Cx} {x : Str} {st : Stmt} {ps : List Str} {f : Addr} {fd : FuncData} {k : Nat} {sp : Sp} {p pos : Pos} {e : Expr} {es : List Expr} {t : TA}
theorem xv4 (D : Dn X.K X.mg x st ps f fd) (G : FnOk X.prog X.w X.K X.mg X.base CX0 k f fd ps sp) (hr : Room k X.A) (hg : Gl X x) (ha : PA X (e :: es) t)
    (hdb : (x == ("__debug__" : Str)) = false := by decide) (he : starEach (e :: es) X.env = (false, eval e X.env) :: starEach es X.env := by rfl) (hpl : (backTo pos (starEach es X.env)).any (·.1) = false := by rfl) :
    PE X (.Call (.Name x p) (e :: es) [] pos) (yx4 sp [] E0 t) := xx2 G hr hg D.m D.F.kp D.b .nil yn9 ha hdb he hpl
theorem wc5 (D : Dn X.K X.mg x st ps f fd) (G : FnOk X.prog X.w X.K X.mg X.base CX0 k f fd ps sp) (hr : Room k X.A) (hg : Gl X x)
    (hdb : (x == ("__debug__" : Str)) = false := by decide) : PE X (.Call (.Name x p) [] [] pos) (yx4 sp [] E0 xk9) := xr4 G hr hg D.m D.F.kp D.b .nil yn9 hdb
end
theorem zr4.seqT {K : PySem.W.Frag} {H H' : Hp} {a : Addr} {xs : List V} (e : zr4 H H') (h : SqT K H a xs) : SqT K H' a xs := by
  rcases h with (h | ⟨o, h⟩) | h
  . exact .inl (.inl (e _ _ h))
  . exact .inl (.inr ⟨o, e _ _ h⟩)
  . exact .inr h
theorem xr8 {H : Hp} {p : Addr} (h : H p = none) (o : HO) : zr4 H (upd H p o) := fun b u q => by rw [zd4 (zr8 q h)]; exact q
theorem yx1 {n : Nat} (h : n <= 1000) : n <= sizeLine := Nat.le_of_lt (yg0 h)
noncomputable def yd1 (H : Hp) : V -> Option String
  | .non => some "NoneType"
  | .bl _ => some "bool"
  | .int _ => some "int"
  | .str _ => some "str"
  | .ref a => match H a with
    | some (.lst _) => some "list"
    | some (.frz _ (.lst _)) => some "list"
    | some (.tup _) => some "tuple"
    | some (.dK _) => some "dict"
    | _ => none
  | _ => none
noncomputable def yq5 (t c : String) : Bool := decide (t = c) || (decide (t = "bool") && decide (c = "int"))
noncomputable def kinds : List String := ["NoneType", "bool", "int", "str", "list", "tuple", "dict"]
theorem yy4 (K : PySem.W.Frag) : ∀ t ∈ kinds, ∀ c ∈ ["bool", "int", "str", "list", "tuple", "dict"], PySem.W.kitOne K (.type t) (.type c) = some (yq5 t c) := by
  intro t ht c hc
  simp only [kinds, List.mem_cons, List.not_mem_nil, or_false] at ht hc
  rcases ht with rfl | rfl | rfl | rfl | rfl | rfl | rfl <;> rcases hc with rfl | rfl | rfl | rfl | rfl | rfl <;> rfl
theorem xn5 {K : PySem.W.Frag} {H : Hp} {x : V} {t : String} (h : yd1 H x = some t) : TyOf K H x (.type t) /\ t ∈ kinds := by
  cases x with
  | non => cases h; exact ⟨.non, by decide⟩
  | bl b => cases h; exact ⟨.bl b, by decide⟩
  | int i => cases h; exact ⟨.int i, by decide⟩
  | str x => cases h; exact ⟨.str x, by decide⟩
  | ref a =>
    have h' : (match H a with
      | some (.lst _) => some "list"
      | some (.frz _ (.lst _)) => some "list"
      | some (.tup _) => some "tuple"
      | some (.dK _) => some "dict"
      | _ => none) = some t := h
    cases e : H a with
    | none => rw [e] at h'; cases h'
    | some o =>
      rw [e] at h'
      cases o with
      | lst xs => cases h'; exact ⟨.lst e, by decide⟩
      | tup xs => cases h'; exact ⟨.tup e, by decide⟩
      | dK kvs => cases h'; exact ⟨.dK e, by decide⟩
      | frz ob u =>
        cases u with
        | lst xs => cases h'; exact ⟨.frz e, by decide⟩
        | _ => cases h'
      | _ => cases h'
  | _ => cases h
section
variable {X : Cx}
theorem xr9 : zk0 X (.builtin "isinstance") (fun xs H Q => ∃ x c t, xs = [x, .ty c] /\ yd1 H x = some t /\ c ∈ ["bool", "int", "str", "list", "tuple", "dict"] /\ Q (.bl (yq5 t c)) H) := by
  intro pins s σ H xs us Q I r h
  obtain ⟨x, c, t, rfl, ht, hc, q⟩ := h
  obtain ⟨u, v, rfl, rx, rc⟩ := xh7 r
  cases (show v = Value.type c from rc)
  obtain ⟨ty, hk⟩ := xn5 (K := X.K) ht
  exact xm8 I rx ty (yy4 X.K t hk c hc) fun tk => ⟨.bl (yq5 t c), H, I.tok tk, rfl, q⟩
end
end L2
namespace L2
open PySem PySem.Spec PyProof.Rows
theorem yd3 {env : Env} : ∀ (names : List (Str × NameKind)) (cs : List (Str × Addr)),
    (∀ y ∈ names, y.2 = .free -> ∃ c, env.cells.lookup y.1 = some c) -> (∀ x c, cs.lookup x = some c -> env.cells.lookup x = some c) ->
    ∃ cl, (forIn names cs fun (y : Str × NameKind) (r : List (Str × Addr)) =>
        (if (y.2 == .free) = true then (do let a <- cellOf env y.1; pure (ForInStep.yield ((y.1, a) :: r))) else pure (ForInStep.yield r) : Sem (ForInStep (List (Str × Addr))))) = pure cl /\
      (∀ x c, cl.lookup x = some c -> env.cells.lookup x = some c) /\ (∀ x c, cs.lookup x = some c -> ∃ c', cl.lookup x = some c') /\ (∀ y ∈ names, y.2 = .free -> ∃ c, cl.lookup y.1 = some c)
  | [], cs, _, hc => ⟨cs, rfl, hc, fun x c h => ⟨c, h⟩, fun y hy => absurd hy (List.not_mem_nil)⟩
  | (n, k) :: r, cs, hn, hc => by
    have hr : ∀ y ∈ r, y.2 = .free -> ∃ c, env.cells.lookup y.1 = some c := fun y hy => hn y (List.mem_cons_of_mem _ hy)
    by_cases hk : k = .free
    . subst hk
      obtain ⟨c, e⟩ := hn (n, .free) List.mem_cons_self rfl
      have hc' : ∀ x c', ((n, c) :: cs).lookup x = some c' -> env.cells.lookup x = some c' := fun x c' h => by
        rw [List.lookup_cons] at h
        cases hx : x == n with
        | true =>
          rw [hx] at h
          have e1 : x = n := by simpa using hx
          have e2 : c = c' := Option.some.inj h
          rw [e1, <- e2]; exact e
        | false => rw [hx] at h; exact hc x c' h
      obtain ⟨cl, h1, h2, h3, h4⟩ := yd3 (env := env) r ((n, c) :: cs) hr hc'
      refine ⟨cl, ?_, h2, fun x c' h => ?_, fun y hy hf => ?_⟩
      . rw [List.forIn_cons]
        have e0 : cellOf env n = pure c := by unfold cellOf; rw [e]
        simp only [e0]
        exact h1
      . cases hx : x == n with
        | true =>
          have e1 : x = n := by simpa using hx
          exact h3 x c (by rw [List.lookup_cons, hx])
        | false => exact h3 x c' (by rw [List.lookup_cons, hx]; exact h)
      . rcases List.mem_cons.mp hy with e1 | hy
        . rw [e1]; exact h3 n c (by rw [List.lookup_cons]; simp)
        . exact h4 y hy hf
    . obtain ⟨cl, h1, h2, h3, h4⟩ := yd3 (env := env) r cs hr hc
      refine ⟨cl, ?_, h2, h3, fun y hy hf => ?_⟩
      . rw [List.forIn_cons]
        have e0 : (k == NameKind.free) = false := by simpa using hk
        simp only [e0]
        exact h1
      . rcases List.mem_cons.mp hy with e1 | hy
        . rw [e1] at hf; exact absurd hf hk
        . exact h4 y hy hf
theorem xi3 {env : Env} {scope : Scope} (h : ∀ y ∈ scope.names, y.2 = .free -> ∃ c, env.cells.lookup y.1 = some c) :
    ∃ cl, closureFor scope env = pure cl /\ (∀ x c, cl.lookup x = some c -> env.cells.lookup x = some c) /\ (∀ y ∈ scope.names, y.2 = .free -> ∃ c, cl.lookup y.1 = some c) := by
  obtain ⟨cl, h1, h2, _, h4⟩ := yd3 (env := env) scope.names [] h (fun x c e => by simp at e)
  refine ⟨cl, ?_, h2, h4⟩
  have e : ((forIn scope.names [] fun (y : Str × NameKind) (r : List (Str × Addr)) =>
        (if (y.2 == .free) = true then (do let a <- cellOf env y.1; pure (ForInStep.yield ((y.1, a) :: r))) else pure (ForInStep.yield r) : Sem (ForInStep (List (Str × Addr))))) >>= fun s => pure s) = pure cl := by rw [h1]; rfl
  exact e
structure CScope (sc : Scope) (NX N : List Str) (pick : List (Option Nat)) (scope : Scope) : Prop where
  kind : scope.kind = .function
  nocell : ∀ y ∈ scope.names, y.2 ≠ .cell
  names : ∀ y ∈ scope.names, y.2 = .local -> scope.names.lookup y.1 = some .local
  frees : ∀ y ∈ scope.names, y.2 = .free -> sc.names.lookup y.1 = some .cell \/ sc.names.lookup y.1 = some .free
  pk : ∀ p ∈ N.zip pick, ∀ j ∈ p.2, NX[j]? = some p.1 /\ scope.names.lookup p.1 = some .free
  nd : N.Nodup
  len : pick.length = N.length
noncomputable def zx6 (pick : List (Option Nat)) (σ : St) : St := pick.map fun o => o.bind fun j => (σ[j]?).join
noncomputable def cxB (X : Cx) (N : List Str) (scope : Scope) (cl : List (Str × Addr)) (fp : List Addr) (s : Shared) (H : Hp) : Cx where
  prog := X.prog
  w := X.w
  K := X.K
  mg := X.mg
  base := X.base
  A := X.A
  N := N
  s₀ := s
  H₀ := H
  env := compEnvC scope cl s.heap.objs.size X.env
  outer := X.stack
  stack := X.stack
  ex := fp
  fn := fun _ => false
  calm := X.calm
  pn := []
  xe := fun _ _ => False
noncomputable def PTs (X : Cx) (ifs : List Expr) (t : TT) : Prop :=
  ∀ (pins : List (Addr × Obj)) (s : Shared) (σ : St) (H : Hp) (Q : Bool -> Hp -> Prop), Inv X pins σ H s -> t σ H Q ->
    wpAny (model X.prog X.w) X.A (forIn ifs true fun c r => if r = true then do let ok <- isTrue c X.env (eval c X.env); pure (ForInStep.yield ok) else pure (ForInStep.yield r)) (TP X pins σ Q) X.xe s
noncomputable def wk5 : TT := fun _ H Q => Q true H
theorem wc6 {X : Cx} : PTs X [] wk5 := fun pins s σ H Q I h => wpAny_tests_nil ⟨H, I, h⟩
section
variable {prog : Program} {w : World} {A : Around} {R : Result -> Shared -> Prop} {s : Shared}
theorem xn6 {elt target iter : Expr} {ifs : List Expr} {scope : Scope} {pos : Pos} {it acc : Value} {env : Env} (I : Nat -> Shared -> Prop)
    (turn : ∀ n s, I n s -> wpAny (model prog w) A (pyNext it) (fun r s1 => match r with
      | none => R (.ok .next) s1
      | some v => wpAny (model prog w) A (letOwnedTupleGo target it v) (fun _ s1 => wpAny (model prog w) A (assign target env v) (fun _ s2 =>
          wpAny (model prog w) A (forIn ifs true fun c r => if r = true then do let ok <- isTrue c env (eval c env); pure (ForInStep.yield ok) else pure (ForInStep.yield r)) (fun ok s3 =>
            if ok = true then wpAny (model prog w) A (eval elt env) (fun x s4 =>
              wpAny (model prog w) A (call (.builtin "list.append") [acc, x]) (fun _ s5 => ∃ m, m < n /\ I m s5) (fun _ _ => False) s4) (fun _ _ => False) s3
            else ∃ m, m < n /\ I m s3) (fun _ _ => False) s2) (fun _ _ => False) s1) (fun _ _ => False) s1) (fun _ _ => False) s)
    (n : Nat) (h : I n s) : codeAny (model prog w) A (.compLoop (.ListComp elt [⟨target, iter, ifs, 0⟩] scope pos) 0 it acc env) R s := by
  refine codeAny_loop rfl I (fun n s hI => ?_) n h
  show wpAny _ A ((compTurn (.ListComp elt [⟨target, iter, ifs, 0⟩] scope pos) 0 it acc env).onRaise (fun x => do noteFrame x env; theTreesLotGoes x)) _ _ s
  refine wpAny_noted ?_
  rw [compTurn_list]
  refine wpAny_bind (wpAny_standAt (wpAny_bind (wpAny_mono (turn n s hI) (fun r s1 h1 => ?_) fun _ _ z => z.elim)))
  cases r with
  | none => exact wpAny_pure h1
  | some v =>
    refine wpAny_bind (wpAny_mono h1 (fun _ s1 h1 => wpAny_bind (wpAny_mono h1 (fun _ s2 h2 => wpAny_bind (wpAny_mono h2 (fun ok s3 h3 => ?_) fun _ _ z => z.elim)) fun _ _ z => z.elim)) fun _ _ z => z.elim)
    cases ok with
    | false => exact wpAny_pure ⟨rfl, h3⟩
    | true =>
      exact wpAny_bind (wpAny_bind (wpAny_mono h3 (fun x s4 h4 => wpAny_bind (wpAny_mono h4 (fun _ s5 h5 => wpAny_pure (wpAny_pure ⟨rfl, h5⟩)) fun _ _ z => z.elim)) fun _ _ z => z.elim))
end
noncomputable def wf5 (pick : List (Option Nat)) (wi : TI) (g : TG) (tt : TT) (te : TE) (σ : St) (H : Hp) (Q : Addr -> Hp -> Prop) : Prop := wi σ H fun J H1 => ∀ D, H1 D = none ->
  ∃ W : Nat -> Nat -> St -> Hp -> Prop, (∃ m, W 0 m (zx6 pick σ) (upd H1 D (.lst []))) /\ ∀ i m σ' H', W i m σ' H' ->
    (J.stop i H' /\ Q D H') \/ (J.go i H' /\ ∀ x H2, J.yld i H' x H2 -> g x σ' H2 fun σ3 H3 => tt σ3 H3 fun b H4 =>
      if b = true then te σ3 H4 fun y H5 => ∃ ys, H5 D = some (.lst ys) /\ ys.length < sizeLine /\ ∃ m', m' < m /\ W (i + 1) m' σ3 (upd H5 D (.lst (ys ++ [y]))) else ∃ m', m' < m /\ W (i + 1) m' σ3 H4)
noncomputable def wh9 (pick : List (Option Nat)) (wi : TI) (g : TG) (tt : TT) (te : TE) : TE := fun σ H Q => wf5 pick wi g tt te σ H fun D H' => Q (.ref D) H'
section
variable {X : Cx} {sc : Scope} {NX N : List Str} {pick : List (Option Nat)} {elt tg iter : Expr} {ifs : List Expr} {scope : Scope} {pos : Pos} {wi : TI} {g : TG} {tt : TT} {te : TE}
theorem zn0 {env : Env} : ∀ {names : List (Str × NameKind)} {x : Str} {k : NameKind}, (∀ y ∈ names, y.2 ≠ .cell) ->
    (names.map fun (n, k) => if (k == NameKind.free && env.scope.kind == .function && env.kindOf n == some .cell) then (n, NameKind.cell) else (n, k)).lookup x = some k -> (k = .cell \/ k = .free) -> (x, NameKind.free) ∈ names
  | [], _, _, _, h, _ => by simp at h
  | (n, k0) :: r, x, k, hn, h, hk => by
    have hr : ∀ y ∈ r, y.2 ≠ .cell := fun y hy => hn y (List.mem_cons_of_mem _ hy)
    have h' : List.lookup x ((if (k0 == NameKind.free && env.scope.kind == .function && env.kindOf n == some .cell) = true then (n, NameKind.cell) else (n, k0)) :: (r.map fun (n, k) => if (k == NameKind.free && env.scope.kind == .function && env.kindOf n == some .cell) then (n, NameKind.cell) else (n, k))) = some k := h
    by_cases hc : (k0 == NameKind.free && env.scope.kind == .function && env.kindOf n == some .cell) = true
    . rw [if_pos hc, List.lookup_cons] at h'
      cases hx : x == n with
      | true =>
        have e1 : x = n := by simpa using hx
        have e2 : k0 = .free := by
          simp only [Bool.and_eq_true, beq_iff_eq] at hc
          exact hc.1.1
        rw [e1, e2]; exact List.mem_cons_self
      | false => rw [hx] at h'; exact List.mem_cons_of_mem _ (zn0 hr h' hk)
    . rw [if_neg hc, List.lookup_cons] at h'
      cases hx : x == n with
      | true =>
        rw [hx] at h'
        have e1 : x = n := by simpa using hx
        have e2 : k0 = k := Option.some.inj h'
        have e3 : k0 = .free := by
          rcases hk with z | z
          . exact absurd (e2.trans z) (hn (n, k0) List.mem_cons_self)
          . exact e2.trans z
        rw [e1, e3]; exact List.mem_cons_self
      | false => rw [hx] at h'; exact List.mem_cons_of_mem _ (zn0 hr h' hk)
theorem ya6 {env : Env} : ∀ {names : List (Str × NameKind)} {x : Str}, names.lookup x = some .free ->
    (names.map fun (n, k) => if (k == NameKind.free && env.scope.kind == .function && env.kindOf n == some .cell) then (n, NameKind.cell) else (n, k)).lookup x = some .cell \/
    (names.map fun (n, k) => if (k == NameKind.free && env.scope.kind == .function && env.kindOf n == some .cell) then (n, NameKind.cell) else (n, k)).lookup x = some .free
  | [], _, h => by simp at h
  | (n, k0) :: r, x, h => by
    have ih := @ya6 env r x
    show List.lookup x ((if (k0 == NameKind.free && env.scope.kind == .function && env.kindOf n == some .cell) = true then (n, NameKind.cell) else (n, k0)) :: _) = _ \/ List.lookup x ((if (k0 == NameKind.free && env.scope.kind == .function && env.kindOf n == some .cell) = true then (n, NameKind.cell) else (n, k0)) :: _) = _
    rw [List.lookup_cons] at h
    cases hx : x == n with
    | true =>
      rw [hx] at h
      have e : k0 = .free := Option.some.inj h
      subst e
      by_cases hc : (NameKind.free == NameKind.free && env.scope.kind == .function && env.kindOf n == some .cell) = true
      . rw [if_pos hc]; left; rw [List.lookup_cons, hx]
      . rw [if_neg hc]; right; rw [List.lookup_cons, hx]
    | false =>
      rw [hx] at h
      rcases ih h with z | z
      . left
        by_cases hc : (k0 == NameKind.free && env.scope.kind == .function && env.kindOf n == some .cell) = true
        . rw [if_pos hc, List.lookup_cons, hx]; exact z
        . rw [if_neg hc, List.lookup_cons, hx]; exact z
      . right
        by_cases hc : (k0 == NameKind.free && env.scope.kind == .function && env.kindOf n == some .cell) = true
        . rw [if_pos hc, List.lookup_cons, hx]; exact z
        . rw [if_neg hc, List.lookup_cons, hx]; exact z
theorem xn7 {pins : List (Addr × Obj)} {σ : St} {H : Hp} {s : Shared} {cl : List (Str × Addr)} {fp : List Addr} {h' : Heap} {tk : Nat} (S : CScope sc NX N pick scope) (hsc : X.env.scope = sc) (hNX : X.N = NX)
    (I : Inv X pins σ H s) (hf : ∀ b ∈ fp, zz8 X pins H b) (ho : ∀ b ∈ fp, ∃ o, s.heap.get? b = some o)
    (c1 : ∀ x c, cl.lookup x = some c -> X.env.cells.lookup x = some c) (c2 : ∀ y ∈ scope.names, y.2 = .free -> ∃ c, cl.lookup y.1 = some c)
    (hns : h'.Ns s.heap.objs.size fun _ => none) (hk : ∀ b o, s.heap.get? b = some o -> h'.get? b = some o) :
    Inv (cxB X N scope cl fp s H) [] (zx6 pick σ) H { s with heap := h', toks := tk } := by
  have lt : ∀ b ∈ fp, b < s.heap.objs.size := fun b hb => by obtain ⟨o, e⟩ := ho b hb; exact Heap.lt_size e
  refine ⟨⟨I.ok.mod, S.kind, I.ok.glob, I.ok.blt, Nat.le_refl _, fun x y c h1 h2 => I.ok.inj x y c (c1 x c h1) (c1 y c h2), fun x hx => ?_, fun x c z => absurd z (by simp [cxB]), I.ok.hd, I.ok.frames, .inl rfl,
    fun b hb => ⟨Nat.ne_of_lt (lt b hb), fun x c e => (hf b hb).2.2.2.2.1 x c (c1 x c e)⟩, I.bs, Nat.le_trans I.ok.bsz I.sz, fun b o e hb => ?_, fun b hb z => ?_, I.stack, I.stkFree⟩,
    rfl, I.bare, Un.kept hk, ⟨_, hns, fun i x v h1 h2 h3 => ?_⟩, fun x c e => ?_, I.hok.fresh (Nat.le_refl _), fun x c e => I.freeC x c (c1 x c e), fun p hp => absurd (show p ∈ ([] : List (Addr × Obj)) from hp) (by simp), I.hok.kept hk, ?_⟩
  . have hx' : (relabel scope X.env).names.lookup x = some .cell \/ (relabel scope X.env).names.lookup x = some .free := hx
    have hm : (x, NameKind.free) ∈ scope.names := by
      rcases hx' with z | z
      . exact zn0 S.nocell z (.inl rfl)
      . exact zn0 S.nocell z (.inr rfl)
    exact c2 _ hm rfl
  . rcases (hf b hb).2.2.2.1 with z | z
    . exact I.ok.noex b o e z
    . exact absurd (Nat.lt_of_lt_of_le (Heap.lt_size e) (Nat.le_trans I.ok.bsz z)) (Nat.lt_irrefl _)
  . rcases List.mem_cons.mp (I.stkSub b z) with z | z
    . exact (hf b hb).2.1 z
    . exact (hf b hb).2.2.1 z
  ·
    have hN' : N[i]? = some x := h1
    have h2' : (zx6 pick σ)[i]? = some (some v) := h2
    unfold zx6 at h2'
    rw [List.getElem?_map] at h2'
    cases ep : pick[i]? with
    | none => rw [ep] at h2'; cases h2'
    | some o =>
      rw [ep] at h2'
      cases o with
      | none => cases h2'
      | some j =>
        have h4 : (σ[j]?).join = some v := Option.some.inj h2'
        have h5 : σ[j]? = some (some v) := by
          cases e : σ[j]? with
          | none => rw [e] at h4; cases h4
          | some q => rw [e] at h4; exact congrArg some h4
        have hz : (x, some j) ∈ N.zip pick := by
          refine List.mem_of_getElem? (i := i) ?_
          rw [List.getElem?_zip_eq_some]; exact ⟨hN', ep⟩
        obtain ⟨h6, h7⟩ := S.pk _ hz j rfl
        have hfr : (x, NameKind.free) ∈ scope.names := PySem.mem_of_lookup h7
        have hcf := S.frees _ hfr rfl
        have hcf' : X.env.kindOf x = some .cell \/ X.env.kindOf x = some .free := by
          show X.env.scope.names.lookup x = _ \/ X.env.scope.names.lookup x = _
          rw [hsc]; exact hcf
        obtain ⟨m, hn, hl⟩ := I.loc
        obtain ⟨u, ru, lk⟩ := hl j x v (by rw [hNX]; exact h6) h5 (.inr hcf')
        refine ⟨u, ru, .inr ⟨ya6 h7, ?_⟩⟩
        obtain ⟨c, ec⟩ := c2 _ hfr rfl
        refine ⟨c, ec, ?_⟩
        rcases lk with ⟨k1, _⟩ | ⟨_, c', ec', hcell⟩
        . rcases hcf' with z | z
          . rw [k1] at z; cases z
          . rw [k1] at z; cases z
        . have e' := c1 x c ec
          rw [ec'] at e'
          cases e'
          obtain ⟨o, e1, e2⟩ := hcell
          exact ⟨o, hk _ _ e1, e2⟩
  . obtain ⟨v, o, e1, e2⟩ := I.cell x c (c1 x c e)
    exact ⟨v, o, hk _ _ e1, e2⟩
  . show (zx6 pick σ).length = N.length
    unfold zx6
    rw [List.length_map]; exact S.len
theorem xi4 {pins : List (Addr × Obj)} {σ σ' : St} {H H' : Hp} {s s' : Shared} {cl : List (Str × Addr)} {fp : List Addr} (I : Inv X pins σ H s) (hf : ∀ b ∈ fp, zz8 X pins H b)
    (J : Inv (cxB X N scope cl fp s H) [] σ' H' s') : Inv X pins σ H' s' :=
  I.call' (ch := fp) J.os J.base J.hok J.bare fun b hb => ⟨(hf b hb).2.2.2.1, (hf b hb).2.1, (hf b hb).2.2.2.2.1, (hf b hb).2.2.2.2.2⟩
theorem xi5 {pins : List (Addr × Obj)} {σ : St} {H2 : Hp} {s2 : Shared} {cl : List (Str × Addr)} {J : It} {fp : List Addr} {it : Addr} {tn : Nat -> Heap -> Prop} {RR : Value -> Addr -> Result -> Shared -> Prop} {E : Value -> Shared -> Prop} {Q : Addr -> Hp -> Prop}
    (S : CScope sc NX N pick scope) (hsc : X.env.scope = sc) (hNX : X.N = NX) (hc : X.calm = true)
    (hg : ∀ cl fp s H, PG (cxB X N scope cl fp s H) tg g) (ht : ∀ cl fp s H, PTs (cxB X N scope cl fp s H) ifs tt) (he : ∀ cl fp s H, PE (cxB X N scope cl fp s H) elt te)
    (I2 : Inv X pins σ H2 s2) (T : Turn X.prog X.w X.K tg J fp it tn) (st2 : tn 0 s2.heap) (f2 : ∀ b ∈ fp, zz8 X pins H2 b)
    (c1 : ∀ x c, cl.lookup x = some c -> X.env.cells.lookup x = some c) (c2 : ∀ y ∈ scope.names, y.2 = .free -> ∃ c, cl.lookup y.1 = some c)
    (q : ∀ D, H2 D = none -> ∃ W : Nat -> Nat -> St -> Hp -> Prop, (∃ m, W 0 m (zx6 pick σ) (upd H2 D (.lst []))) /\ ∀ i m σ' H', W i m σ' H' ->
      (J.stop i H' /\ Q D H') \/ (J.go i H' /\ ∀ x H2, J.yld i H' x H2 -> g x σ' H2 fun σ3 H3 => tt σ3 H3 fun b H4 =>
        if b = true then te σ3 H4 fun y H5 => ∃ ys, H5 D = some (.lst ys) /\ ys.length < sizeLine /\ ∃ m', m' < m /\ W (i + 1) m' σ3 (upd H5 D (.lst (ys ++ [y]))) else ∃ m', m' < m /\ W (i + 1) m' σ3 H4))
    (fin : ∀ D C H' s', Inv X pins σ H' s' -> H' C = none -> X.s₀.heap.objs.size <= C -> C ≠ X.env.locals -> (∀ x c, X.env.cells.lookup x = some c -> c ≠ C) -> (∀ p ∈ X.pn ++ pins, p.1 ≠ C) -> (∃ m, s'.heap.Ns C m) -> Q D H' -> RR (.ref D) C (.ok .next) s') :
    wpAny (model X.prog X.w) X.A (newList []) (fun acc s3 => wpAny (model X.prog X.w) X.A (newFunctionEnv scope X.env.globals cl [] X.env.qual none .none (some X.env)) (fun cenv s4 =>
      codeAny (model X.prog X.w) X.A (.compStart (.ListComp elt [⟨tg, iter, ifs, 0⟩] scope pos) 0 (.ref it) acc { cenv with scope := relabel scope X.env }) (RR acc cenv.locals) s4) E s3) E s2 := by
  have hD : H2 s2.heap.objs.size = none := I2.hok.fresh (Nat.le_refl _)
  obtain ⟨W, ⟨m0, w0⟩, turn⟩ := q _ hD
  refine wpAny_newObj_type (wpAny_newFunctionEnv S.nocell (by intro y hy; simp at hy) (fun h1 hns hsb => ?_) S.kind)
  have I3 : Inv X pins σ (upd H2 s2.heap.objs.size (.lst [])) { s2 with heap := s2.heap.push { cls := .type "list", dict := none, data := .seq ([] : List Value).toArray } } :=
    I2.lnew (t' := s2.toks) (its := []) (ys := []) .nil (Nat.zero_le _)
  have ne : ∀ b ∈ fp, b ≠ s2.heap.objs.size := fun b hb z => by
    obtain ⟨o, e, _⟩ := T.obj _ _ st2 b hb
    exact absurd (Heap.lt_size e) (by rw [z]; exact Nat.lt_irrefl _)
  have f3 : ∀ b ∈ fp, zz8 X pins (upd H2 s2.heap.objs.size (.lst [])) b := fun b hb => ⟨by rw [zd4 (ne b hb)]; exact (f2 b hb).1, (f2 b hb).2⟩
  have ho3 : ∀ b ∈ fp, ∀ o, s2.heap.get? b = some o -> (s2.heap.push { cls := .type "list", dict := none, data := .seq ([] : List Value).toArray }).get? b = some o := fun b _ o e => Heap.get?_push_of_some _ e
  have st3 := T.keep _ _ _ st2 ho3
  generalize hH3 : s2.heap.push { cls := .type "list", dict := none, data := .seq ([] : List Value).toArray } = H3 at hns hsb I3 ho3 st3 |-
  dsimp only at hns hsb |-
  have hk : ∀ b o, H3.get? b = some o -> h1.get? b = some o := fun b o e => hsb.extBut b o (Nat.ne_of_lt (Heap.lt_size e)) (Heap.get?_push_of_some _ e)
  have B0 : Inv (cxB X N scope cl fp { s2 with heap := H3 } (upd H2 s2.heap.objs.size (.lst []))) [] (zx6 pick σ) (upd H2 s2.heap.objs.size (.lst [])) { s2 with heap := h1, toks := s2.toks + ([] : List (Str × Value)).length } :=
    xn7 (s := { s2 with heap := H3 }) S hsc hNX I3 f3 (fun b hb => by obtain ⟨o, e, _⟩ := T.obj _ _ st3 b hb; exact ⟨o, e⟩) c1 c2 hns hk
  have st4 : tn 0 h1 := T.keep _ _ _ st3 fun b _ o e => hk b o e
  have fpY : ∀ {H' : Hp}, (∀ b ∈ fp, H' b = none) -> ∀ b ∈ fp, zz8 (cxB X N scope cl fp { s2 with heap := H3 } (upd H2 s2.heap.objs.size (.lst []))) [] H' b := fun hn b hb =>
    ⟨hn b hb, (B0.ok.exf b hb).1, B0.ok.exfs b hb, .inl hb, (B0.ok.exf b hb).2, fun p hp => absurd (show p ∈ ([] : List (Addr × Obj)) from hp) (by simp)⟩
  have loop : ∀ s4 : Shared, s4 = { s2 with heap := h1, toks := s2.toks + ([] : List (Str × Value)).length } ->
      codeAny (model X.prog X.w) X.A (.compLoop (.ListComp elt [⟨tg, iter, ifs, 0⟩] scope pos) 0 (.ref it) (.ref s2.heap.objs.size) (compEnvC scope cl H3.objs.size X.env)) (RR (.ref s2.heap.objs.size) H3.objs.size) s4 := by
    rintro s4 rfl
    refine xn6 (fun n s' => ∃ i σ' H', Inv (cxB X N scope cl fp { s2 with heap := H3 } (upd H2 s2.heap.objs.size (.lst []))) [] σ' H' s' /\ tn i s'.heap /\ (∀ b ∈ fp, H' b = none) /\ W i n σ' H') ?_ m0
      ⟨0, _, _, B0, st4, fun b hb => (f3 b hb).1, w0⟩
    rintro n s5 ⟨i, σ5, H5, I5, st5, fr5, w5⟩
    rcases turn i n σ5 H5 w5 with ⟨stop, qn⟩ | ⟨go, step⟩
    . refine thn (T.done (cxB X N scope cl fp { s2 with heap := H3 } (upd H2 s2.heap.objs.size (.lst []))) rfl rfl rfl hc i [] s5 σ5 H5 _ I5 (fpY fr5) st5 stop) fun r s6 ⟨hr, I6⟩ => ?_
      subst hr
      obtain ⟨m, hm, _⟩ := I6.loc
      have sz : X.s₀.heap.objs.size <= H3.objs.size := I3.sz
      refine fin _ _ H5 s6 (xi4 I3 f3 I6) I6.free sz (Nat.ne_of_gt I3.lt) (fun x c e z => ?_) (fun p hp z => ?_) ⟨m, hm⟩ qn
      . obtain ⟨v, z2⟩ := I3.cell x c e
        exact absurd z2.lt (by rw [z]; exact Nat.lt_irrefl _)
      . exact absurd (Heap.lt_size (I3.pin p hp).1) (by rw [z]; exact Nat.lt_irrefl _)
    . refine thn (T.item (cxB X N scope cl fp { s2 with heap := H3 } (upd H2 s2.heap.objs.size (.lst []))) rfl rfl rfl hc i [] s5 σ5 H5 _ I5 (fpY fr5) st5 go) fun r s6 ⟨u, hr, h6⟩ => ?_
      subst hr
      refine thn h6 fun _ s7 ⟨x, H7, I7, r7, y7, st7, fr7⟩ => ?_
      have I7' := I7.pinned (fpY fr7) (T.obj _ _ st7)
      have back : ∀ {σ8 : St} {H8 : Hp} {s8 : Shared}, Inv (cxB X N scope cl fp { s2 with heap := H3 } (upd H2 s2.heap.objs.size (.lst []))) ([] ++ yd0 fp s7.heap) σ8 H8 s8 ->
          tn (i + 1) s8.heap /\ ∀ b ∈ fp, H8 b = none := fun {σ8 H8 s8} I8 => by
        refine ⟨T.keep _ _ _ st7 fun b hb o e => (I8.pin (b, o) (List.mem_append_right _ (List.mem_append_right _ (zy2 hb e)))).1, fun b hb => ?_⟩
        obtain ⟨o, e, d⟩ := T.obj _ _ st7 b hb
        exact (I8.pin (b, o) (List.mem_append_right _ (List.mem_append_right _ (zy2 hb e)))).2.1
      refine thn (hg _ _ _ _ _ s7 σ5 H7 x u _ I7' r7 (step x H7 y7)) fun _ s8 ⟨σ8, H8, I8, q8⟩ => ?_
      refine thn (ht _ _ _ _ _ s8 σ8 H8 _ I8 q8) fun ok s9 ⟨H9, I9, q9⟩ => ?_
      cases ok with
      | false =>
        rw [if_neg (by decide)] at q9 |-
        obtain ⟨m', hm, w9⟩ := q9
        obtain ⟨b1, b2⟩ := back I9
        exact ⟨m', hm, i + 1, σ8, H9, I9.unpinned, b1, b2, w9⟩
      | true =>
        rw [if_pos rfl] at q9 |-
        refine thn (he _ _ _ _ _ s9 σ8 H9 _ I9 q9) fun v s10 ⟨y, H10, I10, ry, ys, hys, hlen, m', hm, w10⟩ => ?_
        have ap := yu6 (X := cxB X N scope cl fp { s2 with heap := H3 } (upd H2 s2.heap.objs.size (.lst []))) ([] ++ yd0 fp s7.heap) s10 σ8 H10 (.ref s2.heap.objs.size) [y] (.ref s2.heap.objs.size) [v]
          (fun z H' => z = .non /\ H' = upd H10 s2.heap.objs.size (.lst (ys ++ [y]))) I10 rfl (.cons ry .nil) ⟨_, ys, y, rfl, rfl, hys, hlen, rfl, rfl⟩
        refine thn ap fun z s11 ⟨z', H11, I11, _, _, e11⟩ => ?_
        subst e11
        obtain ⟨b1, b2⟩ := back I11
        exact ⟨m', hm, i + 1, σ8, _, I11.unpinned, b1, b2, w10⟩
  exact codeAny_compStart_list (loop _ rfl) (T.self _ _ _ _ _ st4 (loop _ rfl))
theorem xx6 (S : CScope sc NX N pick scope) (hsc : X.env.scope = sc) (hNX : X.N = NX) (hc : X.calm = true) (hi : PI X tg iter wi)
    (hg : ∀ cl fp s H, PG (cxB X N scope cl fp s H) tg g) (ht : ∀ cl fp s H, PTs (cxB X N scope cl fp s H) ifs tt) (he : ∀ cl fp s H, PE (cxB X N scope cl fp s H) elt te)
    (hs : ∀ x, foldedSetIterable iter X.env x = pure x := by intro _; rfl) : PE X (.ListComp elt [⟨tg, iter, ifs, 0⟩] scope pos) (wh9 pick wi g tt te) := by
  intro pins s σ H Q I h
  rw [eval_ListComp]
  have hfr : ∀ y ∈ scope.names, y.2 = .free -> ∃ c, X.env.cells.lookup y.1 = some c := fun y hy hf => I.ok.has y.1 (by
    show X.env.scope.names.lookup y.1 = _ \/ X.env.scope.names.lookup y.1 = _
    rw [hsc]; exact S.frees y hy hf)
  obtain ⟨cl, hcl, c1, c2⟩ := xi3 hfr
  refine wpAny_comprehension_free (use := none) rfl hs hcl S.kind S.names (thn (hi pins s σ H _ I h) fun v s1 h1 => thn h1 fun itv s2 h2 => ?_)
  obtain ⟨it, fp, tn, J, H2, e, I2, T, st2, f2, q⟩ := h2
  subst e
  refine xi5 (RR := fun acc C => compPost (model X.prog X.w) X.A X.xe none (EP X pins σ Q) acc C) (Q := fun D H' => Q (.ref D) H') S hsc hNX hc hg ht he I2 T st2 f2 c1 c2 q ?_
  intro D C H' s' I' n1 n2 n3 n4 n5 ⟨m, hm⟩ q'
  exact ⟨m, hm, fun h' hb => ⟨.ref D, H', I'.turned (t' := s'.toks) (it := C) (fun b o hbc e => (hb.2 b hbc).trans e) n1 n3 (.inr n2) n4 n5, rfl, q'⟩⟩
end
end L2
namespace L2
open PySem PySem.Spec PyProof.Rows
section
variable {X : Cx} {tg : Expr}
theorem yy5 : ∀ {ys : List Str} {us : List Value}, zc0 (ys.map V.str) us -> StrsAre us ys
  | [], _, .nil => .nil
  | y :: ys, _, .cons r t => by
    obtain ⟨k, rfl⟩ := r
    exact .cons y k (yy5 t)
theorem xx7 : MtR X "str.join" (fun x xs H Q => ∃ (z : Str) (a : Addr) (ys : List Str), x = .str z /\ xs = [.ref a] /\ SqL X.K H a (ys.map V.str) /\ z.length <= 16 /\ (ys.map (·.length)).sum + ys.length <= 1048576 /\ Q (.str (Txt.join z ys)) H) := by
  intro pins s σ H x xs v us Q I rx r h
  obtain ⟨z, a, ys, rfl, rfl, hq, hz, hw, q⟩ := h
  obtain ⟨t, rfl⟩ := rx
  obtain ⟨u, rfl, ru⟩ := yn5 r
  cases (show u = Value.ref a from ru)
  obtain ⟨its, rv, p, hl⟩ := I.list hq
  exact join_listW p.isList (by simpa using yy5 rv) hz hw fun t' k => ⟨.str _, H, I.tok k, ⟨_, rfl⟩, q⟩
end
end L2
namespace L2
open PySem PySem.Spec PyProof.Rows
mutual
inductive Dp (K : PySem.W.Frag) (H : Hp) : V -> PyData -> Prop
  | non : Dp K H .non .none
  | bl (b : Bool) : Dp K H (.bl b) (.bool b)
  | int (i : Int) : Dp K H (.int i) (.int i)
  | str (x : Str) : Dp K H (.str x) (.str x)
  | lst {a : Addr} {xs : List V} {ds : List PyData} : SqL K H a xs -> DpAll K H xs ds -> Dp K H (.ref a) (.list ds)
  | tup {a : Addr} {xs : List V} {ds : List PyData} : SqT K H a xs -> DpAll K H xs ds -> Dp K H (.ref a) (.tuple ds)
inductive DpAll (K : PySem.W.Frag) (H : Hp) : List V -> List PyData -> Prop
  | nil : DpAll K H [] []
  | cons {v : V} {vs : List V} {d : PyData} {ds : List PyData} : Dp K H v d -> DpAll K H vs ds -> DpAll K H (v :: vs) (d :: ds)
end
section
variable {X : Cx} {pins : List (Addr × Obj)} {σ : St} {H : Hp} {s : Shared}
mutual
theorem Dp.reads (I : Inv X pins σ H s) : ∀ {v : V} {d : PyData} {u : Value}, Dp X.K H v d -> zd2 v u -> ∃ as, Reads s.heap u d as
  | _, _, u, .non, r => by cases (show u = Value.none from r); exact ⟨_, .none⟩
  | _, _, u, .bl b, r => by cases (show u = Value.bool b from r); exact ⟨_, .bool b⟩
  | _, _, u, .int i, r => by obtain ⟨t, rfl⟩ := r; exact ⟨_, .int i t⟩
  | _, _, u, .str x, r => by obtain ⟨t, rfl⟩ := r; exact ⟨_, .str x t⟩
  | _, _, u, .lst (a := a) h hs, r => by
    cases (show u = Value.ref a from r)
    obtain ⟨its, rv, p, hz⟩ := I.list h
    obtain ⟨as, ra⟩ := DpAll.reads I hs rv
    obtain ⟨o, e, c, n, d⟩ := p.isList
    exact ⟨_, .list e c d (by simpa using ra)⟩
  | _, _, u, .tup (a := a) h hs, r => by
    cases (show u = Value.ref a from r)
    obtain ⟨its, rv, p, hz⟩ := I.tuple h
    obtain ⟨as, ra⟩ := DpAll.reads I hs rv
    obtain ⟨o, e, c, n, d⟩ := p
    exact ⟨_, .tuple e c d (by simpa using ra)⟩
theorem DpAll.reads (I : Inv X pins σ H s) : ∀ {vs : List V} {ds : List PyData} {us : List Value}, DpAll X.K H vs ds -> zc0 vs us -> ∃ as, ReadsAll s.heap us ds as
  | _, _, _, .nil, .nil => ⟨_, .nil⟩
  | _, _, _, .cons h hs, .cons r rs => by
    obtain ⟨as, ra⟩ := Dp.reads I h r
    obtain ⟨bs, rb⟩ := DpAll.reads I hs rs
    exact ⟨_, .cons ra rb⟩
end
end
section
variable {X : Cx}
noncomputable def wf6 (K : PySem.W.Frag) (neg : Bool) : R2 := fun x y H Q => ∃ d e, Dp K H x d /\ Dp K H y e /\ d.canLay0 = true /\ e.canLay0 = true /\ d.depth <= 60 /\ Q (.bl (if neg then !PyData.eqv d e else PyData.eqv d e)) H
theorem wc7 (hu : X.A.units + 64 < cLine) : OpR X (compareOp .Eq) (wf6 X.K false) := by
  intro pins s σ H x y v u Q I rx ry h
  obtain ⟨d, e, hx, hy, cx, cy, dz, q⟩ := h
  obtain ⟨as, ra⟩ := hx.reads I rx
  obtain ⟨bs, rb⟩ := hy.reads I ry
  exact SeqAt.compareEq_reads ra rb cx cy (by have := Nat.min_le_left d.depth e.depth; omega) ⟨.bl _, H, I, rfl, q⟩
theorem wc8 (hu : X.A.units + 64 < cLine) : OpR X (compareOp .NotEq) (wf6 X.K true) := by
  intro pins s σ H x y v u Q I rx ry h
  obtain ⟨d, e, hx, hy, cx, cy, dz, q⟩ := h
  obtain ⟨as, ra⟩ := hx.reads I rx
  obtain ⟨bs, rb⟩ := hy.reads I ry
  exact SeqAt.compareNe_reads ra rb cx cy (by have := Nat.min_le_left d.depth e.depth; omega) ⟨.bl _, H, I, rfl, q⟩
end
mutual
theorem Dp.same {K : PySem.W.Frag} {H H' : Hp} (e : zr4 H H') : ∀ {v : V} {d : PyData}, Dp K H v d -> Dp K H' v d
  | _, _, .non => .non
  | _, _, .bl b => .bl b
  | _, _, .int i => .int i
  | _, _, .str x => .str x
  | _, _, .lst h hs => .lst (e.seq h) (DpAll.same e hs)
  | _, _, .tup h hs => .tup (zr4.seqT e h) (DpAll.same e hs)
theorem DpAll.same {K : PySem.W.Frag} {H H' : Hp} (e : zr4 H H') : ∀ {vs : List V} {ds : List PyData}, DpAll K H vs ds -> DpAll K H' vs ds
  | _, _, .nil => .nil
  | _, _, .cons h hs => .cons (Dp.same e h) (DpAll.same e hs)
end
end L2
namespace L2
open PySem PySem.Spec PyProof.Rows
inductive AreC : List Expr -> List V -> Prop
  | nil : AreC [] []
  | int {i : Int} {j : Nat} {pos : Pos} {es : List Expr} {vs : List V} : AreC es vs -> AreC (.Constant (.int i) j pos :: es) (.int i :: vs)
  | str {x : Str} {j : Nat} {pos : Pos} {es : List Expr} {vs : List V} : AreC es vs -> AreC (.Constant (.str x) j pos :: es) (.str x :: vs)
  | bl {b : Bool} {j : Nat} {pos : Pos} {es : List Expr} {vs : List V} : AreC es vs -> AreC (.Constant (.bool b) j pos :: es) (.bl b :: vs)
  | non {j : Nat} {pos : Pos} {es : List Expr} {vs : List V} : AreC es vs -> AreC (.Constant .none j pos :: es) (.non :: vs)
end L2
namespace L2
open PySem PySem.Spec PyProof.Rows
set_option genInjectivity true in
inductive D where
  | non | bl (b : Bool) | int (i : Int) | str (x : Str) | ty (n : String)
  | tup (xs : List D) | con (xs : List D) | lst (o : Bool) (xs : List D) | dic (o : Bool) (ks : List Key) (vs : List D) | obj (o : Bool) (C : Str) (ns : List Str) (vs : List D)
mutual
noncomputable def D.imm : D -> Bool
  | .tup xs => D.imms xs
  | .con xs => D.imms xs
  | .lst o xs => !o && D.imms xs
  | .dic o _ vs => !o && D.imms vs
  | .obj o _ _ vs => !o && D.imms vs
  | _ => true
noncomputable def D.imms : List D -> Bool
  | [] => true
  | d :: ds => d.imm && D.imms ds
end
noncomputable def kd : HO -> Bool
  | .lst _ => true
  | .tup _ => true
  | .dK _ => true
  | .ins _ _ _ => true
  | .frz _ _ => true
  | _ => false
noncomputable def tf : HO -> Bool
  | .tup _ => true
  | .frz _ _ => true
  | _ => false
theorem zv3 {o : HO} (h : tf o = true) : kd o = true := by cases o <;> first | rfl | cases h
noncomputable def SqF (K : PySem.W.Frag) (H : Hp) (a : Addr) (xs : List V) : Prop := (∃ o, H a = some (.frz o (.lst xs))) \/
  ∃ (o : Obj) (its : Array Value) (n : Nat), K.lookup a = some o /\ o.cls = .type "list" /\ o.dict = none /\ o.data = .seq its n /\ its.size <= sizeLine /\ zc0 xs its.toList
mutual
inductive Rep (K : PySem.W.Frag) (κ : Str -> Addr) (H : Hp) : V -> D -> List Addr -> Prop
  | non : Rep K κ H .non .non []
  | bl (b : Bool) : Rep K κ H (.bl b) (.bl b) []
  | int (i : Int) : Rep K κ H (.int i) (.int i) []
  | str (x : Str) : Rep K κ H (.str x) (.str x) []
  | ty (n : String) : Rep K κ H (.ty n) (.ty n) []
  | tup {a : Addr} {vs : List V} {ds : List D} : SqT K H a vs -> Reps K κ H vs ds [] -> Rep K κ H (.ref a) (.tup ds) []
  | con {a : Addr} {vs : List V} {ds : List D} : SqF K H a vs -> Reps K κ H vs ds [] -> Rep K κ H (.ref a) (.con ds) []
  | lst {a : Addr} {vs : List V} {ds : List D} {fp : List Addr} : H a = some (.lst vs) -> Reps K κ H vs ds fp -> Rep K κ H (.ref a) (.lst true ds) (a :: fp)
  | lstF {a : Addr} {o : Obj} {vs : List V} {ds : List D} : H a = some (.frz o (.lst vs)) -> Reps K κ H vs ds [] -> Rep K κ H (.ref a) (.lst false ds) []
  | dic {a : Addr} {kvs : List (Key × V)} {ks : List Key} {ds : List D} {fp : List Addr} : H a = some (.dK kvs) -> kvs.map (·.1) = ks -> Reps K κ H (kvs.map (·.2)) ds fp -> Rep K κ H (.ref a) (.dic true ks ds) (a :: fp)
  | dicF {a : Addr} {o : Obj} {kvs : List (Key × V)} {ks : List Key} {ds : List D} : H a = some (.frz o (.dK kvs)) -> kvs.map (·.1) = ks -> Reps K κ H (kvs.map (·.2)) ds [] -> Rep K κ H (.ref a) (.dic false ks ds) []
  | obj {a dx : Addr} {C : Str} {fs : List (Str × V)} {ns : List Str} {ds : List D} {fp : List Addr} : H a = some (.ins (κ C) dx fs) -> fs.map (·.1) = ns -> Reps K κ H (fs.map (·.2)) ds fp -> Rep K κ H (.ref a) (.obj true C ns ds) (a :: fp)
  | objF {a dx : Addr} {o : Obj} {C : Str} {fs : List (Str × V)} {ns : List Str} {ds : List D} : H a = some (.frz o (.ins (κ C) dx fs)) -> fs.map (·.1) = ns -> Reps K κ H (fs.map (·.2)) ds [] -> Rep K κ H (.ref a) (.obj false C ns ds) []
inductive Reps (K : PySem.W.Frag) (κ : Str -> Addr) (H : Hp) : List V -> List D -> List Addr -> Prop
  | nil : Reps K κ H [] [] []
  | cons {v : V} {vs : List V} {d : D} {ds : List D} {f g : List Addr} : Rep K κ H v d f -> Reps K κ H vs ds g -> Reps K κ H (v :: vs) (d :: ds) (f ++ g)
end
section
variable {K : PySem.W.Frag} {κ : Str -> Addr} {H H' : Hp}
theorem SqT.tf (t : ∀ a o, H a = some o -> tf o = true -> H' a = some o) {a : Addr} {xs : List V} (h : SqT K H a xs) : SqT K H' a xs := by
  rcases h with (h | ⟨o, h⟩) | h
  . exact .inl (.inl (t _ _ h rfl))
  . exact .inl (.inr ⟨o, t _ _ h rfl⟩)
  . exact .inr h
theorem SqF.tf (t : ∀ a o, H a = some o -> tf o = true -> H' a = some o) {a : Addr} {xs : List V} (h : SqF K H a xs) : SqF K H' a xs := h.elim (fun ⟨o, h⟩ => .inl ⟨o, t _ _ h rfl⟩) .inr
theorem SqF.l {a : Addr} {xs : List V} (h : SqF K H a xs) : SqL K H a xs := h.elim (fun ⟨o, h⟩ => .inl (.inr ⟨o, h⟩)) .inr
theorem zl7 {P : Addr -> Prop} : ∀ a ∈ ([] : List Addr), P a := fun _ h => nomatch h
theorem Reps.move (t : ∀ a o, H a = some o -> tf o = true -> H' a = some o) {vs : List V} {ds : List D} {fp : List Addr} (h : Reps K κ H vs ds fp) : (∀ a ∈ fp, H' a = H a) -> Reps K κ H' vs ds fp :=
  Reps.rec (motive_1 := fun v d fp _ => (∀ a ∈ fp, H' a = H a) -> Rep K κ H' v d fp) (motive_2 := fun vs ds fp _ => (∀ a ∈ fp, H' a = H a) -> Reps K κ H' vs ds fp)
    (fun _ => .non) (fun b _ => .bl b) (fun b _ => .int b) (fun b _ => .str b) (fun b _ => .ty b) (fun h _ ih _ => .tup (h.tf t) (ih zl7)) (fun h _ ih _ => .con (h.tf t) (ih zl7))
    (fun h _ ih k => .lst ((k _ List.mem_cons_self).trans h) (ih fun a ha => k a (List.mem_cons_of_mem _ ha))) (fun h _ ih _ => .lstF (t _ _ h rfl) (ih zl7))
    (fun h e _ ih k => .dic ((k _ List.mem_cons_self).trans h) e (ih fun a ha => k a (List.mem_cons_of_mem _ ha))) (fun h e _ ih _ => .dicF (t _ _ h rfl) e (ih zl7))
    (fun h e _ ih k => .obj ((k _ List.mem_cons_self).trans h) e (ih fun a ha => k a (List.mem_cons_of_mem _ ha))) (fun h e _ ih _ => .objF (t _ _ h rfl) e (ih zl7))
    (fun _ => .nil) (fun _ _ i1 i2 k => .cons (i1 fun a ha => k a (List.mem_append_left _ ha)) (i2 fun a ha => k a (List.mem_append_right _ ha))) h
theorem Reps.nil_fp {vs : List V} {fp : List Addr} (h : Reps K κ H vs [] fp) : vs = [] /\ fp = [] := by cases h; exact ⟨rfl, rfl⟩
theorem Reps.one_inv {vs : List V} {d : D} {fp : List Addr} (r : Reps K κ H vs [d] fp) : ∃ v, vs = [v] /\ Rep K κ H v d fp := by
  cases r with
  | cons h hs =>
    obtain ⟨rfl, rfl⟩ := hs.nil_fp
    exact ⟨_, rfl, by rw [List.append_nil]; exact h⟩
theorem Reps.one {v : V} {d : D} {f : List Addr} (h : Rep K κ H v d f) : Reps K κ H [v] [d] f := by have := Reps.cons h (Reps.nil (K := K) (κ := κ) (H := H)); rwa [List.append_nil] at this
theorem Rep.move (t : ∀ a o, H a = some o -> tf o = true -> H' a = some o) {v : V} {d : D} {fp : List Addr} (h : Rep K κ H v d fp) (k : ∀ a ∈ fp, H' a = H a) : Rep K κ H' v d fp := by
  obtain ⟨u, e, r⟩ := ((Reps.one h).move t k).one_inv
  cases e; exact r
theorem Reps.own {vs : List V} {ds : List D} {fp : List Addr} (h : Reps K κ H vs ds fp) : ∀ a ∈ fp, ∃ o, H a = some o /\ kd o = true /\ tf o = false :=
  Reps.rec (motive_1 := fun _ _ fp _ => ∀ a ∈ fp, ∃ o, H a = some o /\ kd o = true /\ tf o = false) (motive_2 := fun _ _ fp _ => ∀ a ∈ fp, ∃ o, H a = some o /\ kd o = true /\ tf o = false)
    zl7 (fun _ => zl7) (fun _ => zl7) (fun _ => zl7) (fun _ => zl7) (fun _ _ _ => zl7) (fun _ _ _ => zl7)
    (fun h _ ih a ha => (List.mem_cons.mp ha).elim (fun e => e ▸ ⟨_, h, rfl, rfl⟩) (ih a)) (fun _ _ _ => zl7)
    (fun h _ _ ih a ha => (List.mem_cons.mp ha).elim (fun e => e ▸ ⟨_, h, rfl, rfl⟩) (ih a)) (fun _ _ _ _ => zl7)
    (fun h _ _ ih a ha => (List.mem_cons.mp ha).elim (fun e => e ▸ ⟨_, h, rfl, rfl⟩) (ih a)) (fun _ _ _ _ => zl7)
    zl7 (fun _ _ i1 i2 a ha => (List.mem_append.mp ha).elim (i1 a) (i2 a)) h
theorem Rep.own {v : V} {d : D} {fp : List Addr} (h : Rep K κ H v d fp) : ∀ a ∈ fp, ∃ o, H a = some o /\ kd o = true /\ tf o = false := (Reps.one h).own
theorem Rep.imm {v : V} {d : D} {fp : List Addr} (h : Rep K κ H v d fp) (e : d.imm = true) : fp = [] := by
  cases h <;> first | rfl | exact nomatch e
theorem Reps.imm : ∀ {vs : List V} {ds : List D} {fp : List Addr}, Reps K κ H vs ds fp -> D.imms ds = true -> fp = []
  | _, _, _, .nil, _ => rfl
  | _, _, _, .cons h hs, e => by
    rw [D.imms, Bool.and_eq_true] at e
    rw [h.imm e.1, Reps.imm hs e.2]; rfl
theorem Reps.length : ∀ {vs : List V} {ds : List D} {fp : List Addr}, Reps K κ H vs ds fp -> vs.length = ds.length
  | _, _, _, .nil => rfl
  | _, _, _, .cons _ hs => by rw [List.length_cons, List.length_cons, Reps.length hs]
theorem Reps.get : ∀ {vs : List V} {ds : List D} {fp : List Addr} {i : Nat} {d : D}, Reps K κ H vs ds fp -> ds[i]? = some d -> ∃ v f, vs[i]? = some v /\ Rep K κ H v d f /\ ∀ a ∈ f, a ∈ fp
  | _, _, _, _, _, .nil, e => by simp at e
  | _, _, _, 0, _, .cons h _, e => by simp at e; subst e; exact ⟨_, _, rfl, h, fun a ha => List.mem_append_left _ ha⟩
  | _, _, _, i + 1, _, .cons _ hs, e => by
    obtain ⟨v, f, h1, h2, h3⟩ := Reps.get (i := i) hs (by simpa using e)
    exact ⟨v, f, by simpa using h1, h2, fun a ha => List.mem_append_right _ (h3 a ha)⟩
theorem Reps.append : ∀ {vs : List V} {ds : List D} {f : List Addr} {us : List V} {es : List D} {g : List Addr}, Reps K κ H vs ds f -> Reps K κ H us es g -> Reps K κ H (vs ++ us) (ds ++ es) (f ++ g)
  | _, _, _, _, _, _, .nil, r => r
  | _, _, _, _, _, _, .cons h hs, r => by rw [List.append_assoc]; exact .cons h (Reps.append hs r)
theorem Reps.split : ∀ {vs : List V} {d : D} {ds : List D} {fp : List Addr}, Reps K κ H vs (d :: ds) fp -> ∃ v us f g, vs = v :: us /\ Rep K κ H v d f /\ Reps K κ H us ds g /\ fp = f ++ g
  | _, _, _, _, .cons h hs => ⟨_, _, _, _, rfl, h, hs, rfl⟩
theorem Reps.nilp : ∀ {vs : List V} {ds : List D}, Reps K κ H vs ds [] -> Paired (fun v d => Rep K κ H v d []) vs ds := by
  intro vs ds h
  generalize e : ([] : List Addr) = fp at h
  induction h using Reps.rec (motive_1 := fun _ _ _ _ => True) with
  | nil => exact .nil
  | cons h hs _ ih =>
    obtain ⟨e1, e2⟩ := List.append_eq_nil_iff.mp e.symm
    subst e1; subst e2
    exact .cons h (ih rfl)
  | _ => trivial
theorem Reps.ofp : ∀ {vs : List V} {ds : List D}, Paired (fun v d => Rep K κ H v d []) vs ds -> Reps K κ H vs ds []
  | _, _, .nil => .nil
  | _, _, .cons h hs => .cons (f := []) (g := []) h (Reps.ofp hs)
end
theorem Paired.app {α β : Type} {R : α -> β -> Prop} : ∀ {l₁ : List α} {l₂ : List β} {m₁ : List α} {m₂ : List β}, Paired R l₁ l₂ -> Paired R m₁ m₂ -> Paired R (l₁ ++ m₁) (l₂ ++ m₂)
  | _, _, _, _, .nil, r => r
  | _, _, _, _, .cons h t, r => .cons h (Paired.app t r)
theorem Paired.repl {α β : Type} {R : α -> β -> Prop} {l₁ : List α} {l₂ : List β} (r : Paired R l₁ l₂) : ∀ k : Nat, Paired R (List.replicate k l₁).flatten (List.replicate k l₂).flatten
  | 0 => .nil
  | k + 1 => by rw [List.replicate_succ, List.replicate_succ, List.flatten_cons, List.flatten_cons]; exact Paired.app r (Paired.repl r k)
structure SameK (H H' : Hp) : Prop where
  keep : ∀ a o, H a = some o -> kd o = true -> H' a = some o
  grow : ∀ a, H' a = none -> H a = none
theorem SameK.refl (H : Hp) : SameK H H := ⟨fun _ _ h _ => h, fun _ h => h⟩
theorem SameK.trans {H H1 H2 : Hp} (a : SameK H H1) (b : SameK H1 H2) : SameK H H2 := ⟨fun c o h k => b.keep c o (a.keep c o h k) k, fun c h => a.grow c (b.grow c h)⟩
theorem SameK.of {H H' : Hp} (h : zr4 H H') : SameK H H' := ⟨fun a o e _ => h a o e, fun a e => h.free e⟩
theorem SameK.new {H : Hp} {p : Addr} (h : H p = none) (o : HO) : SameK H (upd H p o) := .of (xr8 h o)
section
variable {K : PySem.W.Frag} {κ : Str -> Addr} {H H' : Hp}
theorem Rep.same (e : SameK H H') {v : V} {d : D} {fp : List Addr} (r : Rep K κ H v d fp) : Rep K κ H' v d fp :=
  r.move (fun a o h t => e.keep a o h (zv3 t)) fun a ha => by obtain ⟨o, h, k, _⟩ := r.own a ha; rw [h]; exact e.keep a o h k
theorem Reps.same (e : SameK H H') {v : List V} {d : List D} {fp : List Addr} (r : Reps K κ H v d fp) : Reps K κ H' v d fp :=
  r.move (fun a o h t => e.keep a o h (zv3 t)) fun a ha => by obtain ⟨o, h, k, _⟩ := r.own a ha; rw [h]; exact e.keep a o h k
end
theorem PE.imp {X : Cx} {e : Expr} {t t' : TE} (h : PE X e t) (k : ∀ σ H Q, t' σ H Q -> t σ H Q) : PE X e t' := fun pins s σ H Q I q => h pins s σ H Q I (k σ H Q q)
theorem PT.imp {X : Cx} {e : Expr} {t t' : TT} (h : PT X e t) (k : ∀ σ H Q, t' σ H Q -> t σ H Q) : PT X e t' := fun pins s σ H Q I q => h pins s σ H Q I (k σ H Q q)
theorem PW.imp {X : Cx} {e : Expr} {t t' : TT} (h : PW X e t) (k : ∀ σ H Q, t' σ H Q -> t σ H Q) : PW X e t' := fun wh pins s σ H Q I q => h wh pins s σ H Q I (k σ H Q q)
theorem PA.imp {X : Cx} {e : List Expr} {t t' : TA} (h : PA X e t) (k : ∀ σ H Q, t' σ H Q -> t σ H Q) : PA X e t' := fun pos pins s σ H Q I q => h pos pins s σ H Q I (k σ H Q q)
theorem PS.imp {X : Cx} {st : Stmt} {t t' : TS} (h : PS X st t) (k : ∀ D σ H, t' D σ H -> t D σ H) : PS X st t' := fun pins s σ H D I q => h pins s σ H D I (k D σ H q)
theorem PSs.imp {X : Cx} {st : List Stmt} {t t' : TS} (h : PSs X st t) (k : ∀ D σ H, t' D σ H -> t D σ H) : PSs X st t' := fun pins s σ H D I q => h pins s σ H D I (k D σ H q)
noncomputable abbrev PSt := List (Option D)
noncomputable def WS (K : PySem.W.Frag) (κ : Str -> Addr) (H : Hp) (σ : St) (ps : PSt) : Prop := ∀ (i : Nat) (d : D), ps[i]? = some (some d) -> ∃ v fp, σ[i]? = some (some v) /\ Rep K κ H v d fp
theorem WS.same {K : PySem.W.Frag} {κ : Str -> Addr} {H H' : Hp} {σ : St} {ps : PSt} (w : WS K κ H σ ps) (e : SameK H H') : WS K κ H' σ ps := fun i d h => by
  obtain ⟨v, fp, h1, h2⟩ := w i d h
  exact ⟨v, fp, h1, h2.same e⟩
noncomputable def zr5 (K : PySem.W.Frag) (κ : Str -> Addr) (H : Hp) (d : D) (Q : VK) : Prop := ∀ v H' fv, SameK H H' -> (∀ a ∈ fv, H a = none) -> fv.Nodup -> Rep K κ H' v d fv -> Q v H'
noncomputable def xc6 (K : PySem.W.Frag) (κ : Str -> Addr) (H : Hp) (d : D) (Q : VK) : Prop := ∀ v H' fp, SameK H H' -> Rep K κ H' v d fp -> Q v H'
noncomputable def tV (K : PySem.W.Frag) (κ : Str -> Addr) (f : PSt -> Option D) : TE := fun σ H Q => ∃ ps d, WS K κ H σ ps /\ f ps = some d /\ xc6 K κ H d Q
noncomputable def tP (K : PySem.W.Frag) (κ : Str -> Addr) (f : PSt -> Option D) : TE := fun σ H Q => ∃ ps d, WS K κ H σ ps /\ f ps = some d /\ zr5 K κ H d Q
noncomputable def tQ (K : PySem.W.Frag) (κ : Str -> Addr) (f : PSt -> Option Bool) : TT := fun σ H Q => ∃ ps b, WS K κ H σ ps /\ f ps = some b /\ ∀ H', SameK H H' -> Q b H'
noncomputable def tVA (K : PySem.W.Frag) (κ : Str -> Addr) (f : PSt -> Option (List D)) : TA := fun σ H Q => ∃ ps ds, WS K κ H σ ps /\ f ps = some ds /\ ∀ vs H' fp, SameK H H' -> Reps K κ H' vs ds fp -> Q vs H'
noncomputable def tPA (K : PySem.W.Frag) (κ : Str -> Addr) (f : PSt -> Option (List D)) : TA := fun σ H Q => ∃ ps ds, WS K κ H σ ps /\ f ps = some ds /\ ∀ vs H' fv, SameK H H' -> (∀ a ∈ fv, H a = none) -> fv.Nodup -> Reps K κ H' vs ds fv -> Q vs H'
noncomputable abbrev QV (X : Cx) (κ : Str -> Addr) (e : Expr) (f : PSt -> Option D) : Prop := PE X e (tV X.K κ f)
noncomputable abbrev QP (X : Cx) (κ : Str -> Addr) (e : Expr) (f : PSt -> Option D) : Prop := PE X e (tP X.K κ f)
noncomputable abbrev QT (X : Cx) (κ : Str -> Addr) (e : Expr) (f : PSt -> Option Bool) : Prop := PT X e (tQ X.K κ f)
noncomputable abbrev QW (X : Cx) (κ : Str -> Addr) (e : Expr) (f : PSt -> Option Bool) : Prop := PW X e (tQ X.K κ f)
noncomputable abbrev QVA (X : Cx) (κ : Str -> Addr) (es : List Expr) (f : PSt -> Option (List D)) : Prop := PA X es (tVA X.K κ f)
noncomputable abbrev QPA (X : Cx) (κ : Str -> Addr) (es : List Expr) (f : PSt -> Option (List D)) : Prop := PA X es (tPA X.K κ f)
theorem zr5.see {K : PySem.W.Frag} {κ : Str -> Addr} {H : Hp} {d : D} {Q : VK} (h : xc6 K κ H d Q) : zr5 K κ H d Q := fun v H' fv s _ _ r => h v H' fv s r
theorem zr5.after {K : PySem.W.Frag} {κ : Str -> Addr} {H H1 : Hp} {d : D} {Q : VK} (h : zr5 K κ H d Q) (s : SameK H H1) : zr5 K κ H1 d Q :=
  fun v H' fv s' n nd r => h v H' fv (s.trans s') (fun a ha => s.grow a (n a ha)) nd r
theorem zr5.now {K : PySem.W.Frag} {κ : Str -> Addr} {H : Hp} {d : D} {Q : VK} {v : V} (h : zr5 K κ H d Q) (r : Rep K κ H v d []) : Q v H := h v H [] (.refl H) (fun _ h => absurd h (by simp)) List.nodup_nil r
theorem zr5.at {K : PySem.W.Frag} {κ : Str -> Addr} {H : Hp} {d : D} {Q : VK} {p : Addr} {o : HO} {fv : List Addr} (h : zr5 K κ H d Q) (hp : H p = none) (hn : ∀ a ∈ fv, H a = none) (nd : fv.Nodup) (r : Rep K κ (upd H p o) (.ref p) d fv) : Q (.ref p) (upd H p o) :=
  h _ _ fv (.new hp o) hn nd r
theorem xc6.after {K : PySem.W.Frag} {κ : Str -> Addr} {H H1 : Hp} {d : D} {Q : VK} (h : xc6 K κ H d Q) (s : SameK H H1) : xc6 K κ H1 d Q := fun v H' fp s' r => h v H' fp (s.trans s') r
section
variable {X : Cx} {κ : Str -> Addr} {e a b : Expr} {f fa fb : PSt -> Option D}
theorem QP.v (h : QP X κ e f) : QV X κ e f := h.imp fun _ _ _ ⟨ps, d, w, e, q⟩ => ⟨ps, d, w, e, .see q⟩
noncomputable def zb9 (f : PSt -> Option D) : PSt -> Option D := fun ps => (f ps).bind fun d => if d.imm = true then some d else none
theorem QV.p (h : QV X κ e f) : QP X κ e (zb9 f) := h.imp fun σ H Q hh_ => by
  obtain ⟨ps, d, w, e, q⟩ := hh_
  unfold zb9 at e
  cases e1 : f ps with
  | none => rw [e1] at e; cases e
  | some d1 =>
    rw [e1] at e
    by_cases hi : d1.imm = true
    . have e2 : d1 = d := by simpa [hi] using e
      subst e2
      refine ⟨ps, d1, w, e1, fun v H' fp s r => ?_⟩
      have := r.imm hi; subst this
      exact q v H' [] s (fun _ h => absurd h (by simp)) List.nodup_nil r
    . simp [hi] at e
noncomputable def za0 (i : Nat) : PSt -> Option D := fun ps => (ps[i]?).join
theorem za2 (i : Nat) {x : Str} {pos : Pos} (hN : X.N[i]? = some x := by rfl) (hv : Vis X.env.scope x := by first | exact Or.inl rfl | exact Or.inr (Or.inl rfl) | exact Or.inr (Or.inr rfl)) (hd : (x == ("__debug__" : Str)) = false := by decide)
    (hcd : (x == ("__classdict__" : Str)) = false := by decide) : QV X κ (.Name x pos) (za0 i) := (yf8 hN hv hd hcd).imp fun σ H Q hh_ => by
  obtain ⟨ps, d, w, e, q⟩ := hh_
  have e' : ps[i]? = some (some d) := by
    unfold za0 at e
    cases q : ps[i]? with
    | none => rw [q] at e; cases e
    | some o => rw [q] at e; exact congrArg some e
  obtain ⟨v, fp, h1, h2⟩ := w i d e'
  exact ⟨v, h1, q v H fp (.refl H) h2⟩
noncomputable def fC (d : D) : PSt -> Option D := fun _ => some d
theorem zb2 {i j pos} : QP X κ (.Constant (.int i) j pos) (fC (.int i)) := zn4.imp fun σ H Q ⟨ps, d, w, e, q⟩ => by cases e; exact q _ H [] (.refl H) (fun _ h => absurd h (by simp)) List.nodup_nil (.int i)
theorem ze7 {x j pos} : QP X κ (.Constant (.str x) j pos) (fC (.str x)) := wa3.imp fun σ H Q ⟨ps, d, w, e, q⟩ => by cases e; exact q _ H [] (.refl H) (fun _ h => absurd h (by simp)) List.nodup_nil (.str x)
theorem yd4 {b j pos} : QP X κ (.Constant (.bool b) j pos) (fC (.bl b)) := wf8.imp fun σ H Q ⟨ps, d, w, e, q⟩ => by cases e; exact q _ H [] (.refl H) (fun _ h => absurd h (by simp)) List.nodup_nil (.bl b)
theorem yo0 {j pos} : QP X κ (.Constant .none j pos) (fC .non) := wa2.imp fun σ H Q ⟨ps, d, w, e, q⟩ => by cases e; exact q _ H [] (.refl H) (fun _ h => absurd h (by simp)) List.nodup_nil .non
theorem yr6 {x : Str} {v : V} {u : Value} {d : D} {pos : Pos} (hg : Gl X x) (hm : X.mg x = some u) (r : zd2 v u) (hd : ∀ H, Rep X.K κ H v d []) (hdb : (x == ("__debug__" : Str)) = false := by decide) : QP X κ (.Name x pos) (fC d) :=
  (xw6 hg hm r hdb).imp fun σ H Q ⟨ps, d, w, e, q⟩ => by cases e; exact q _ H [] (.refl H) (fun _ h => absurd h (by simp)) List.nodup_nil (hd H)
theorem xi6 {x : Str} {n : String} {pos : Pos} (hg : Gl X x) (hm : X.mg x = none) (hv : bootBuiltins x = some (.type n)) (hn : x ≠ "__name__" := by decide) (hd : (x == ("__debug__" : Str)) = false := by decide) : QP X κ (.Name x pos) (fC (.ty n)) :=
  (xw7 (v := .ty n) hg hm hv rfl hn hd).imp fun σ H Q ⟨ps, d, w, e, q⟩ => by cases e; exact q _ H [] (.refl H) (fun _ h => absurd h (by simp)) List.nodup_nil (.ty n)
noncomputable def f2 (g : D -> D -> Option D) (fa fb : PSt -> Option D) : PSt -> Option D := fun ps => (fa ps).bind fun x => (fb ps).bind fun y => g x y
noncomputable def POp (K : PySem.W.Frag) (κ : Str -> Addr) (g : D -> D -> Option D) : R2 := fun x y H Q => ∃ dx dy d fx fy, Rep K κ H x dx fx /\ Rep K κ H y dy fy /\ g dx dy = some d /\ zr5 K κ H d Q
theorem xf3 {g : D -> D -> Option D} {fa fb : PSt -> Option D} {ps : PSt} {d : D} (h : f2 g fa fb ps = some d) : ∃ x y, fa ps = some x /\ fb ps = some y /\ g x y = some d := by
  unfold f2 at h
  cases e1 : fa ps with
  | none => rw [e1] at h; cases h
  | some x =>
    rw [e1] at h
    cases e2 : fb ps with
    | none => rw [e2] at h; cases h
    | some y => rw [e2] at h; exact ⟨x, y, rfl, rfl, h⟩
theorem yy6 {r : R2} {g : D -> D -> Option D} {σ : St} {H : Hp} {Q : VK} (hr : ∀ x y H Q, POp X.K κ g x y H Q -> r x y H Q) (h : tP X.K κ (f2 g fa fb) σ H Q) : tOp r (tV X.K κ fa) (tV X.K κ fb) σ H Q := by
  obtain ⟨ps, d, w, e, q⟩ := h
  obtain ⟨x, y, e1, e2, e3⟩ := xf3 e
  exact ⟨ps, x, w, e1, fun v H1 fp s1 r1 => ⟨ps, y, w.same s1, e2, fun u H2 fq s2 r2 => hr _ _ _ _ ⟨x, y, d, fp, fq, r1.same s2, r2, e3, q.after (s1.trans s2)⟩⟩⟩
theorem zg0 {op : Operator} {g : D -> D -> Option D} {pos : Pos} (ho : OpR X (binaryOp op) (POp X.K κ g)) (ha : QV X κ a fa) (hb : QV X κ b fb) : QP X κ (.BinOp a op b pos) (f2 g fa fb) :=
  (zk6 ho ha hb).imp fun _ _ _ h => yy6 (fun _ _ _ _ h => h) h
theorem yg1 {op : CmpOp} {g : D -> D -> Option D} {pos : Pos} (ho : OpR X (compareOp op) (POp X.K κ g)) (ha : QV X κ a fa) (hb : QV X κ b fb) (hm : behindInMarks op b = false) : QP X κ (.Compare a [op] [b] pos) (f2 g fa fb) :=
  (xx0 ho ha hb hm).imp fun _ _ _ h => yy6 (fun _ _ _ _ h => h) h
noncomputable def dB : D -> Option Bool
  | .bl b => some b
  | _ => none
noncomputable def fB (f : PSt -> Option D) : PSt -> Option Bool := fun ps => (f ps).bind dB
theorem xx8 {f : PSt -> Option D} {ps : PSt} {b : Bool} (h : fB f ps = some b) : f ps = some (.bl b) := by
  unfold fB at h
  cases e : f ps with
  | none => rw [e] at h; cases h
  | some d => rw [e] at h; cases d <;> first | (cases h; rfl) | cases h
theorem Rep.is_bl {K : PySem.W.Frag} {H : Hp} {v : V} {b : Bool} {fp : List Addr} (r : Rep K κ H v (.bl b) fp) : v = .bl b := by cases r; rfl
theorem Rep.is_int {K : PySem.W.Frag} {H : Hp} {v : V} {b : Int} {fp : List Addr} (r : Rep K κ H v (.int b) fp) : v = .int b := by cases r; rfl
theorem Rep.is_str {K : PySem.W.Frag} {H : Hp} {v : V} {b : Str} {fp : List Addr} (r : Rep K κ H v (.str b) fp) : v = .str b := by cases r; rfl
theorem zg5 {op : CmpOp} {g : D -> D -> Option D} {pos : Pos} (ho : OpR X (compareOp op) (POp X.K κ g)) (ha : QV X κ a fa) (hb : QV X κ b fb) (hm : behindInMarks op b = false) : QT X κ (.Compare a [op] [b] pos) (fB (f2 g fa fb)) :=
  (xe9 ho ha hb hm).imp fun σ H Q ⟨ps, c, w, e, q⟩ => yy6 (Q := fun x H' => ∃ k, x = .bl k /\ Q k H') (fun _ _ _ _ h => h) ⟨ps, _, w, xx8 e, fun v H' fv s _ _ r => ⟨c, r.is_bl, q H' s⟩⟩
noncomputable def f3 (g g' : D -> D -> Option D) (fa fb fc : PSt -> Option D) : PSt -> Option D := fun ps => (fa ps).bind fun x => (fb ps).bind fun y => (g x y).bind fun k => match k with
  | .bl true => (fc ps).bind fun z => g' y z
  | .bl false => some (.bl false)
  | _ => none
noncomputable def zf6 : D -> Option Bool
  | .non => some false
  | .bl b => some b
  | .int i => some (i != 0)
  | .str y => if y.length <= sizeLine then some ((y.length : Int) != 0) else none
  | .lst _ xs => some (!xs.isEmpty)
  | .tup xs => some (!xs.isEmpty)
  | .con xs => some (!xs.isEmpty)
  | _ => none
theorem zu3 {K : PySem.W.Frag} {H : Hp} {vs : List V} {ds : List D} {fp : List Addr} (r : Reps K κ H vs ds fp) : ds.isEmpty = vs.isEmpty := by cases r <;> rfl
theorem xx9 {K : PySem.W.Frag} {H : Hp} {v : V} {d : D} {fp : List Addr} {b : Bool} (r : Rep K κ H v d fp) (h : zf6 d = some b) : xu7 K v H b := by
  cases r with
  | non => cases h; rfl
  | bl b => cases h; rfl
  | int i => cases h; rfl
  | str x =>
    rw [zf6] at h
    split at h
    . cases h; exact ⟨by assumption, rfl⟩
    . cases h
  | tup s rs => cases h; exact .inr (.inl ⟨_, s, by rw [zu3 rs]⟩)
  | con s rs => cases h; exact .inl ⟨_, s.l, by rw [zu3 rs]⟩
  | lst s rs => cases h; exact .inl ⟨_, .inl (.inl s), by rw [zu3 rs]⟩
  | lstF s rs => cases h; exact .inl ⟨_, .inl (.inr ⟨_, s⟩), by rw [zu3 rs]⟩
  | _ => cases h
noncomputable def fT (f : PSt -> Option D) : PSt -> Option Bool := fun ps => (f ps).bind zf6
theorem xy0 {f : PSt -> Option D} {ps : PSt} {b : Bool} (h : fT f ps = some b) : ∃ d, f ps = some d /\ zf6 d = some b := by
  unfold fT at h
  cases e : f ps with
  | none => rw [e] at h; cases h
  | some d => rw [e] at h; exact ⟨d, rfl, h⟩
theorem zs6 (ha : QV X κ a fa) (he : ∀ whole, isTrue a X.env whole = (do let v <- whole; standAt a.pos; holding [v] (truthy v)) := by intro _; rfl) : QT X κ a (fT fa) :=
  (xr1 ha he).imp fun σ H Q hh_ => by
    obtain ⟨ps, c, w, e, q⟩ := hh_
    obtain ⟨d, e1, e2⟩ := xy0 e
    exact ⟨ps, d, w, e1, fun v H' fp s r => ⟨c, xx9 r e2, q H' s⟩⟩
noncomputable def zq7 (f g : PSt -> Option Bool) : PSt -> Option Bool := fun ps => (f ps).bind fun c => if c = true then g ps else some false
noncomputable def zi9 (f g : PSt -> Option Bool) : PSt -> Option Bool := fun ps => (f ps).bind fun c => if c = true then some true else g ps
noncomputable def zo2 (f : PSt -> Option Bool) : PSt -> Option Bool := fun ps => (f ps).map (!·)
variable {pos : Pos} {zb1 : List Expr} {ta tb : PSt -> Option Bool}
theorem yi3 (ha : QT X κ a ta) : QW X κ (.BoolOp .And [a] pos) ta := xw8 ha
theorem yg2 (ha : QT X κ a ta) : QW X κ (.BoolOp .Or [a] pos) ta := wa4 ha
theorem yo1 (ha : QT X κ a ta) (hb : QW X κ (.BoolOp .And (b :: zb1) pos) tb) : QW X κ (.BoolOp .And (a :: b :: zb1) pos) (zq7 ta tb) :=
  (wa5 ha hb).imp fun σ H Q hh_ => by
    obtain ⟨ps, c, w, e, q⟩ := hh_
    unfold zq7 at e
    cases e1 : ta ps with
    | none => rw [e1] at e; cases e
    | some k =>
      rw [e1] at e
      refine ⟨ps, k, w, e1, fun H1 s1 => ?_⟩
      cases k with
      | true => rw [if_pos rfl]; exact ⟨ps, c, w.same s1, by simpa using e, fun H2 s2 => q H2 (s1.trans s2)⟩
      | false =>
        rw [if_neg Bool.false_ne_true]
        have : c = false := by simpa using e.symm
        subst this; exact q H1 s1
theorem yi4 (ha : QT X κ a ta) (hb : QW X κ (.BoolOp .Or (b :: zb1) pos) tb) : QW X κ (.BoolOp .Or (a :: b :: zb1) pos) (zi9 ta tb) :=
  (wf9 ha hb).imp fun σ H Q hh_ => by
    obtain ⟨ps, c, w, e, q⟩ := hh_
    unfold zi9 at e
    cases e1 : ta ps with
    | none => rw [e1] at e; cases e
    | some k =>
      rw [e1] at e
      refine ⟨ps, k, w, e1, fun H1 s1 => ?_⟩
      cases k with
      | true =>
        rw [if_pos rfl]
        have : c = true := by simpa using e.symm
        subst this; exact q H1 s1
      | false => rw [if_neg Bool.false_ne_true]; exact ⟨ps, c, w.same s1, by simpa using e, fun H2 s2 => q H2 (s1.trans s2)⟩
theorem yl5 (h : QW X κ a ta) : QT X κ a ta := PW.pt h
theorem yc4 (ha : QT X κ a ta) : QT X κ (.UnaryOp .Not a pos) (zo2 ta) :=
  (wa6 ha).imp fun σ H Q hh_ => by
    obtain ⟨ps, c, w, e, q⟩ := hh_
    unfold zo2 at e
    cases e1 : ta ps with
    | none => rw [e1] at e; cases e
    | some k =>
      rw [e1] at e
      have : c = !k := by simpa using e.symm
      subst this
      exact ⟨ps, k, w, e1, fun H1 s1 => q H1 s1⟩
noncomputable def ye4 (f g : PSt -> Option D) : PSt -> Option D := fun ps => (f ps).bind fun c => match c with
  | .bl true => g ps
  | .bl false => some (.bl false)
  | _ => none
noncomputable def fOr (f g : PSt -> Option D) : PSt -> Option D := fun ps => (f ps).bind fun c => match c with
  | .bl true => some (.bl true)
  | .bl false => g ps
  | _ => none
theorem xv5 {d : D} {α : Type} {x y : Option α} {z : α} (h : (match d with | .bl true => x | .bl false => y | _ => none) = some z) : ∃ b, d = .bl b /\ (if b = true then x else y) = some z := by
  cases d with
  | bl b => cases b <;> exact ⟨_, rfl, h⟩
  | _ => cases h
theorem yo2 {op} (h : QP X κ a fa) : QP X κ (.BoolOp op [a] pos) fa := wa7 h
theorem yy7 (ha : QP X κ a fa) (hb : QP X κ (.BoolOp .And (b :: zb1) pos) fb) : QP X κ (.BoolOp .And (a :: b :: zb1) pos) (ye4 fa fb) :=
  (wa8 ha hb).imp fun σ H Q hh_ => by
    obtain ⟨ps, d, w, e, q⟩ := hh_
    unfold ye4 at e
    cases e1 : fa ps with
    | none => rw [e1] at e; cases e
    | some k =>
      rw [e1] at e
      obtain ⟨c, rfl, e2⟩ := xv5 (x := fb ps) (y := some (.bl false)) e
      refine ⟨ps, _, w, e1, fun v H1 fv s1 _ _ r1 => ⟨c, r1.is_bl, ?_⟩⟩
      cases c with
      | true => rw [if_pos rfl] at e2 |-; exact ⟨ps, d, w.same s1, e2, q.after s1⟩
      | false =>
        rw [if_neg Bool.false_ne_true] at e2 |-
        cases e2; exact (q.after s1).now (.bl false)
theorem xi7 (ha : QP X κ a fa) (hb : QP X κ (.BoolOp .Or (b :: zb1) pos) fb) : QP X κ (.BoolOp .Or (a :: b :: zb1) pos) (fOr fa fb) :=
  (wg0 ha hb).imp fun σ H Q hh_ => by
    obtain ⟨ps, d, w, e, q⟩ := hh_
    unfold fOr at e
    cases e1 : fa ps with
    | none => rw [e1] at e; cases e
    | some k =>
      rw [e1] at e
      obtain ⟨c, rfl, e2⟩ := xv5 (d := k) (x := some (D.bl true)) (y := fb ps) (z := d) e
      refine ⟨ps, _, w, e1, fun v H1 fv s1 _ _ r1 => ⟨c, r1.is_bl, ?_⟩⟩
      cases c with
      | true => rw [if_pos rfl] at e2 |-; cases e2; exact (q.after s1).now (.bl true)
      | false => rw [if_neg Bool.false_ne_true] at e2 |-; exact ⟨ps, d, w.same s1, e2, q.after s1⟩
noncomputable def zv9 (f : PSt -> Option D) : PSt -> Option D := fun ps => (f ps).bind fun c => match c with
  | .int i => some (.int (-i))
  | _ => none
theorem zw8 (ha : QV X κ a fa) : QP X κ (.UnaryOp .USub a pos) (zv9 fa) :=
  (wg1 wb3 ha).imp fun σ H Q hh_ => by
    obtain ⟨ps, d, w, e, q⟩ := hh_
    unfold zv9 at e
    cases e1 : fa ps with
    | none => rw [e1] at e; cases e
    | some k =>
      rw [e1] at e
      cases k with
      | int i => cases e; exact ⟨ps, _, w, e1, fun v H1 fp s1 r1 => ⟨i, r1.is_int, (q.after s1).now (.int _)⟩⟩
      | _ => cases e
end
end L2
namespace L2
open PySem PySem.Spec PyProof.Rows
section
variable {X : Cx} {κ : Str -> Addr}
theorem Inv.lstR {pins : List (Addr × Obj)} {σ : St} {H : Hp} {s : Shared} {l : Addr} {xs : List V} (I : Inv X pins σ H s) (h : Rd H l (.lst xs)) :
    xs.length <= sizeLine /\ ∃ (its : List Value) (n : Nat), zc0 xs its /\ xs.length = its.length /\ s.heap.get? l = some { cls := .type "list", data := .seq its.toArray n } := by
  obtain ⟨z, its, n, r, e⟩ := h.ok I.hok
  exact ⟨z, its, n, r, r.length, e⟩
theorem xy1 : OpR X (binaryOp .Add) (fun x y H Q => ∃ l b xs zs, x = .ref l /\ y = .ref b /\ Rd H l (.lst xs) /\ Rd H b (.lst zs) /\ xs.length + zs.length <= sizeLine /\ ∀ p, H p = none -> Q (.ref p) (upd H p (.lst (xs ++ zs)))) := by
  intro pins s σ H x y v u Q I rx ry h
  obtain ⟨l, b, xs, zs, rfl, rfl, hH, hB, hz, q⟩ := h
  cases rx
  cases ry
  obtain ⟨z, its, n, r, hl, e⟩ := I.lstR hH
  obtain ⟨z2, its2, n2, r2, hl2, e2⟩ := I.lstR hB
  refine PySem.P.add_list e e2 ?_ (by rw [List.size_toArray, List.size_toArray]; omega)
  have ea : its.toArray ++ its2.toArray = (its ++ its2).toArray := by simp
  rw [ea]
  exact ⟨.ref _, _, I.lnew (t' := s.toks) (r.append r2) (by rw [List.length_append]; omega), rfl, q _ I.fresh⟩
theorem Rep.lst_inv {K : PySem.W.Frag} {H : Hp} {v : V} {o : Bool} {ds : List D} {fp : List Addr} (r : Rep K κ H v (.lst o ds) fp) : ∃ a vs g, v = .ref a /\ Rd H a (.lst vs) /\ Reps K κ H vs ds g /\ g.Sublist fp := by
  cases r with
  | lst h hs => exact ⟨_, _, _, rfl, .inl h, hs, List.sublist_cons_self _ _⟩
  | lstF h hs => exact ⟨_, _, _, rfl, .inr ⟨_, h⟩, hs, .refl _⟩
theorem Rep.lstT_inv {K : PySem.W.Frag} {H : Hp} {v : V} {ds : List D} {fp : List Addr} (r : Rep K κ H v (.lst true ds) fp) : ∃ a vs g, v = .ref a /\ H a = some (.lst vs) /\ Reps K κ H vs ds g /\ fp = a :: g := by
  cases r with
  | lst h hs => exact ⟨_, _, _, rfl, h, hs, rfl⟩
theorem Rep.objT_inv {K : PySem.W.Frag} {H : Hp} {v : V} {C : Str} {ns : List Str} {ds : List D} {fp : List Addr} (r : Rep K κ H v (.obj true C ns ds) fp) : ∃ a dx fs g, v = .ref a /\ H a = some (.ins (κ C) dx fs) /\ fs.map (·.1) = ns /\ Reps K κ H (fs.map (·.2)) ds g /\ fp = a :: g := by
  cases r with
  | obj h e hs => exact ⟨_, _, _, _, rfl, h, e, hs, rfl⟩
theorem Rep.tup_inv {K : PySem.W.Frag} {H : Hp} {v : V} {ds : List D} {fp : List Addr} (r : Rep K κ H v (.tup ds) fp) : ∃ a vs, v = .ref a /\ SqT K H a vs /\ Reps K κ H vs ds [] := by
  cases r with
  | tup h hs => exact ⟨_, _, rfl, h, hs⟩
theorem Reps.pair {K : PySem.W.Frag} {H : Hp} {vs : List V} {ds : List D} {fp : List Addr} (r : Reps K κ H vs ds fp) (h : D.imms ds = true) : Paired (fun v d => Rep K κ H v d []) vs ds := by
  have e := r.imm h
  subst e
  exact r.nilp
theorem Rep.con_inv {K : PySem.W.Frag} {H : Hp} {v : V} {ds : List D} {fp : List Addr} (r : Rep K κ H v (.con ds) fp) : ∃ a vs, v = .ref a /\ SqF K H a vs /\ Reps K κ H vs ds [] := by
  cases r with
  | con h hs => exact ⟨_, _, rfl, h, hs⟩
theorem xy2 {K : PySem.W.Frag} {H : Hp} {vs : List V} {ds : List D} {Q : VK} {p : Addr} (hp : H p = none) (r : Paired (fun v d => Rep K κ H v d []) vs ds) (q : zr5 K κ H (.lst true ds) Q) : Q (.ref p) (upd H p (.lst vs)) :=
  q.at hp (fv := [p]) (fun a ha => by simp at ha; subst ha; exact hp) (by simp) (.lst zh0 ((Reps.ofp r).same (.new hp _)))
theorem xf4 {K : PySem.W.Frag} {H : Hp} {vs : List V} {ds : List D} {Q : VK} {p : Addr} (hp : H p = none) (r : Paired (fun v d => Rep K κ H v d []) vs ds) (q : zr5 K κ H (.tup ds) Q) : Q (.ref p) (upd H p (.tup vs)) :=
  q.at hp (fv := []) (fun a ha => by simp at ha) (by simp) (.tup (.inl (.inl zh0)) ((Reps.ofp r).same (.new hp _)))
noncomputable def zf0 : D -> D -> Option D
  | .int i, .int j => some (.int (i + j))
  | .str x, .str y => if x.length + y.length <= sizeLine then some (.str (x ++ y)) else none
  | .lst _ xs, .lst _ ys => if (D.imms xs && D.imms ys && decide (xs.length + ys.length <= sizeLine)) = true then some (.lst true (xs ++ ys)) else none
  | _, _ => none
theorem bind_some {α β : Type} {o : Option α} {g : α -> Option β} {z : β} (h : o.bind g = some z) : ∃ x, o = some x /\ g x = some z := by
  cases o with
  | none => cases h
  | some x => exact ⟨x, rfl, h⟩
theorem ze5 {α : Type} {c : Prop} [Decidable c] {x : Option α} {z : α} (h : (if c then x else none) = some z) : c /\ x = some z := by
  by_cases k : c
  . rw [if_pos k] at h; exact ⟨k, h⟩
  . rw [if_neg k] at h; cases h
theorem zt0 : OpR X (binaryOp .Add) (POp X.K κ zf0) := by
  rintro pins s σ H x y v u Q I rx ry ⟨dx, dy, d, fx, fy, r1, r2, e, q⟩
  unfold zf0 at e
  split at e
  . rename_i i j
    cases e; exact yc3 pins s σ H x y v u Q I rx ry ⟨i, j, r1.is_int, r2.is_int, q.now (.int _)⟩
  . rename_i i j
    obtain ⟨hc, e⟩ := ze5 e
    cases e; exact xh6 pins s σ H x y v u Q I rx ry ⟨i, j, r1.is_str, r2.is_str, hc, q.now (.str _)⟩
  . rename_i o xs o' ys
    obtain ⟨hc, e⟩ := ze5 e
    simp only [Bool.and_eq_true, decide_eq_true_eq] at hc
    cases e
    obtain ⟨a, vs, g, rfl, h1, s1, _⟩ := r1.lst_inv
    obtain ⟨b, us, g', rfl, h2, s2, _⟩ := r2.lst_inv
    exact xy1 pins s σ H _ _ v u Q I rx ry ⟨a, b, vs, us, rfl, rfl, h1, h2, by rw [s1.length, s2.length]; exact hc.2, fun p hp => xy2 hp (Paired.app (s1.pair hc.1.1) (s2.pair hc.1.2)) q⟩
  . cases e
noncomputable def dII (C : Int -> Int -> Bool) (g : Int -> Int -> D) : D -> D -> Option D
  | .int i, .int j => if C i j = true then some (g i j) else none
  | _, _ => none
theorem yy8 {C : Int -> Int -> Bool} {g : Int -> Int -> D} {x y d : D} (h : dII C g x y = some d) : ∃ i j, x = .int i /\ y = .int j /\ C i j = true /\ d = g i j := by
  unfold dII at h
  split at h
  . obtain ⟨hc, h⟩ := ze5 h
    cases h; exact ⟨_, _, rfl, rfl, hc, rfl⟩
  . cases h
noncomputable def zn3 : D -> D -> Option D
  | .int i, .int j => some (.int (i - j))
  | _, _ => none
theorem yx2 : OpR X (binaryOp .Sub) (POp X.K κ zn3) := by
  rintro pins s σ H x y v u Q I rx ry ⟨dx, dy, d, fx, fy, r1, r2, e, q⟩
  unfold zn3 at e
  split at e
  . rename_i i j
    cases e; exact wb1 pins s σ H x y v u Q I rx ry ⟨i, j, r1.is_int, r2.is_int, q.now (.int _)⟩
  . cases e
noncomputable def xc7 (i j : Int) : Bool := (decide (-(2 ^ 64) < i) && decide (i < 2 ^ 64)) || (decide (-(2 ^ 64) < j) && decide (j < 2 ^ 64))
noncomputable def zx7 : D -> D -> Option D
  | .int i, .int j => if xc7 i j = true then some (.int (i * j)) else none
  | .str x, .int n => if (decide (x.length <= 1) && decide (-(2 ^ 63) <= n) && decide (n <= 16777216)) = true then some (.str (Txt.mul x n)) else none
  | _, _ => none
theorem xi8 : OpR X (binaryOp .Mult) (fun x y H Q => ∃ z n, x = .str z /\ y = .int n /\ MulOk z n /\ Q (.str (Txt.mul z n)) H) := by
  rintro pins s σ H x y v u Q I rx ry ⟨z, n, e1, e2, ok, q⟩
  subst e1 e2
  obtain ⟨t, rfl⟩ := rx
  obtain ⟨t', rfl⟩ := ry
  exact SB.mul ok fun t' k => ⟨.str _, H, I.tok k, ⟨_, rfl⟩, q⟩
theorem yo3 : OpR X (binaryOp .Mult) (POp X.K κ zx7) := by
  rintro pins s σ H x y v u Q I rx ry ⟨dx, dy, d, fx, fy, r1, r2, e, q⟩
  unfold zx7 at e
  split at e
  . rename_i i j
    obtain ⟨hc, e⟩ := ze5 e
    cases e
    refine zu2 pins s σ H x y v u Q I rx ry ⟨i, j, r1.is_int, r2.is_int, ?_, q.now (.int _)⟩
    unfold xc7 at hc
    simp only [Bool.or_eq_true, Bool.and_eq_true, decide_eq_true_eq] at hc
    exact hc
  . rename_i z n
    obtain ⟨hc, e⟩ := ze5 e
    simp only [Bool.and_eq_true, decide_eq_true_eq] at hc
    cases e
    exact xi8 pins s σ H _ _ v u Q I rx ry ⟨z, n, r1.is_str, r2.is_int, mulOk_of 1 16777216 hc.1.1 (by omega) hc.1.2 (by decide) (by decide), q.now (.str _)⟩
  . cases e
noncomputable def zl4 : D -> D -> Option D := dII (fun _ j => decide (0 < j)) fun i j => .int (i % j)
theorem zu4 : OpR X (binaryOp .Mod) (POp X.K κ zl4) := by
  rintro pins s σ H x y v u Q I rx ry ⟨dx, dy, d, fx, fy, r1, r2, e, q⟩
  obtain ⟨i, j, rfl, rfl, hc, rfl⟩ := yy8 e
  exact yn3 pins s σ H x y v u Q I rx ry ⟨i, j, r1.is_int, r2.is_int, of_decide_eq_true hc, q.now (.int _)⟩
noncomputable def zo9 : D -> D -> Option D := dII (fun _ j => decide (0 < j) && decide (j < 1073741824)) fun i j => .int (i / j)
theorem zy3 : OpR X (binaryOp .FloorDiv) (POp X.K κ zo9) := by
  rintro pins s σ H x y v u Q I rx ry ⟨dx, dy, d, fx, fy, r1, r2, e, q⟩
  obtain ⟨i, j, rfl, rfl, hc, rfl⟩ := yy8 e
  simp only [Bool.and_eq_true, decide_eq_true_eq] at hc
  exact xe5 pins s σ H x y v u Q I rx ry ⟨i, j, r1.is_int, r2.is_int, hc, q.now (.int _)⟩
noncomputable def D.ints : List D -> Option (List Int)
  | [] => some []
  | .int i :: ds => (D.ints ds).map (i :: ·)
  | _ :: _ => none
theorem xf5 {K : PySem.W.Frag} {H : Hp} : ∀ {vs : List V} {ds : List D} {fp : List Addr} {ns : List Int}, Reps K κ H vs ds fp -> D.ints ds = some ns -> vs = ns.map V.int
  | _, _, _, _, .nil, e => by cases e; rfl
  | _, d :: ds, _, ns, .cons h hs, e => by
    cases d with
    | int i =>
      rw [D.ints] at e
      cases e1 : D.ints ds with
      | none => rw [e1] at e; cases e
      | some ms => rw [e1] at e; cases e; rw [h.is_int, xf5 hs e1]; rfl
    | _ => cases e
noncomputable def dLt : D -> D -> Option D
  | .int i, .int j => some (.bl (decide (i < j)))
  | _, _ => none
theorem yl6 (hu : X.A.units < cLine) : OpR X (compareOp .Lt) (POp X.K κ dLt) := by
  rintro pins s σ H x y v u Q I rx ry ⟨dx, dy, d, fx, fy, r1, r2, e, q⟩
  unfold dLt at e
  split at e
  . rename_i i j
    cases e; exact wg2 pins s σ H x y v u Q I rx ry ⟨i, j, r1.is_int, r2.is_int, q.now (.bl _)⟩
  . cases e
noncomputable def dLe : D -> D -> Option D
  | .int i, .int j => some (.bl (decide (i <= j)))
  | _, _ => none
theorem xs0 : OpR X (compareOp .LtE) (POp X.K κ dLe) := by
  rintro pins s σ H x y v u Q I rx ry ⟨dx, dy, d, fx, fy, r1, r2, e, q⟩
  unfold dLe at e
  split at e
  . rename_i i j
    cases e; exact wg3 pins s σ H x y v u Q I rx ry ⟨i, j, r1.is_int, r2.is_int, q.now (.bl _)⟩
  . cases e
noncomputable def dGt : D -> D -> Option D
  | .int i, .int j => some (.bl (decide (j < i)))
  | _, _ => none
theorem xs1 : OpR X (compareOp .Gt) (POp X.K κ dGt) := by
  rintro pins s σ H x y v u Q I rx ry ⟨dx, dy, d, fx, fy, r1, r2, e, q⟩
  unfold dGt at e
  split at e
  . rename_i i j
    cases e; exact wg4 pins s σ H x y v u Q I rx ry ⟨i, j, r1.is_int, r2.is_int, q.now (.bl _)⟩
  . cases e
noncomputable def dGe : D -> D -> Option D
  | .int i, .int j => some (.bl (decide (j <= i)))
  | _, _ => none
theorem xi9 : OpR X (compareOp .GtE) (POp X.K κ dGe) := by
  rintro pins s σ H x y v u Q I rx ry ⟨dx, dy, d, fx, fy, r1, r2, e, q⟩
  unfold dGe at e
  split at e
  . rename_i i j
    cases e; exact wg5 pins s σ H x y v u Q I rx ry ⟨i, j, r1.is_int, r2.is_int, q.now (.bl _)⟩
  . cases e
mutual
noncomputable def D.data : D -> Option PyData
  | .non => some .none
  | .bl b => some (.bool b)
  | .int i => some (.int i)
  | .str x => some (.str x)
  | .tup xs => (D.datas xs).map .tuple
  | .lst _ xs => (D.datas xs).map .list
  | _ => none
noncomputable def D.datas : List D -> Option (List PyData)
  | [] => some []
  | d :: ds => d.data.bind fun p => (D.datas ds).map (p :: ·)
end
theorem Reps.dps {K : PySem.W.Frag} {H : Hp} {vs : List V} {ds : List D} {fp : List Addr} (h : Reps K κ H vs ds fp) : ∀ {p : List PyData}, D.datas ds = some p -> DpAll K H vs p :=
  Reps.rec (motive_1 := fun v d _ _ => ∀ {p : PyData}, d.data = some p -> Dp K H v p) (motive_2 := fun vs ds _ _ => ∀ {p : List PyData}, D.datas ds = some p -> DpAll K H vs p)
    (fun e => by cases e; exact .non) (fun b _ e => by cases e; exact .bl b) (fun b _ e => by cases e; exact .int b) (fun b _ e => by cases e; exact .str b) (fun b _ e => nomatch e)
    (fun h _ ih _ e => by obtain ⟨ps, e1, e⟩ := Option.map_eq_some_iff.mp e; subst e; exact .tup h (ih e1)) (fun _ _ _ _ e => nomatch e)
    (fun h _ ih _ e => by obtain ⟨ps, e1, e⟩ := Option.map_eq_some_iff.mp e; subst e; exact .lst (.inl (.inl h)) (ih e1))
    (fun h _ ih _ e => by obtain ⟨ps, e1, e⟩ := Option.map_eq_some_iff.mp e; subst e; exact .lst (.inl (.inr ⟨_, h⟩)) (ih e1))
    (fun _ _ _ _ _ e => nomatch e) (fun _ _ _ _ _ e => nomatch e) (fun _ _ _ _ _ e => nomatch e) (fun _ _ _ _ _ e => nomatch e)
    (fun e => by cases e; exact .nil)
    (fun _ _ i1 i2 _ e => by
      obtain ⟨q, e1, e⟩ := bind_some e
      obtain ⟨qs, e2, e⟩ := Option.map_eq_some_iff.mp e
      subst e
      exact .cons (i1 e1) (i2 e2)) h
theorem Rep.dp {K : PySem.W.Frag} {H : Hp} {v : V} {d : D} {fp : List Addr} {p : PyData} (h : Rep K κ H v d fp) (e : d.data = some p) : Dp K H v p := by
  have := (Reps.one h).dps (p := [p]) (by show (d.data.bind _) = _; rw [e]; rfl)
  cases this; assumption
noncomputable def xc8 (x y : D) : Option Bool := x.data.bind fun a => y.data.bind fun b => if (a.canLay0 && b.canLay0 && decide (a.depth <= 60)) = true then some (PyData.eqv a b) else none
noncomputable def eqB (x y : D) : Option Bool := match x, y with
  | .int i, .int j => some (decide (i = j))
  | .str i, .str j => some (decide (i = j))
  | x, y => xc8 x y
noncomputable def dEq (x y : D) : Option D := (eqB x y).map .bl
noncomputable def dNe (x y : D) : Option D := (eqB x y).map fun b => .bl (!b)
theorem yu8 {x y : D} {b : Bool} (h : eqB x y = some b) : (∃ i j, x = .int i /\ y = .int j /\ b = decide (i = j)) \/ (∃ i j, x = .str i /\ y = .str j /\ b = decide (i = j)) \/
    ∃ p q, x.data = some p /\ y.data = some q /\ p.canLay0 = true /\ q.canLay0 = true /\ p.depth <= 60 /\ b = PyData.eqv p q := by
  have gen : xc8 x y = some b -> ∃ p q, x.data = some p /\ y.data = some q /\ p.canLay0 = true /\ q.canLay0 = true /\ p.depth <= 60 /\ b = PyData.eqv p q := fun h => by
    unfold xc8 at h
    cases e1 : x.data with
    | none => rw [e1] at h; cases h
    | some p =>
      rw [e1] at h
      cases e2 : y.data with
      | none => rw [e2] at h; cases h
      | some q =>
        rw [e2] at h
        have h' : (if (p.canLay0 && q.canLay0 && decide (p.depth <= 60)) = true then some (PyData.eqv p q) else none) = some b := h
        split at h'
        . rename_i hc
          simp only [Bool.and_eq_true, decide_eq_true_eq] at hc
          exact ⟨p, q, rfl, rfl, hc.1.1, hc.1.2, hc.2, (Option.some.inj h').symm⟩
        . cases h'
  unfold eqB at h
  split at h
  . cases h; exact .inl ⟨_, _, rfl, rfl, rfl⟩
  . cases h; exact .inr (.inl ⟨_, _, rfl, rfl, rfl⟩)
  . exact .inr (.inr (gen h))
theorem zq4 (hu : X.A.units + 64 < cLine) : OpR X (compareOp .Eq) (POp X.K κ dEq) := by
  rintro pins s σ H x y v u Q I rx ry ⟨dx, dy, d, fx, fy, r1, r2, e, q⟩
  unfold dEq at e
  cases e1 : eqB dx dy with
  | none => rw [e1] at e; cases e
  | some b =>
    rw [e1] at e
    cases e
    rcases yu8 e1 with ⟨i, j, rfl, rfl, rfl⟩ | ⟨i, j, rfl, rfl, rfl⟩ | ⟨p, p', h1, h2, h3, h4, h5, rfl⟩
    . rw [r1.is_int] at rx; rw [r2.is_int] at ry
      exact xh4 pins s σ H _ _ v u Q I rx ry ⟨rfl, by rw [show decide (V.int i = V.int j) = decide (i = j) by simp]; exact q.now (.bl _)⟩
    . rw [r1.is_str] at rx; rw [r2.is_str] at ry
      exact xh4 pins s σ H _ _ v u Q I rx ry ⟨rfl, by rw [show decide (V.str i = V.str j) = decide (i = j) by simp]; exact q.now (.bl _)⟩
    . exact wc7 hu pins s σ H _ _ v u Q I rx ry ⟨p, p', r1.dp h1, r2.dp h2, h3, h4, h5, q.now (.bl _)⟩
theorem xs2 (hu : X.A.units + 64 < cLine) : OpR X (compareOp .NotEq) (POp X.K κ dNe) := by
  rintro pins s σ H x y v u Q I rx ry ⟨dx, dy, d, fx, fy, r1, r2, e, q⟩
  unfold dNe at e
  cases e1 : eqB dx dy with
  | none => rw [e1] at e; cases e
  | some b =>
    rw [e1] at e
    cases e
    rcases yu8 e1 with ⟨i, j, rfl, rfl, rfl⟩ | ⟨i, j, rfl, rfl, rfl⟩ | ⟨p, p', h1, h2, h3, h4, h5, rfl⟩
    . rw [r1.is_int] at rx; rw [r2.is_int] at ry
      exact xv0 pins s σ H _ _ v u Q I rx ry ⟨rfl, by rw [show decide (V.int i = V.int j) = decide (i = j) by simp]; exact q.now (.bl _)⟩
    . rw [r1.is_str] at rx; rw [r2.is_str] at ry
      exact xv0 pins s σ H _ _ v u Q I rx ry ⟨rfl, by rw [show decide (V.str i = V.str j) = decide (i = j) by simp]; exact q.now (.bl _)⟩
    . exact wc8 hu pins s σ H _ _ v u Q I rx ry ⟨p, p', r1.dp h1, r2.dp h2, h3, h4, h5, q.now (.bl _)⟩
noncomputable def zl1 : D -> Bool
  | .non => true
  | _ => false
theorem xs3 {K : PySem.W.Frag} {H : Hp} {v : V} {d : D} {fp : List Addr} (r : Rep K κ H v d fp) : decide (v = .non) = zl1 d := by cases r <;> first | rfl | simp [zl1]
noncomputable def dIs : D -> D -> Option D
  | x, .non => some (.bl (zl1 x))
  | _, _ => none
theorem xs4 : OpR X (compareOp .Is) (POp X.K κ dIs) := by
  rintro pins s σ H x y v u Q I rx ry ⟨dx, dy, d, fx, fy, r1, r2, e, q⟩
  cases dy with
  | non =>
    cases e; cases r2
    refine wb4 pins s σ H x _ v u Q I rx ry ⟨rfl, ?_⟩
    rw [xs3 r1]; exact q.now (.bl _)
  | _ => cases e
noncomputable def D.flat : D -> Option V
  | .non => some .non
  | .bl b => some (.bl b)
  | .int i => some (.int i)
  | .str x => some (.str x)
  | _ => none
noncomputable def D.flats : List D -> Option (List V)
  | [] => some []
  | d :: ds => d.flat.bind fun v => (D.flats ds).map (v :: ·)
theorem xf6 {K : PySem.W.Frag} {H : Hp} {v w : V} {d : D} {fp : List Addr} (r : Rep K κ H v d fp) (h : d.flat = some w) : v = w /\ zq6 v = true := by
  cases r <;> first | (cases h; exact ⟨rfl, rfl⟩) | cases h
theorem yy9 {K : PySem.W.Frag} {H : Hp} : ∀ {vs ws : List V} {ds : List D} {fp : List Addr}, Reps K κ H vs ds fp -> D.flats ds = some ws -> vs = ws /\ vs.all zq6 = true
  | _, _, _, _, .nil, e => by cases e; exact ⟨rfl, rfl⟩
  | _, ws, d :: ds, _, .cons h hs, e => by
    rw [D.flats] at e
    cases e1 : d.flat with
    | none => rw [e1] at e; cases e
    | some w =>
      rw [e1] at e
      cases e2 : D.flats ds with
      | none => rw [e2] at e; cases e
      | some us =>
        rw [e2] at e; cases e
        obtain ⟨a1, a2⟩ := xf6 h e1
        obtain ⟨b1, b2⟩ := yy9 hs e2
        exact ⟨by rw [a1, b1], by rw [List.all_cons, a2, b2]; rfl⟩
noncomputable def zy5 (x : D) (ds : List D) : Option Bool := x.flat.bind fun v => (D.flats ds).map fun ws => inV v ws
noncomputable def inB (x : D) : D -> Option Bool
  | .lst _ ds => zy5 x ds
  | .tup ds => zy5 x ds
  | _ => none
noncomputable def dIn (x y : D) : Option D := (inB x y).map .bl
theorem wc9 {H : Hp} {x y : V} {dx dy : D} {fx fy : List Addr} {b : Bool} (r1 : Rep X.K κ H x dx fx) (r2 : Rep X.K κ H y dy fy) (e : inB dx dy = some b) :
    ∃ p xs, y = .ref p /\ (SqL X.K H p xs \/ SqT X.K H p xs) /\ zq6 x = true /\ xs.all zq6 = true /\ b = inV x xs := by
  have gen : ∀ {vs : List V} {ds : List D} {g : List Addr}, Reps X.K κ H vs ds g -> zy5 dx ds = some b -> zq6 x = true /\ vs.all zq6 = true /\ b = inV x vs := fun {vs ds g} rs h => by
    unfold zy5 at h
    cases e1 : dx.flat with
    | none => rw [e1] at h; cases h
    | some w =>
      rw [e1] at h
      cases e2 : D.flats ds with
      | none => rw [e2] at h; cases h
      | some ws =>
        rw [e2] at h
        obtain ⟨a1, a2⟩ := xf6 r1 e1
        obtain ⟨b1, b2⟩ := yy9 rs e2
        subst a1 b1
        exact ⟨a2, b2, (Option.some.inj h).symm⟩
  cases dy with
  | lst o ds =>
    obtain ⟨a, vs, g, rfl, h, hs, _⟩ := r2.lst_inv
    obtain ⟨g1, g2, g3⟩ := gen hs e
    exact ⟨a, vs, rfl, .inl (.inl h), g1, g2, g3⟩
  | tup ds =>
    obtain ⟨a, vs, rfl, h, hs⟩ := r2.tup_inv
    obtain ⟨g1, g2, g3⟩ := gen hs e
    exact ⟨a, vs, rfl, .inr h, g1, g2, g3⟩
  | _ => cases e
theorem xs5 : OpR X (compareOp .In) (POp X.K κ dIn) := by
  rintro pins s σ H x y v u Q I rx ry ⟨dx, dy, d, fx, fy, r1, r2, e, q⟩
  unfold dIn at e
  cases e1 : inB dx dy with
  | none => rw [e1] at e; cases e
  | some b =>
    rw [e1] at e; cases e
    obtain ⟨p, xs, ey, h, f1, f2, rfl⟩ := wc9 r1 r2 e1
    exact xn2 pins s σ H x y v u Q I rx ry ⟨p, xs, ey, h, f1, f2, q.now (.bl _)⟩
end
end L2
namespace L2
open PySem PySem.Spec PyProof.Rows
theorem Reps.getS {K : PySem.W.Frag} {κ : Str -> Addr} {H : Hp} : ∀ {vs : List V} {ds : List D} {fp : List Addr} {i : Nat} {d : D}, Reps K κ H vs ds fp -> ds[i]? = some d -> ∃ v f, vs[i]? = some v /\ Rep K κ H v d f /\ f.Sublist fp
  | _, _, _, _, _, .nil, e => by simp at e
  | _, _, _, 0, _, .cons h _, e => by simp at e; subst e; exact ⟨_, _, rfl, h, List.sublist_append_left _ _⟩
  | _, _, _, i + 1, _, .cons _ hs, e => by
    obtain ⟨v, f, h1, h2, h3⟩ := Reps.getS (i := i) hs (by simpa using e)
    exact ⟨v, f, by simpa using h1, h2, h3.trans (List.sublist_append_right _ _)⟩
theorem Reps.atI {K : PySem.W.Frag} {κ : Str -> Addr} {H : Hp} {vs : List V} {ds : List D} {fp : List Addr} {i : Int} {d : D} (r : Reps K κ H vs ds fp) (h : L2.atI ds i = some d) : ∃ v f, L2.atI vs i = some v /\ Rep K κ H v d f /\ f.Sublist fp := by
  unfold L2.atI at h |-
  rw [r.length]
  cases e : ixN ds.length i with
  | none => rw [e] at h; cases h
  | some j => rw [e] at h; exact r.getS h
section
variable {X : Cx} {κ : Str -> Addr} {e a b : Expr} {es : List Expr} {f fa fb : PSt -> Option D} {g : PSt -> Option (List D)} {pos p2 : Pos}
noncomputable def za3 : PSt -> Option (List D) := fun _ => some []
noncomputable def za1 (f : PSt -> Option D) (g : PSt -> Option (List D)) : PSt -> Option (List D) := fun ps => (f ps).bind fun d => (g ps).bind fun ds => some (d :: ds)
theorem yd5 {ps : PSt} {ds : List D} (h : za1 f g ps = some ds) : ∃ d es, f ps = some d /\ g ps = some es /\ ds = d :: es := by
  unfold za1 at h
  cases e1 : f ps with
  | none => rw [e1] at h; cases h
  | some d =>
    rw [e1] at h
    cases e2 : g ps with
    | none => rw [e2] at h; cases h
    | some es => rw [e2] at h; cases h; exact ⟨d, es, rfl, rfl, rfl⟩
theorem zd5 : QVA X κ [] za3 := zw7.imp fun σ H Q ⟨ps, ds, w, e, q⟩ => by cases e; exact q [] H [] (.refl H) .nil
theorem zb3 (ha : QV X κ e f) (hr : QVA X κ es g) (hs : starEach (e :: es) X.env = (false, eval e X.env) :: starEach es X.env := by rfl) : QVA X κ (e :: es) (za1 f g) :=
  (zq2 ha hr hs).imp fun σ H Q hh_ => by
    obtain ⟨ps, ds, w, e, q⟩ := hh_
    obtain ⟨d, es, e1, e2, rfl⟩ := yd5 e
    exact ⟨ps, d, w, e1, fun v H1 fp s1 r1 => ⟨ps, es, w.same s1, e2, fun vs H2 fq s2 r2 => q _ H2 _ (s1.trans s2) (.cons (r1.same s2) r2)⟩⟩
theorem zh4 : QPA X κ [] za3 := zw7.imp fun σ H Q ⟨ps, ds, w, e, q⟩ => by cases e; exact q [] H [] (.refl H) (fun _ h => absurd h (by simp)) List.nodup_nil .nil
theorem xn8 {K : PySem.W.Frag} {H1 : Hp} {v : V} {d : D} {fv fw : List Addr} (r : Rep K κ H1 v d fv) (n1 : fv.Nodup) (hw : ∀ a ∈ fw, H1 a = none) (n2 : fw.Nodup) : (fv ++ fw).Nodup := by
  rw [List.nodup_append]
  refine ⟨n1, n2, fun a ha b hb e => ?_⟩
  subst e
  obtain ⟨o, h, _⟩ := r.own a ha
  rw [hw a hb] at h; cases h
theorem zd9 (ha : QP X κ e f) (hr : QPA X κ es g) (hs : starEach (e :: es) X.env = (false, eval e X.env) :: starEach es X.env := by rfl) : QPA X κ (e :: es) (za1 f g) :=
  (zq2 ha hr hs).imp fun σ H Q hh_ => by
    obtain ⟨ps, ds, w, e, q⟩ := hh_
    obtain ⟨d, es, e1, e2, rfl⟩ := yd5 e
    refine ⟨ps, d, w, e1, fun v H1 fv s1 n1 nd1 r1 => ⟨ps, es, w.same s1, e2, fun vs H2 fw s2 n2 nd2 r2 => ?_⟩⟩
    refine q _ H2 (fv ++ fw) (s1.trans s2) (fun a ha => ?_) (xn8 r1 nd1 n2 nd2) (.cons (r1.same s2) r2)
    rcases List.mem_append.mp ha with z | z
    . exact n1 a z
    . exact s1.grow a (n2 a z)
noncomputable def zj0 (g : PSt -> Option (List D)) : PSt -> Option D := fun ps => (g ps).bind fun ds => if (D.imms ds && decide (ds.length <= 1000)) = true then some (.tup ds) else none
noncomputable def zs5 (g : PSt -> Option (List D)) : PSt -> Option D := fun ps => (g ps).bind fun ds => if ds.length <= 1000 then some (.lst true ds) else none
theorem zo7 {x1} (h : QPA X κ es g) : QP X κ (.Tuple es x1 pos) (zj0 g) :=
  (wb8 h).imp fun σ H Q hh_ => by
    obtain ⟨ps, d, w, e, q⟩ := hh_
    obtain ⟨ds, e1, e2⟩ := bind_some e
    obtain ⟨hc, e3⟩ := ze5 e2
    cases e3
    rw [Bool.and_eq_true, decide_eq_true_eq] at hc
    refine ⟨ps, ds, w, e1, fun vs H1 fv s1 n1 nd1 r1 => ⟨by rw [r1.length]; exact yx1 hc.2, fun p hp => ?_⟩⟩
    exact xf4 hp (r1.pair hc.1) (q.after s1)
theorem zz2 (h : QPA X κ es g) : QP X κ (.List es pos) (zs5 g) :=
  (wb9 h).imp fun σ H Q hh_ => by
    obtain ⟨ps, d, w, e, q⟩ := hh_
    obtain ⟨ds, e1, e2⟩ := bind_some e
    obtain ⟨hc, e3⟩ := ze5 e2
    cases e3
    refine ⟨ps, ds, w, e1, fun vs H1 fv s1 n1 nd1 r1 => ⟨by rw [r1.length]; exact yx1 hc, fun p hp => ?_⟩⟩
    refine q _ _ (p :: fv) (s1.trans (.new hp _)) (fun a ha => ?_) (List.nodup_cons.mpr ⟨fun hm => ?_, nd1⟩) (.lst zh0 (r1.same (.new hp _)))
    . rcases List.mem_cons.mp ha with z | z
      . rw [z]; exact s1.grow p hp
      . exact n1 a z
    . obtain ⟨o, h, _⟩ := r1.own p hm
      rw [hp] at h; cases h
noncomputable def dIx : D -> D -> Option D
  | .lst _ xs, .int i => atI xs i
  | .tup xs, .int i => atI xs i
  | .con xs, .int i => atI xs i
  | .str z, .int i => if z.length <= sizeLine then (atI z.cps.toList i).map fun c => .str ⟨#[c]⟩ else none
  | _, _ => none
theorem wd0 {K : PySem.W.Frag} {H : Hp} {x y : V} {dx dy d : D} {fx fy : List Addr} {Q : VK} (r1 : Rep K κ H x dx fx) (r2 : Rep K κ H y dy fy) (e : dIx dx dy = some d) (q : ∀ v f, Rep K κ H v d f -> f.Sublist fx -> Q v H) : rIx K x y H Q := by
  unfold dIx at e
  split at e
  . rename_i o xs i
    obtain ⟨a, vs, g, rfl, h, hs, sub⟩ := r1.lst_inv
    obtain ⟨v, f, h1, h2, h3⟩ := hs.atI e
    exact .inl ⟨a, vs, i, v, rfl, r2.is_int, .inl h, h1, q v f h2 (h3.trans sub)⟩
  . rename_i xs i
    obtain ⟨a, vs, rfl, h, hs⟩ := r1.tup_inv
    obtain ⟨v, f, h1, h2, h3⟩ := hs.atI e
    cases List.sublist_nil.mp h3
    exact .inr (.inl ⟨a, vs, i, v, rfl, r2.is_int, h, h1, q v [] h2 (List.nil_sublist _)⟩)
  . rename_i xs i
    obtain ⟨a, vs, rfl, h, hs⟩ := r1.con_inv
    obtain ⟨v, f, h1, h2, h3⟩ := hs.atI e
    cases List.sublist_nil.mp h3
    exact .inl ⟨a, vs, i, v, rfl, r2.is_int, h.l, h1, q v [] h2 (List.nil_sublist _)⟩
  . rename_i z i
    obtain ⟨hz, e⟩ := ze5 e
    obtain ⟨c, e1, e⟩ := Option.map_eq_some_iff.mp e
    subst e
    exact .inr (.inr ⟨z, i, c, r1.is_str, r2.is_int, hz, e1, q _ [] (.str _) (List.nil_sublist _)⟩)
  . cases e
theorem zg1 (ha : QV X κ a fa) (hb : QV X κ b fb) (hs : yt9 b := by exact fun _ _ => rfl) : QV X κ (.Subscript a b pos) (f2 dIx fa fb) :=
  (xv2 wc2 ha hb hs).imp fun σ H Q hh_ => by
    obtain ⟨ps, d, w, e, q⟩ := hh_
    obtain ⟨x, y, e1, e2, e3⟩ := xf3 e
    exact ⟨ps, x, w, e1, fun v H1 fp s1 r1 => ⟨ps, y, w.same s1, e2, fun u H2 fq s2 r2 => wd0 (r1.same s2) r2 e3 fun v f r _ => q v H2 f (s1.trans s2) r⟩⟩
noncomputable def PCl (K : PySem.W.Frag) (κ : Str -> Addr) (g : List D -> Option D) : List V -> Hp -> VK -> Prop := fun vs H Q => ∃ ds fp d, Reps K κ H vs ds fp /\ g ds = some d /\ zr5 K κ H d Q
noncomputable def za6 (h : List D -> Option D) (g : PSt -> Option (List D)) : PSt -> Option D := fun ps => (g ps).bind h
theorem xn9 {h : List D -> Option D} {σ : St} {H : Hp} {Q : VK} (q : tP X.K κ (za6 h g) σ H Q) : tCB (PCl X.K κ h) (tVA X.K κ g) σ H Q := by
  obtain ⟨ps, d, w, e, q⟩ := q
  obtain ⟨ds, e1, e2⟩ := bind_some e
  exact ⟨ps, ds, w, e1, fun vs H1 fp s1 r1 => ⟨ds, fp, d, r1, e2, q.after s1⟩⟩
theorem zl3 {x : Str} {id : String} {p : Pos} {h : List D -> Option D} (hc : zk0 X (.builtin id) (PCl X.K κ h)) (hg : Gl X x) (hm : X.mg x = none) (hv : bootBuiltins x = some (.builtin id)) (ha : QVA X κ (e :: es) g) (hn : x ≠ "__name__" := by decide) (hdb : (x == ("__debug__" : Str)) = false := by decide)
    (hs : starEach (e :: es) X.env = (false, eval e X.env) :: starEach es X.env := by rfl) (hpl : (backTo pos (starEach es X.env)).any (·.1) = false := by rfl) : QP X κ (.Call (.Name x p) (e :: es) [] pos) (za6 h g) :=
  (zz1 hc hg hm hv ha hn hdb hs hpl).imp fun _ _ _ q => xn9 q
theorem yg3 {x : Str} {T : String} {p : Pos} {h : List D -> Option D} (hc : zk0 X (.type T) (PCl X.K κ h)) (hg : Gl X x) (hm : X.mg x = none) (hv : bootBuiltins x = some (.type T)) (ha : QVA X κ (e :: es) g) (hn : x ≠ "__name__" := by decide) (hdb : (x == ("__debug__" : Str)) = false := by decide)
    (hs : starEach (e :: es) X.env = (false, eval e X.env) :: starEach es X.env := by rfl) (hpl : (backTo pos (starEach es X.env)).any (·.1) = false := by rfl) : QP X κ (.Call (.Name x p) (e :: es) [] pos) (za6 h g) :=
  (xn0 hc hg hm hv ha hn hdb hs hpl).imp fun _ _ _ q => xn9 q
theorem Reps.two_inv {K : PySem.W.Frag} {H : Hp} {vs : List V} {d e : D} {fp : List Addr} (r : Reps K κ H vs [d, e] fp) : ∃ v u f g, vs = [v, u] /\ Rep K κ H v d f /\ Rep K κ H u e g := by
  obtain ⟨v, us, f, g, rfl, h, t, rfl⟩ := r.split
  obtain ⟨u, rfl, h2⟩ := t.one_inv
  exact ⟨v, u, f, g, rfl, h, h2⟩
noncomputable def zg7 : List D -> Option D
  | [.lst _ xs] => some (.int xs.length)
  | [.tup xs] => some (.int xs.length)
  | [.con xs] => some (.int xs.length)
  | [.str z] => if z.length <= sizeLine then some (.int z.length) else none
  | _ => none
theorem zu5 : zk0 X (.builtin "len") (PCl X.K κ zg7) := by
  rintro pins s σ H vs us Q I r ⟨ds, fp, d, rs, e, q⟩
  unfold zg7 at e
  split at e
  . cases e
    obtain ⟨v, rfl, r1⟩ := rs.one_inv
    obtain ⟨a, ws, g, rfl, h, hs, _⟩ := r1.lst_inv
    exact zo6 pins s σ H _ us Q I r ⟨a, ws, rfl, .inl (.inl h), by rw [hs.length]; exact q.now (.int _)⟩
  . cases e
    obtain ⟨v, rfl, r1⟩ := rs.one_inv
    obtain ⟨a, ws, rfl, h, hs⟩ := r1.tup_inv
    exact zo6 pins s σ H _ us Q I r ⟨a, ws, rfl, .inr h, by rw [hs.length]; exact q.now (.int _)⟩
  . cases e
    obtain ⟨v, rfl, r1⟩ := rs.one_inv
    obtain ⟨a, ws, rfl, h, hs⟩ := r1.con_inv
    exact zo6 pins s σ H _ us Q I r ⟨a, ws, rfl, .inl h.l, by rw [hs.length]; exact q.now (.int _)⟩
  . obtain ⟨hz, e⟩ := ze5 e
    cases e
    obtain ⟨v, rfl, r1⟩ := rs.one_inv
    exact yy2 pins s σ H _ us Q I r ⟨_, by rw [r1.is_str], hz, q.now (.int _)⟩
  . cases e
noncomputable def dTy : D -> Option String
  | .non => some "NoneType"
  | .bl _ => some "bool"
  | .int _ => some "int"
  | .str _ => some "str"
  | .lst _ _ => some "list"
  | .tup _ => some "tuple"
  | .dic true _ _ => some "dict"
  | _ => none
noncomputable def ym8 : List D -> Option D
  | [x, .ty c] => (dTy x).bind fun t => if c ∈ ["bool", "int", "str", "list", "tuple", "dict"] then some (.bl (yq5 t c)) else none
  | _ => none
theorem wd1 {K : PySem.W.Frag} {H : Hp} {v : V} {d : D} {fp : List Addr} {t : String} (r : Rep K κ H v d fp) (h : dTy d = some t) : (yd1 H v = some t \/ (t = "tuple" /\ ∃ a xs, v = .ref a /\ SqT K H a xs)) := by
  cases r with
  | non => cases h; exact .inl rfl
  | bl _ => cases h; exact .inl rfl
  | int _ => cases h; exact .inl rfl
  | str _ => cases h; exact .inl rfl
  | tup s _ => cases h; exact .inr ⟨rfl, _, _, rfl, s⟩
  | lst s _ => cases h; exact .inl (by simp [yd1, s])
  | lstF s _ => cases h; exact .inl (by simp [yd1, s])
  | dic s _ _ => cases h; exact .inl (by simp [yd1, s])
  | _ => cases h
theorem xj0 : zk0 X (.builtin "isinstance") (PCl X.K κ ym8) := by
  rintro pins s σ H vs us Q I r ⟨ds, fp, d, rs, e, q⟩
  unfold ym8 at e
  split at e
  . obtain ⟨t, e1, e2⟩ := bind_some e
    obtain ⟨hc, e3⟩ := ze5 e2
    cases e3
    obtain ⟨v, u, f, g, rfl, r1, r2⟩ := rs.two_inv
    cases r2
    rcases wd1 r1 e1 with h | ⟨rfl, a, xs, rfl, h⟩
    . exact xr9 pins s σ H _ us Q I r ⟨_, _, t, rfl, h, hc, q.now (.bl _)⟩
    . obtain ⟨u1, u2, rfl, rx, rc⟩ := xh7 r
      cases (show u2 = Value.type _ from rc)
      cases (show u1 = Value.ref a from rx)
      obtain ⟨its, rv, ⟨o, h1, h2, _⟩, _⟩ := I.tuple h
      exact PySem.W.kia_one PySem.W.kitx_tuple I.kIn ⟨o, h1, h2⟩ (yy4 X.K "tuple" (by decide) _ hc) (fun z => nomatch z) fun tk => ⟨.bl _, H, I.tok tk, rfl, q.now (.bl _)⟩
  . cases e
noncomputable def yh4 : List D -> Option D
  | [.lst _ xs] => if D.imms xs = true then some (.tup xs) else none
  | [.tup xs] => some (.tup xs)
  | _ => none
theorem yr7 : zk0 X (.type "tuple") (PCl X.K κ yh4) := by
  rintro pins s σ H vs us Q I r ⟨ds, fp, d, rs, e, q⟩
  unfold yh4 at e
  split at e
  . obtain ⟨hc, e⟩ := ze5 e
    cases e
    obtain ⟨v, rfl, r1⟩ := rs.one_inv
    obtain ⟨a, ws, g, rfl, h, hs, _⟩ := r1.lst_inv
    exact yf4 pins s σ H _ us Q I r ⟨a, ws, rfl, .inl ⟨.inl h, fun p hp => xf4 hp (hs.pair hc) q⟩⟩
  . cases e
    obtain ⟨v, rfl, r1⟩ := rs.one_inv
    obtain ⟨a, ws, rfl, h, hs⟩ := r1.tup_inv
    exact yf4 pins s σ H _ us Q I r ⟨a, ws, rfl, .inr ⟨h, q.now (.tup h hs)⟩⟩
  . cases e
noncomputable def PMt (K : PySem.W.Frag) (κ : Str -> Addr) (g : D -> List D -> Option D) : V -> List V -> Hp -> VK -> Prop := fun x vs H Q => ∃ dx ds fx fp d, Rep K κ H x dx fx /\ Reps K κ H vs ds fp /\ g dx ds = some d /\ zr5 K κ H d Q
noncomputable def xl2 : D -> Bool
  | .str _ => true
  | _ => false
noncomputable def fMt (h : D -> List D -> Option D) (f : PSt -> Option D) (g : PSt -> Option (List D)) : PSt -> Option D := fun ps => (f ps).bind fun x => (g ps).bind fun ds => if xl2 x = true then h x ds else none
theorem yo4 {name : Str} {id : String} {apos : Pos} {h : D -> List D -> Option D} (slot : Slot "str" name id) (hty : typeOf (.builtin id) = pure (.type "method_descriptor")) (hm : MtR X id (PMt X.K κ h)) (ho : QV X κ a fa) (ha : QVA X κ (e :: es) g)
    (hbase : attributeBase a name X.env (eval a X.env) = eval a X.env := by rfl)
    (hfew : ((backTo pos (starEach (e :: es) X.env)).all (fun x => !x.1) && (backToKw pos (keywordEach [] X.env)).all (fun x => x.1.isSome)
      && decide ((e :: es).length + ([] : List Keyword).length + (if ([] : List Keyword).isEmpty then 0 else 1) < 30)) = true := by rfl)
    (hline : (apos.endLine == pos.line) = true := by rfl) (hs : starEach (e :: es) X.env = (false, eval e X.env) :: starEach es X.env := by rfl) (hplain : (backTo pos (starEach es X.env)).any (·.1) = false := by rfl) :
    QP X κ (.Call (.Attribute a name apos) (e :: es) [] pos) (fMt h fa g) :=
  (xv3 PySem.F.plainAttrs_str slot hty hm ho ha hbase hfew hline hs hplain).imp fun σ H Q hh_ => by
    obtain ⟨ps, d, w, e, q⟩ := hh_
    obtain ⟨x, e1, e2⟩ := bind_some e
    obtain ⟨ds, e3, e4⟩ := bind_some e2
    obtain ⟨hc, e5⟩ := ze5 e4
    refine ⟨ps, x, w, e1, fun v H1 fp s1 r1 => ⟨?_, ps, ds, w.same s1, e3, fun vs H2 fq s2 r2 => ⟨x, ds, fp, fq, d, r1.same s2, r2, e5, q.after (s1.trans s2)⟩⟩⟩
    cases x with
    | str z => rw [r1.is_str]; rfl
    | _ => cases hc
noncomputable def zc4 (l : List Str) : List D := l.map .str
noncomputable def D.strs : List D -> Option (List Str)
  | [] => some []
  | .str b :: ds => (D.strs ds).map (b :: ·)
  | _ :: _ => none
theorem yc5 {K : PySem.W.Frag} {H : Hp} : ∀ {vs : List V} {ds : List D} {fp : List Addr} {ns : List Str}, Reps K κ H vs ds fp -> D.strs ds = some ns -> vs = ns.map V.str
  | _, _, _, _, .nil, e => by cases e; rfl
  | _, d :: ds, _, ns, .cons h hs, e => by
    cases d with
    | str i =>
      rw [D.strs] at e
      cases e1 : D.strs ds with
      | none => rw [e1] at e; cases e
      | some ms => rw [e1] at e; cases e; rw [h.is_str, yc5 hs e1]; rfl
    | _ => cases e
noncomputable def zw6 : D -> List D -> Option D
  | .str z, [.lst _ xs] => (D.strs xs).bind fun ys => if (z.length <= 16 /\ (ys.map (·.length)).sum + ys.length <= 1048576) then some (.str (Txt.join z ys)) else none
  | _, _ => none
theorem yo5 : MtR X "str.join" (PMt X.K κ zw6) := by
  rintro pins s σ H x vs v us Q I rx r ⟨dx, ds, fx, fp, d, r1, rs, e, q⟩
  unfold zw6 at e
  split at e
  . obtain ⟨ys, e1, e2⟩ := bind_some e
    obtain ⟨hc, e⟩ := ze5 e2
    cases e
    obtain ⟨w, rfl, r2⟩ := rs.one_inv
    obtain ⟨a, ws, g, rfl, h, hs, _⟩ := r2.lst_inv
    rw [yc5 hs e1] at h
    exact xx7 pins s σ H x _ v us Q I rx r ⟨_, a, ys, r1.is_str, rfl, .inl h, hc.1, hc.2, q.now (.str _)⟩
  . cases e
end
end L2
namespace L2
open PySem PySem.Spec PyProof.Rows
structure Fx where
  K : PySem.W.Frag
  κ : Str -> Addr
  bor : Nat -> Bool
  M : Nat -> Bool
  B : Nat -> Addr -> Prop
structure RS (φ : Fx) (H : Hp) (σ : St) (ps : PSt) (F : Nat -> List Addr) : Prop where
  rep : ∀ (i : Nat) (d : D), ps[i]? = some (some d) -> ∃ v fp, σ[i]? = some (some v) /\ Rep φ.K φ.κ H v d fp /\ (φ.bor i = false -> fp = F i) /\ (φ.bor i = true -> ∀ a ∈ fp, φ.B i a)
  emp : ∀ i a, a ∈ F i -> φ.bor i = false /\ ∃ d, ps[i]? = some (some d)
  dis : ∀ i j a, a ∈ F i -> a ∈ F j -> i = j
  nd : ∀ i, (F i).Nodup
  nb : ∀ i a, a ∈ F i -> ∀ k, ¬ φ.B k a
  bt : ∀ k a, φ.B k a -> H a ≠ none
  len : ps.length <= σ.length
structure Frm (F : Nat -> List Addr) (H H' : Hp) : Prop where
  keep : ∀ a o, H a = some o -> kd o = true -> (∀ i, a ∉ F i) -> H' a = some o
  grow : ∀ a, H' a = none -> H a = none
structure Stp (φ : Fx) (σ : St) (H : Hp) (F : Nat -> List Addr) (σ' : St) (H' : Hp) (ps' : PSt) (F' : Nat -> List Addr) : Prop where
  fr : Frm F H H'
  nw : ∀ i a, a ∈ F' i -> (∃ j, a ∈ F j) \/ H a = none
  rs : RS φ H' σ' ps' F'
  msk : ∀ i, φ.M i = true -> σ'[i]? = σ[i]?
structure OwnV (F : Nat -> List Addr) (H : Hp) (F' : Nat -> List Addr) (fv : List Addr) : Prop where
  nw : ∀ a ∈ fv, (∃ j, a ∈ F j) \/ H a = none
  nd : fv.Nodup
  dis : ∀ i, ∀ a ∈ F' i, a ∉ fv
section
variable {φ : Fx} {H H' H1 H2 : Hp} {σ σ1 σ2 : St} {ps ps1 ps2 : PSt} {F F1 F2 : Nat -> List Addr}
theorem RS.own (R : RS φ H σ ps F) {i : Nat} {a : Addr} (h : a ∈ F i) : ∃ o, H a = some o /\ kd o = true /\ tf o = false := by
  obtain ⟨b, d, e⟩ := R.emp i a h
  obtain ⟨v, fp, _, r, q, _⟩ := R.rep i d e
  rw [<- q b] at h
  exact r.own a h
theorem RS.ws (R : RS φ H σ ps F) : WS φ.K φ.κ H σ ps := fun i d h => by
  obtain ⟨v, fp, h1, h2, _⟩ := R.rep i d h
  exact ⟨v, fp, h1, h2⟩
theorem RS.same (R : RS φ H σ ps F) (s : SameK H H') : RS φ H' σ ps F :=
  ⟨fun i d h => by obtain ⟨v, fp, h1, h2, h3⟩ := R.rep i d h; exact ⟨v, fp, h1, h2.same s, h3⟩, R.emp, R.dis, R.nd, R.nb, fun k a h z => R.bt k a h (s.grow a z), R.len⟩
theorem RS.notB (R : RS φ H σ ps F) {a : Addr} (h : (∃ j, a ∈ F j) \/ H a = none) : ∀ k, ¬ φ.B k a := fun k hb => h.elim (fun ⟨j, hj⟩ => R.nb j a hj k hb) fun z => R.bt k a hb z
theorem Stp.same (R : RS φ H σ ps F) (s : SameK H H') : Stp φ σ H F σ H' ps F :=
  ⟨⟨fun a o h k _ => s.keep a o h k, s.grow⟩, fun i a h => .inl ⟨i, h⟩, R.same s, fun _ _ => rfl⟩
theorem Stp.refl (R : RS φ H σ ps F) : Stp φ σ H F σ H ps F := .same R (.refl H)
theorem Stp.trans (s1 : Stp φ σ H F σ1 H1 ps1 F1) (s2 : Stp φ σ1 H1 F1 σ2 H2 ps2 F2) : Stp φ σ H F σ2 H2 ps2 F2 := by
  refine ⟨⟨fun a o h k n => s2.fr.keep a o (s1.fr.keep a o h k n) k fun i hi => ?_, fun a h => s1.fr.grow a (s2.fr.grow a h)⟩, fun i a h => ?_, s2.rs, fun i h => (s2.msk i h).trans (s1.msk i h)⟩
  . rcases s1.nw i a hi with ⟨j, hj⟩ | z
    . exact n j hj
    . rw [h] at z; cases z
  . rcases s2.nw i a h with ⟨j, hj⟩ | z
    . exact s1.nw j a hj
    . exact .inr (s1.fr.grow a z)
theorem OwnV.after {fv : List Addr} (s1 : Stp φ σ H F σ1 H1 ps1 F1) (o : OwnV F1 H1 F2 fv) : OwnV F H F2 fv :=
  ⟨fun a ha => (o.nw a ha).elim (fun ⟨j, hj⟩ => s1.nw j a hj) fun z => .inr (s1.fr.grow a z), o.nd, o.dis⟩
theorem OwnV.new {fv : List Addr} (R : RS φ H σ ps F) (n : ∀ a ∈ fv, H a = none) (nd : fv.Nodup) : OwnV F H F fv :=
  ⟨fun a ha => .inr (n a ha), nd, fun i a ha hb => by obtain ⟨o, h, _⟩ := R.own ha; rw [n a hb] at h; cases h⟩
noncomputable def yb8 (F : Nat -> List Addr) (i : Nat) (fv : List Addr) : Nat -> List Addr := fun j => if j = i then fv else F j
theorem zi5 {i : Nat} {fv : List Addr} : yb8 F i fv i = fv := by simp [yb8]
theorem zi6 {i j : Nat} {fv : List Addr} (h : j ≠ i) : yb8 F i fv j = F j := by simp [yb8, h]
theorem zt4 {i : Nat} {fv : List Addr} {j : Nat} {a : Addr} (h : a ∈ yb8 F i fv j) : a ∈ fv \/ a ∈ F j := by
  by_cases e : j = i
  . subst e; rw [zi5] at h; exact .inl h
  . rw [zi6 e] at h; exact .inr h
theorem RS.drop (R : RS φ H σ ps F) (i : Nat) : RS φ H σ (ps.set i none) (yb8 F i []) := by
  have eF : ∀ j a, a ∈ yb8 F i [] j -> j ≠ i /\ a ∈ F j := fun j a h => by
    by_cases e : j = i
    . subst e; rw [zi5] at h; exact absurd h (by simp)
    . rw [zi6 e] at h; exact ⟨e, h⟩
  refine ⟨fun j d h => ?_, fun j a h => ?_, fun j k a h1 h2 => R.dis j k a (eF j a h1).2 (eF k a h2).2, fun j => ?_, fun j a h => R.nb j a (eF j a h).2, R.bt, by simpa using R.len⟩
  . have e : j ≠ i := by
      rintro rfl
      by_cases hj : j < ps.length
      . rw [List.getElem?_set_self hj] at h; cases h
      . rw [List.getElem?_eq_none (by simpa using hj)] at h; cases h
    rw [List.getElem?_set_ne (fun z => e z.symm)] at h
    rw [zi6 e]
    exact R.rep j d h
  . obtain ⟨e, h⟩ := eF j a h
    obtain ⟨b, d, q⟩ := R.emp j a h
    exact ⟨b, d, by rw [List.getElem?_set_ne (fun z => e z.symm)]; exact q⟩
  . by_cases e : j = i
    . subst e; rw [zi5]; exact List.nodup_nil
    . rw [zi6 e]; exact R.nd j
theorem RS.set (R : RS φ H σ ps F) {i : Nat} {v : V} {d : D} {fv : List Addr} (r : Rep φ.K φ.κ H v d fv) (hb : φ.bor i = false \/ fv = []) (hd : ∀ j, j ≠ i -> ∀ a ∈ F j, a ∉ fv) (hn : fv.Nodup) (hB : ∀ a ∈ fv, ∀ k, ¬ φ.B k a) :
    RS φ H (σ.set i (some v)) (ps.set i (some d)) (yb8 F i (if i < ps.length then fv else [])) := by
  by_cases hi : i < ps.length
  . rw [if_pos hi]
    have hl := R.len
    refine ⟨fun j d' h => ?_, fun j a h => ?_, fun j k a h1 h2 => ?_, fun j => ?_, fun j a h => ?_, R.bt, by simpa using R.len⟩
    . by_cases e : j = i
      . subst e
        rw [List.getElem?_set_self hi] at h
        cases h
        refine ⟨v, fv, by rw [List.getElem?_set_self (by omega)], r, fun _ => zi5.symm, fun z => ?_⟩
        rcases hb with q | q
        . rw [q] at z; cases z
        . subst q; intro a ha; exact absurd ha (by simp)
      . rw [List.getElem?_set_ne (fun z => e z.symm)] at h |-
        rw [zi6 e]
        exact R.rep j d' h
    . by_cases e : j = i
      . subst e
        rw [zi5] at h
        refine ⟨?_, d, by rw [List.getElem?_set_self hi]⟩
        rcases hb with q | q
        . exact q
        . subst q; exact absurd h (by simp)
      . rw [zi6 e] at h
        obtain ⟨b, d', q⟩ := R.emp j a h
        exact ⟨b, d', by rw [List.getElem?_set_ne (fun z => e z.symm)]; exact q⟩
    . by_cases e1 : j = i
      . by_cases e2 : k = i
        . rw [e1, e2]
        . subst e1; rw [zi5] at h1; rw [zi6 e2] at h2; exact absurd h1 (hd k e2 a h2)
      . by_cases e2 : k = i
        . subst e2; rw [zi5] at h2; rw [zi6 e1] at h1; exact absurd h2 (hd j e1 a h1)
        . rw [zi6 e1] at h1; rw [zi6 e2] at h2; exact R.dis j k a h1 h2
    . by_cases e : j = i
      . subst e; rw [zi5]; exact hn
      . rw [zi6 e]; exact R.nd j
    . rcases zt4 h with z | z
      . exact hB a z
      . exact R.nb j a z
  . rw [if_neg hi]
    have e0 : ps.set i (some d) = ps := List.set_eq_of_length_le (by omega)
    rw [e0]
    have R' := R.drop i
    rw [List.set_eq_of_length_le (by omega)] at R'
    refine ⟨fun j d' h => ?_, R'.emp, R'.dis, R'.nd, R'.nb, R'.bt, by simpa using R.len⟩
    have hj : j ≠ i := by
      rintro rfl
      have := (List.getElem?_eq_some_iff.mp h).1
      omega
    rw [List.getElem?_set_ne (fun z => hj z.symm)]
    exact R'.rep j d' h
theorem Stp.set {fv : List Addr} {i : Nat} {v : V} {d : D} (s1 : Stp φ σ H F σ1 H1 ps1 F1) (o : OwnV F H F1 fv) (R : RS φ H σ ps F) (r : Rep φ.K φ.κ H1 v d fv) (hb : φ.bor i = false \/ fv = []) (hm : φ.M i = false) :
    ∃ F', Stp φ σ H F (σ1.set i (some v)) H1 (ps1.set i (some d)) F' := by
  refine ⟨_, s1.fr, fun j a h => ?_, s1.rs.set r hb (fun j _ => o.dis j) o.nd fun a ha => R.notB (o.nw a ha), fun j h => ?_⟩
  . rcases zt4 h with z | z
    . by_cases k : i < ps1.length
      . rw [if_pos k] at z; exact o.nw a z
      . rw [if_neg k] at z; exact absurd z (by simp)
    . exact s1.nw j a z
  . rw [List.getElem?_set_ne (fun z => by subst z; rw [hm] at h; cases h)]
    exact s1.msk j h
end
inductive Fl where
  | nx | bk | ct | ret (d : D)
noncomputable def yj7 (φ : Fx) (E : Ends) (σ : St) (H : Hp) (F : Nat -> List Addr) (fl : Fl) (ps' : PSt) : Prop := match fl with
  | .nx => ∀ σ' H' F', Stp φ σ H F σ' H' ps' F' -> E.nx σ' H'
  | .bk => ∀ σ' H' F', Stp φ σ H F σ' H' ps' F' -> E.bk σ' H'
  | .ct => ∀ σ' H' F', Stp φ σ H F σ' H' ps' F' -> E.ct σ' H'
  | .ret d => ∀ v σ' H' F' fv, Stp φ σ H F σ' H' ps' F' -> OwnV F H F' fv -> Rep φ.K φ.κ H' v d fv -> E.rt v H'
noncomputable def tS (φ : Fx) (f : PSt -> Option (Fl × PSt)) : TS := fun E σ H => ∃ ps F fl ps', RS φ H σ ps F /\ f ps = some (fl, ps') /\ yj7 φ E σ H F fl ps'
noncomputable def tE (φ : Fx) (f : PSt -> Option (D × PSt)) : TE := fun σ H Q => ∃ ps F d ps', RS φ H σ ps F /\ f ps = some (d, ps') /\ ∀ v H' F' fv, Stp φ σ H F σ H' ps' F' -> OwnV F H F' fv -> Rep φ.K φ.κ H' v d fv -> Q v H'
noncomputable def tTE (φ : Fx) (f : PSt -> Option (Bool × PSt)) : TT := fun σ H Q => ∃ ps F b ps', RS φ H σ ps F /\ f ps = some (b, ps') /\ ∀ H' F', Stp φ σ H F σ H' ps' F' -> Q b H'
structure F0 where
  bor : Nat -> Bool
  M : Nat -> Bool
  B : Nat -> Addr -> Prop
noncomputable def F0.fx (φ : F0) (K : PySem.W.Frag) (κ : Str -> Addr) : Fx := ⟨K, κ, φ.bor, φ.M, φ.B⟩
noncomputable abbrev QS (X : Cx) (κ : Str -> Addr) (φ : F0) (st : Stmt) (f : PSt -> Option (Fl × PSt)) : Prop := PS X st (tS (φ.fx X.K κ) f)
noncomputable abbrev QSs (X : Cx) (κ : Str -> Addr) (φ : F0) (st : List Stmt) (f : PSt -> Option (Fl × PSt)) : Prop := PSs X st (tS (φ.fx X.K κ) f)
noncomputable abbrev QE (X : Cx) (κ : Str -> Addr) (φ : F0) (e : Expr) (f : PSt -> Option (D × PSt)) : Prop := PE X e (tE (φ.fx X.K κ) f)
noncomputable abbrev QTE (X : Cx) (κ : Str -> Addr) (φ : F0) (e : Expr) (f : PSt -> Option (Bool × PSt)) : Prop := PT X e (tTE (φ.fx X.K κ) f)
theorem yl7 {φ : Fx} {f : PSt -> Option (Fl × PSt)} {E : Ends} {σ σ1 : St} {H H1 : Hp} {F F1 : Nat -> List Addr} {ps1 ps2 : PSt} {fl : Fl} (s1 : Stp φ σ H F σ1 H1 ps1 F1) (e : f ps1 = some (fl, ps2)) (q : yj7 φ E σ H F fl ps2) : tS φ f E σ1 H1 := by
  refine ⟨ps1, F1, fl, ps2, s1.rs, e, ?_⟩
  cases fl with
  | nx => exact fun σ' H' F' s => q σ' H' F' (s1.trans s)
  | bk => exact fun σ' H' F' s => q σ' H' F' (s1.trans s)
  | ct => exact fun σ' H' F' s => q σ' H' F' (s1.trans s)
  | ret d => exact fun v σ' H' F' fv s o r => q v σ' H' F' fv (s1.trans s) (o.after s1) r
noncomputable def zd0 : PSt -> Option (Fl × PSt) := fun ps => some (.nx, ps)
noncomputable def zb8 (f g : PSt -> Option (Fl × PSt)) : PSt -> Option (Fl × PSt) := fun ps => (f ps).bind fun r => match r with
  | (.nx, ps') => g ps'
  | (.bk, ps') => some (.bk, ps')
  | (.ct, ps') => some (.ct, ps')
  | (.ret d, ps') => some (.ret d, ps')
noncomputable def yd2 : PSt -> Option (Fl × PSt) := fun _ => none
section
variable {X : Cx} {κ : Str -> Addr} {φ : F0} {st : Stmt} {zb1 : List Stmt} {f g : PSt -> Option (Fl × PSt)} {pos : Pos}
theorem zf4 : QSs X κ φ [] zd0 := xe4.imp fun E σ H ⟨ps, F, fl, ps', R, e, q⟩ => by cases e; exact q σ H F (.refl R)
theorem zb4 (h : QS X κ φ st f) : QSs X κ φ [st] f := yi1 h
theorem zb0 (h1 : QS X κ φ st f) (h2 : QSs X κ φ zb1 g) : QSs X κ φ (st :: zb1) (zb8 f g) :=
  (zp4 h1 h2).imp fun E σ H hh_ => by
    obtain ⟨ps, F, fl, ps', R, e, q⟩ := hh_
    obtain ⟨⟨fl1, ps1⟩, e1, e2⟩ := bind_some e
    refine ⟨ps, F, fl1, ps1, R, e1, ?_⟩
    cases fl1 with
    | nx => exact fun σ' H' F' s => yl7 s e2 q
    | bk => cases e2; exact q
    | ct => cases e2; exact q
    | ret d => cases e2; exact q
theorem zv4 : QS X κ φ st yd2 := xq6.imp fun E σ H ⟨ps, F, fl, ps', R, e, q⟩ => by cases e
noncomputable def za5 (f : PSt -> Option D) : PSt -> Option (D × PSt) := fun ps => (f ps).bind fun d => some (d, ps)
theorem QP.e {e : Expr} {f : PSt -> Option D} (h : PE X e (tP X.K κ f)) : QE X κ φ e (za5 f) := h.imp fun σ H Q hh_ => by
  obtain ⟨ps, F, d, ps', R, e, q⟩ := hh_
  obtain ⟨d1, e1, e2⟩ := bind_some e
  cases e2
  exact ⟨ps, _, R.ws, e1, fun v H' fv s n nd r => q v H' F fv (.same R s) (.new R n nd) r⟩
noncomputable def za8 (f : PSt -> Option Bool) : PSt -> Option (Bool × PSt) := fun ps => (f ps).bind fun d => some (d, ps)
theorem QT.e {e : Expr} {f : PSt -> Option Bool} (h : PT X e (tQ X.K κ f)) : QTE X κ φ e (za8 f) := h.imp fun σ H Q hh_ => by
  obtain ⟨ps, F, d, ps', R, e, q⟩ := hh_
  obtain ⟨d1, e1, e2⟩ := bind_some e
  cases e2
  exact ⟨ps, _, R.ws, e1, fun H' s => q H' F (.same R s)⟩
noncomputable def zc8 (i : Nat) (f : PSt -> Option (D × PSt)) : PSt -> Option (Fl × PSt) := fun ps => (f ps).bind fun r => some (.nx, r.2.set i (some r.1))
theorem zh3 (i : Nat) {x : Str} {e : Expr} {pos' : Pos} {f : PSt -> Option (D × PSt)} (hN : X.N.Nodup) (hi : X.N[i]? = some x) (hx : Loc X.env.scope x) (hb : φ.bor i = false) (hm : φ.M i = false) (he : QE X κ φ e f) (hs : swapsWith e (some (.Name x pos')) pos.line X.env = pure false := by rfl) (hf : X.fn x = true \/ X.env.scope.names.lookup x = some .local := by first | exact .inl rfl | exact .inr rfl | assumption) :
    QS X κ φ (.Assign [.Name x pos'] e pos) (zc8 i f) := (yc2 hN hi hx he hs hf).imp fun E σ H hh_ => by
  obtain ⟨ps, F, fl, ps', R, e, q⟩ := hh_
  obtain ⟨⟨d, ps1⟩, e1, e2⟩ := bind_some e
  cases e2
  refine ⟨ps, F, d, ps1, R, e1, fun v H' F' fv s o r => ?_⟩
  obtain ⟨F2, s2⟩ := s.set o R r (.inl hb) hm (i := i)
  exact q _ _ F2 s2
noncomputable def zc1 (f : PSt -> Option (D × PSt)) : PSt -> Option (Fl × PSt) := fun ps => (f ps).bind fun r => some (.nx, r.2)
theorem zq3 {e : Expr} {f : PSt -> Option (D × PSt)} (he : QE X κ φ e f) (hs : swapsWith e none pos.line X.env = pure false := by rfl) : QS X κ φ (.Expr e pos) (zc1 f) := (xw9 he hs).imp fun E σ H hh_ => by
  obtain ⟨ps, F, fl, ps', R, e, q⟩ := hh_
  obtain ⟨⟨d, ps1⟩, e1, e2⟩ := bind_some e
  cases e2
  exact ⟨ps, F, d, ps1, R, e1, fun v H' F' fv s o r => q _ _ F' s⟩
noncomputable def ze6 (f : PSt -> Option (D × PSt)) : PSt -> Option (Fl × PSt) := fun ps => (f ps).bind fun r => some (.ret r.1, r.2)
theorem zf5 {e : Expr} {f : PSt -> Option (D × PSt)} (he : QE X κ φ e f) : QS X κ φ (.Return (some e) pos) (ze6 f) := (yc1 he).imp fun E σ H hh_ => by
  obtain ⟨ps, F, fl, ps', R, e, q⟩ := hh_
  obtain ⟨⟨d, ps1⟩, e1, e2⟩ := bind_some e
  cases e2
  exact ⟨ps, F, d, ps1, R, e1, fun v H' F' fv s o r => q v σ H' F' fv s o r⟩
noncomputable def zo3 (i : Nat) : PSt -> Option (Fl × PSt) := fun ps => ((ps[i]?).join).bind fun d => some (.ret d, ps.set i none)
theorem zp2 {ps : PSt} {i : Nat} {d : D} (h : (ps[i]?).join = some d) : ps[i]? = some (some d) := by
  cases q : ps[i]? with
  | none => rw [q] at h; cases h
  | some o => rw [q] at h; exact congrArg some h
theorem yi5 (i : Nat) {x : Str} {p : Pos} (hb : φ.bor i = false) (hN : X.N[i]? = some x := by rfl) (hv : Vis X.env.scope x := by first | exact Or.inl rfl | exact Or.inr (Or.inl rfl) | exact Or.inr (Or.inr rfl)) (hd : (x == ("__debug__" : Str)) = false := by decide)
    (hcd : (x == ("__classdict__" : Str)) = false := by decide) : QS X κ φ (.Return (some (.Name x p)) pos) (zo3 i) := (yc1 (yf8 hN hv hd hcd)).imp fun E σ H hh_ => by
  obtain ⟨ps, F, fl, ps', R, e, q⟩ := hh_
  obtain ⟨d, e1, e2⟩ := bind_some e
  cases e2
  obtain ⟨v, fp, h1, h2, h3, _⟩ := R.rep i d (zp2 e1)
  have h3 := h3 hb
  subst h3
  refine ⟨v, h1, q v σ H (yb8 F i []) (F i) ⟨⟨fun a o h _ _ => h, fun a h => h⟩, fun j a h => ?_, R.drop i, fun _ _ => rfl⟩ ⟨fun a h => .inl ⟨i, h⟩, R.nd i, fun j a h1 h2 => ?_⟩ h2⟩
  . rcases zt4 h with z | z
    . exact absurd z (by simp)
    . exact .inl ⟨j, z⟩
  . rcases zt4 h1 with z | z
    . exact absurd z (by simp)
    . have := R.dis j i a z h2
      subst this
      rw [zi5] at h1; exact absurd h1 (by simp)
noncomputable def fIf (c : PSt -> Option (Bool × PSt)) (f g : PSt -> Option (Fl × PSt)) : PSt -> Option (Fl × PSt) := fun ps => (c ps).bind fun r => if r.1 = true then f r.2 else g r.2
theorem zi0 {c : Expr} {a b : List Stmt} {tc : PSt -> Option (Bool × PSt)} (hc : QTE X κ φ c tc) (ha : QSs X κ φ a f) (hb : QSs X κ φ b g) : QS X κ φ (.If c a b pos) (fIf tc f g) := (xg8 hc ha hb).imp fun E σ H hh_ => by
  obtain ⟨ps, F, fl, ps', R, e, q⟩ := hh_
  obtain ⟨⟨k, ps1⟩, e1, e2⟩ := bind_some e
  refine ⟨ps, F, k, ps1, R, e1, fun H' F' s => ?_⟩
  cases k with
  | true => rw [if_pos rfl] at e2 |-; exact yl7 s e2 q
  | false => rw [if_neg Bool.false_ne_true] at e2 |-; exact yl7 s e2 q
end
end L2
namespace L2
open PySem PySem.Spec PyProof.Rows
noncomputable def zp0 (c : PSt -> Option (Bool × PSt)) (f : PSt -> Option (Fl × PSt)) : Nat -> PSt -> Option (Fl × PSt)
  | 0, _ => none
  | n + 1, ps => (c ps).bind fun r => if r.1 = true then (f r.2).bind fun q => match q with
      | (.nx, p) => zp0 c f n p
      | (.ct, p) => zp0 c f n p
      | (.bk, p) => some (.nx, p)
      | (.ret d, p) => some (.ret d, p)
    else some (.nx, r.2)
section
variable {X : Cx} {φ : Fx} {pos : Pos} {body : List Stmt} {f : PSt -> Option (Fl × PSt)}
theorem yj7.back {E : Ends} {σ σ1 : St} {H H1 : Hp} {F F1 : Nat -> List Addr} {ps1 ps2 : PSt} {fl : Fl} (s1 : Stp φ σ H F σ1 H1 ps1 F1) (q : yj7 φ E σ H F fl ps2) : yj7 φ E σ1 H1 F1 fl ps2 := by
  cases fl with
  | nx => exact fun σ' H' F' s => q σ' H' F' (s1.trans s)
  | bk => exact fun σ' H' F' s => q σ' H' F' (s1.trans s)
  | ct => exact fun σ' H' F' s => q σ' H' F' (s1.trans s)
  | ret d => exact fun v σ' H' F' fv s o r => q v σ' H' F' fv (s1.trans s) (o.after s1) r
noncomputable def wk6 (φ : Fx) (σ : St) (H : Hp) (F : Nat -> List Addr) (tc : PSt -> Option (Bool × PSt)) (f : PSt -> Option (Fl × PSt)) (fl : Fl) (ps' : PSt) (m : Nat) (σ1 : St) (H1 : Hp) : Prop := ∃ ps1 F1, Stp φ σ H F σ1 H1 ps1 F1 /\ zp0 tc f m ps1 = some (fl, ps')
theorem yl8 {κ : Str -> Addr} {φ : F0} (n : Nat) {c : Expr} {tc : PSt -> Option (Bool × PSt)} (hp : PassesOwn (model X.prog X.w) X.A X.env X.xe) (hc : QTE X κ φ c tc) (hb : QSs X κ φ body f) : QS X κ φ (.While c body [] pos) (zp0 tc f n) :=
  (xq7 hp hc hb).imp fun E σ H hh_ => by
    obtain ⟨ps, F, fl, ps', R, e, q⟩ := hh_
    refine ⟨wk6 (φ.fx X.K κ) σ H F tc f fl ps', ⟨n, ps, F, .refl R, e⟩, ?_⟩
    rintro m σ1 H1 ⟨ps1, F1, s1, e1⟩
    cases m with
    | zero => cases e1
    | succ m =>
      rw [zp0] at e1
      obtain ⟨⟨k, ps2⟩, e2, e3⟩ := bind_some e1
      refine ⟨ps1, F1, k, ps2, s1.rs, e2, fun H2 F2 s2 => ?_⟩
      have s12 := s1.trans s2
      cases k with
      | true =>
        dsimp only at e3 |-
        rw [if_pos rfl] at e3 |-
        obtain ⟨⟨fl3, ps3⟩, e4, e5⟩ := bind_some e3
        refine ⟨fun σ' H' => ∃ F', Stp (φ.fx X.K κ) σ1 H2 F2 σ' H' ps3 F' /\ zp0 tc f m ps3 = some (fl, ps'), fun σ' H' ⟨F', s, e⟩ => ⟨m, Nat.lt_succ_self m, ps3, F', s12.trans s, e⟩, ?_⟩
        refine ⟨ps2, F2, fl3, ps3, s2.rs, e4, ?_⟩
        cases fl3 with
        | nx => exact fun σ' H' F' s => ⟨F', s, e5⟩
        | ct => exact fun σ' H' F' s => ⟨F', s, e5⟩
        | bk => cases e5; exact fun σ' H' F' s => q σ' H' F' (s12.trans s)
        | ret d => cases e5; exact fun v σ' H' F' fv s o r => q v σ' H' F' fv (s12.trans s) (o.after s12) r
      | false =>
        dsimp only at e3 |-
        rw [if_neg Bool.false_ne_true] at e3 |-
        cases e3
        exact q _ _ F2 s12
end
noncomputable def ye5 (Z : List Addr) (H H' : Hp) : Prop := ∀ a o, H a = some o -> (tf o = true \/ (kd o = true /\ a ∈ Z)) -> H' a = some o
structure Walk (K : PySem.W.Frag) (κ : Str -> Addr) (J : It) (Z : List Addr) (H1 : Hp) (ds : List D) : Prop where
  go : ∀ H', ye5 Z H1 H' -> ∀ (i : Nat) d, ds[i]? = some d -> J.go i H' /\ ∀ x H2, J.yld i H' x H2 -> H2 = H' /\ Rep K κ H' x d []
  stop : ∀ H', ye5 Z H1 H' -> J.stop ds.length H'
noncomputable def tIV (K : PySem.W.Frag) (κ : Str -> Addr) (f : PSt -> Option (List D)) : TI := fun σ H R => ∃ ps ds, WS K κ H σ ps /\ f ps = some ds /\ ∀ J H1 Z, SameK H H1 -> Walk K κ J Z H1 ds -> R J H1
noncomputable def tIP (K : PySem.W.Frag) (κ : Str -> Addr) (f : PSt -> Option (List D)) : TI := fun σ H R => ∃ ps ds, WS K κ H σ ps /\ f ps = some ds /\ ∀ J H1 Z, SameK H H1 -> (∀ a ∈ Z, H a = none /\ H1 a ≠ none) -> Walk K κ J Z H1 ds -> R J H1
theorem ye5.sq {K : PySem.W.Frag} {Z : List Addr} {H H' : Hp} {a : Addr} {vs : List V} (k : ye5 Z H H') (h : Rd H a (.lst vs)) (hz : H a = some (.lst vs) -> a ∈ Z) : SqL K H' a vs := by
  rcases h with h | ⟨o, h⟩
  . exact .inl (.inl (k a _ h (.inr ⟨rfl, hz h⟩)))
  . exact .inl (.inr ⟨o, k a _ h (.inl rfl)⟩)
theorem ye5.rep {K : PySem.W.Frag} {κ : Str -> Addr} {Z : List Addr} {H H' : Hp} {v : V} {d : D} (k : ye5 Z H H') (r : Rep K κ H v d []) : Rep K κ H' v d [] := r.move (fun a o h t => k a o h (.inl t)) fun a ha => absurd ha (by simp)
theorem yd6 {α β : Type} {R : α -> β -> Prop} : ∀ {l₁ : List α} {l₂ : List β} {i : Nat} {y : β}, Paired R l₁ l₂ -> l₂[i]? = some y -> ∃ x, l₁[i]? = some x /\ R x y
  | _, _, _, _, .nil, e => by simp at e
  | _, _, 0, _, .cons h _, e => by simp at e; subst e; exact ⟨_, rfl, h⟩
  | _, _, i + 1, _, .cons _ t, e => by obtain ⟨x, h1, h2⟩ := yd6 (i := i) t (by simpa using e); exact ⟨x, by simpa using h1, h2⟩
section
variable {K : PySem.W.Frag} {κ : Str -> Addr} {H1 : Hp} {a : Addr} {vs : List V} {ds : List D} {Z : List Addr}
theorem yu9 (h : Rd H1 a (.lst vs)) (hz : H1 a = some (.lst vs) -> a ∈ Z) (r : Paired (fun v d => Rep K κ H1 v d []) vs ds) : Walk K κ (Itl K a) Z H1 ds where
  go := fun H' k i d e => by
    obtain ⟨x, e1, r1⟩ := yd6 r e
    have sq : SqL K H' a vs := k.sq h hz
    refine ⟨⟨vs, x, sq, e1⟩, fun y H2 hy => ⟨hy.1, ?_⟩⟩
    have e2 := hy.2 vs sq
    rw [e1] at e2; cases e2
    exact k.rep r1
  stop := fun H' k => ⟨vs, k.sq h hz, by rw [Paired.length r]; exact Nat.le_refl _⟩
theorem xs6 (h : SqF K H1 a vs) (r : Paired (fun v d => Rep K κ H1 v d []) vs ds) : Walk K κ (Itl K a) Z H1 ds where
  go := fun H' k i d e => by
    obtain ⟨x, e1, r1⟩ := yd6 r e
    have sq : SqL K H' a vs := (h.tf fun a o e t => k a o e (.inl t)).l
    refine ⟨⟨vs, x, sq, e1⟩, fun y H2 hy => ⟨hy.1, ?_⟩⟩
    have e2 := hy.2 vs sq
    rw [e1] at e2; cases e2
    exact k.rep r1
  stop := fun H' k => ⟨vs, (h.tf fun a o e t => k a o e (.inl t)).l, by rw [Paired.length r]; exact Nat.le_refl _⟩
theorem xs7 (h : SqT K H1 a vs) (r : Paired (fun v d => Rep K κ H1 v d []) vs ds) : Walk K κ (Itt K a) Z H1 ds where
  go := fun H' k i d e => by
    obtain ⟨x, e1, r1⟩ := yd6 r e
    have sq : SqT K H' a vs := h.tf fun a o e t => k a o e (.inl t)
    refine ⟨⟨vs, x, sq, e1⟩, fun y H2 hy => ⟨hy.1, ?_⟩⟩
    have e2 := hy.2 vs sq
    rw [e1] at e2; cases e2
    exact k.rep r1
  stop := fun H' k => ⟨vs, h.tf fun a o e t => k a o e (.inl t), by rw [Paired.length r]; exact Nat.le_refl _⟩
end
noncomputable def zo4 (lo : Int) (n : Nat) : List D := (List.range n).map fun (k : Nat) => .int (lo + (k : Int))
theorem xj1 {K : PySem.W.Frag} {κ : Str -> Addr} {H1 : Hp} {Z : List Addr} (lo : Int) (n : Nat) : Walk K κ (Itr lo n) Z H1 (zo4 lo n) where
  go := fun H' _ i d e => by
    have hi := (List.getElem?_eq_some_iff.mp e).1
    unfold zo4 at hi e
    rw [List.length_map, List.length_range] at hi
    rw [List.getElem?_map, List.getElem?_range hi] at e
    cases e
    exact ⟨hi, fun x H2 ⟨h1, h2⟩ => ⟨h1, by rw [h2]; exact .int _⟩⟩
  stop := fun H' _ => by
    show n <= (zo4 lo n).length
    unfold zo4
    rw [List.length_map, List.length_range]; exact Nat.le_refl _
noncomputable abbrev QIV (X : Cx) (κ : Str -> Addr) (tg iter : Expr) (f : PSt -> Option (List D)) : Prop := PI X tg iter (tIV X.K κ f)
noncomputable abbrev QIP (X : Cx) (κ : Str -> Addr) (tg iter : Expr) (f : PSt -> Option (List D)) : Prop := PI X tg iter (tIP X.K κ f)
theorem PI.imp {X : Cx} {tg e : Expr} {t t' : TI} (h : PI X tg e t) (k : ∀ σ H Q, t' σ H Q -> t σ H Q) : PI X tg e t' := fun pins s σ H Q I q => h pins s σ H Q I (k σ H Q q)
theorem QIP.v {X : Cx} {κ : Str -> Addr} {tg iter : Expr} {f : PSt -> Option (List D)} (h : QIP X κ tg iter f) : QIV X κ tg iter f := PI.imp h fun σ H R ⟨ps, ds, w, e, q⟩ => ⟨ps, ds, w, e, fun J H1 Z s _ k => q J H1 Z s k⟩
section
variable {X : Cx} {κ : Str -> Addr} {tg l a b : Expr} {f : PSt -> Option D} {g : PSt -> Option (List D)} {p pos : Pos}
noncomputable def yq6 : List D -> Option (List D)
  | [.int j] => if (-(2 ^ 62) <= j /\ j < 2 ^ 62) then some (zo4 0 j.toNat) else none
  | _ => none
noncomputable def zt2 (g : PSt -> Option (List D)) : PSt -> Option (List D) := fun ps => (g ps).bind yq6
theorem zw9 (hg : Gl X "range") (hm : X.mg "range" = none) (ha : QVA X κ [a] g) (hs : starEach [a] X.env = [(false, eval a X.env)] := by rfl) : QIP X κ tg (.Call (.Name "range" p) [a] [] pos) (zt2 g) :=
  PI.imp (xm1 hg hm ha hs) fun σ H R hh_ => by
    obtain ⟨ps, ds, w, e, q⟩ := hh_
    obtain ⟨as, e1, e2⟩ := bind_some e
    refine ⟨ps, as, w, e1, fun vs H1 fp s1 r1 => ?_⟩
    unfold yq6 at e2
    split at e2
    . obtain ⟨hc, e3⟩ := ze5 e2
      cases e3
      obtain ⟨v, rfl, r⟩ := r1.one_inv
      exact ⟨_, by rw [r.is_int], hc.1, hc.2, q _ H1 [] s1 (fun _ h => absurd h (by simp)) (xj1 _ _)⟩
    . cases e2
noncomputable def wk7 (K : PySem.W.Frag) (tl : TE) : TI := fun σ H R => tl σ H fun x H1 => ∃ a, x = .ref a /\ (((∃ xs, SqL K H1 a xs) /\ R (Itl K a) H1) \/ ((∃ xs, SqT K H1 a xs) /\ R (Itt K a) H1))
theorem xo0 {tl : TE} (hl : PE X l tl) : PI X tg l (wk7 X.K tl) := by
  intro pins s σ H R I h
  refine thn (hl pins s σ H _ I h) fun v s1 ⟨x, H1, I1, r1, q1⟩ => ?_
  obtain ⟨a, e, q1⟩ := q1
  subst e
  cases r1
  rcases q1 with ⟨⟨xs, hq⟩, q⟩ | ⟨⟨xs, hq⟩, q⟩
  . obtain ⟨its, rv, p, hz⟩ := I1.list hq
    refine wpAny_pyIter_list p.isList ?_
    refine ⟨s1.heap.objs.size, [s1.heap.objs.size], _, _, H1, rfl, I1.kept (t' := s1.toks) fun b o e => Heap.get?_push_of_some _ e, xm0 a _, ⟨_, Heap.get?_push_size _ rfl, rfl, rfl⟩, fun b hb => ?_, q⟩
    have e : b = s1.heap.objs.size := by simpa using hb
    subst e
    exact I1.fpOk (Nat.le_refl _) (I1.hok.fresh (Nat.le_refl _))
  . obtain ⟨its, rv, p, hz⟩ := I1.tuple hq
    refine wpAny_pyIter_tuple (show s1.heap.IsTuple a its.toArray from p) ?_
    refine ⟨s1.heap.objs.size, [s1.heap.objs.size], _, _, H1, rfl, I1.kept (t' := s1.toks) fun b o e => Heap.get?_push_of_some _ e, xh0 a _, ⟨_, Heap.get?_push_size _ rfl, rfl, rfl⟩, fun b hb => ?_, q⟩
    have e : b = s1.heap.objs.size := by simpa using hb
    subst e
    exact I1.fpOk (Nat.le_refl _) (I1.hok.fresh (Nat.le_refl _))
noncomputable def ym9 : D -> Option (List D)
  | .lst _ xs => if D.imms xs = true then some xs else none
  | .tup xs => some xs
  | .con xs => some xs
  | _ => none
theorem xf7 {K : PySem.W.Frag} {H : Hp} {v : V} {d : D} {fp : List Addr} {ds : List D} {R : It -> Hp -> Prop} (r : Rep K κ H v d fp) (e : ym9 d = some ds) (q : ∀ J Z, (∀ a ∈ Z, a ∈ fp) -> Walk K κ J Z H ds -> R J H) :
    ∃ a, v = .ref a /\ (((∃ xs, SqL K H a xs) /\ R (Itl K a) H) \/ ((∃ xs, SqT K H a xs) /\ R (Itt K a) H)) := by
  cases d with
  | lst o xs =>
    obtain ⟨hc, e⟩ := ze5 e
    cases e
    cases r with
    | lst h hs => exact ⟨_, rfl, .inl ⟨⟨_, .inl (.inl h)⟩, q _ [_] (fun a ha => by simp at ha; subst ha; exact List.mem_cons_self) (yu9 (.inl h) (fun _ => by simp) (hs.pair hc))⟩⟩
    | lstF h hs => exact ⟨_, rfl, .inl ⟨⟨_, .inl (.inr ⟨_, h⟩)⟩, q _ [] (fun a ha => absurd ha (by simp)) (yu9 (.inr ⟨_, h⟩) (fun z => by rw [h] at z; cases z) (hs.pair hc))⟩⟩
  | tup xs =>
    cases e
    obtain ⟨a, vs, rfl, h, hs⟩ := r.tup_inv
    exact ⟨a, rfl, .inr ⟨⟨_, h⟩, q _ [] (fun a ha => absurd ha (by simp)) (xs7 h hs.nilp)⟩⟩
  | con xs =>
    cases e
    obtain ⟨a, vs, rfl, h, hs⟩ := r.con_inv
    exact ⟨a, rfl, .inl ⟨⟨_, h.l⟩, q _ [] (fun a ha => absurd ha (by simp)) (xs6 h hs.nilp)⟩⟩
  | _ => cases e
noncomputable def zp5 (f : PSt -> Option D) : PSt -> Option (List D) := fun ps => (f ps).bind ym9
theorem yz0 (h : QV X κ l f) : QIV X κ tg l (zp5 f) := PI.imp (xo0 h) fun σ H R hh_ => by
  obtain ⟨ps, ds, w, e, q⟩ := hh_
  obtain ⟨d, e1, e2⟩ := bind_some e
  exact ⟨ps, d, w, e1, fun v H1 fv s1 r1 => xf7 r1 e2 fun J Z _ k => q J H1 Z s1 k⟩
end
noncomputable def zn1 (i : Nat) (f : PSt -> Option (Fl × PSt)) : List D -> PSt -> Option (Fl × PSt)
  | [], ps => some (.nx, ps)
  | d :: ds, ps => (f (ps.set i (some d))).bind fun q => match q with
      | (.nx, p) => zn1 i f ds p
      | (.ct, p) => zn1 i f ds p
      | (.bk, p) => some (.nx, p)
      | (.ret d, p) => some (.ret d, p)
section
variable {X : Cx} {φ : Fx} {pos : Pos} {body : List Stmt} {f : PSt -> Option (Fl × PSt)}
theorem Frm.kept {F : Nat -> List Addr} {H H' : Hp} {Z : List Addr} {σ : St} {ps : PSt} (R : RS φ H σ ps F) (k : Frm F H H') (hz : ∀ a ∈ Z, ∀ i, a ∉ F i) : ye5 Z H H' := fun a o h t => by
  rcases t with t | ⟨t1, t2⟩
  . refine k.keep a o h (zv3 t) fun i hi => ?_
    obtain ⟨o', h', _, t'⟩ := R.own hi
    rw [h] at h'; cases h'; rw [t] at t'; cases t'
  . exact k.keep a o h t1 (hz a t2)
noncomputable def wi0 (J : It) (E : Ends) (V : Nat -> Nat -> St -> Hp -> Prop) (g : TG) (tb : TS) (k m : Nat) (σ : St) (H : Hp) : Prop :=
  (J.stop k H /\ E.nx σ H) \/ (J.go k H /\ ∃ N : St -> Hp -> Prop, (∀ σ' H', N σ' H' -> ∃ m', m' < m /\ V (k + 1) m' σ' H') /\ ∀ x H', J.yld k H x H' -> g x σ H' fun σ2 H2 => tb { E with nx := N, ct := N, bk := E.nx } σ2 H2)
noncomputable def wk8 (φ : Fx) (σ : St) (H : Hp) (F : Nat -> List Addr) (i : Nat) (f : PSt -> Option (Fl × PSt)) (ds : List D) (fl : Fl) (ps' : PSt) (k m : Nat) (σ1 : St) (H1 : Hp) : Prop := k <= ds.length /\ m = ds.length - k /\ ∃ ps1 F1, Stp φ σ H F σ1 H1 ps1 F1 /\ zn1 i f (ds.drop k) ps1 = some (fl, ps')
theorem yz1 {E : Ends} {σ : St} {H : Hp} {F : Nat -> List Addr} {ps ps' : PSt} {fl : Fl} {ds : List D} {J : It} {Z : List Addr} {i : Nat} (R : RS φ H σ ps F) (hz : ∀ a ∈ Z, H a ≠ none /\ ∀ i, a ∉ F i) (W : Walk φ.K φ.κ J Z H ds) (hb : φ.bor i = false) (hm : φ.M i = false)
    (e : zn1 i f ds ps = some (fl, ps')) (q : yj7 φ E σ H F fl ps') : ∃ V : Nat -> Nat -> St -> Hp -> Prop, (∃ m, V 0 m σ H) /\ ∀ k m σ H, V k m σ H -> wi0 J E V (yb1 i) (tS φ f) k m σ H := by
  refine ⟨wk8 φ σ H F i f ds fl ps', ⟨_, Nat.zero_le _, rfl, ps, F, .refl R, by rw [List.drop_zero]; exact e⟩, ?_⟩
  rintro k m σ1 H1 ⟨hk, rfl, ps1, F1, s1, e1⟩
  have kp : ye5 Z H H1 := s1.fr.kept R fun a ha => (hz a ha).2
  by_cases hlt : k < ds.length
  . right
    have ed : ds[k]? = some ds[k] := List.getElem?_eq_getElem hlt
    obtain ⟨hgo, hy⟩ := W.go H1 kp k _ ed
    rw [List.drop_eq_getElem_cons hlt, zn1] at e1
    obtain ⟨⟨fl2, ps2⟩, e2, e3⟩ := bind_some e1
    refine ⟨hgo, fun σ' H' => ∃ F', Stp φ σ H F σ' H' ps2 F' /\ zn1 i f (ds.drop (k + 1)) ps2 = some (fl, ps'), fun σ' H' ⟨F', s, e⟩ => ⟨ds.length - (k + 1), by omega, hlt, rfl, ps2, F', s, e⟩, fun x H' y => ?_⟩
    obtain ⟨rfl, rx⟩ := hy x H' y
    obtain ⟨F2, s2⟩ := (Stp.refl s1.rs).set (i := i) (fv := []) (v := x) (d := ds[k]) ⟨fun _ h => absurd h (by simp), List.nodup_nil, fun _ _ _ h => absurd h (by simp)⟩ s1.rs rx (.inl hb) hm
    have s12 := s1.trans s2
    refine ⟨_, F2, fl2, ps2, s2.rs, e2, ?_⟩
    cases fl2 with
    | nx => exact fun σ' H' F' s => ⟨F', s12.trans s, e3⟩
    | ct => exact fun σ' H' F' s => ⟨F', s12.trans s, e3⟩
    | bk => cases e3; exact fun σ' H' F' s => q σ' H' F' (s12.trans s)
    | ret d => cases e3; exact fun v σ' H' F' fv s o r => q v σ' H' F' fv (s12.trans s) (o.after s12) r
  . left
    have ek : k = ds.length := by omega
    subst ek
    rw [List.drop_length, zn1] at e1
    cases e1
    exact ⟨W.stop H1 kp, q _ _ F1 s1⟩
noncomputable def zw0 (i : Nat) (fi : PSt -> Option (List D)) (f : PSt -> Option (Fl × PSt)) : PSt -> Option (Fl × PSt) := fun ps => (fi ps).bind fun ds => zn1 i f ds ps
theorem yo6 {κ : Str -> Addr} {φ : F0} (i : Nat) {x : Str} {px : Pos} {iter : Expr} {fi : PSt -> Option (List D)} (hp : PassesOwn (model X.prog X.w) X.A X.env X.xe) (hc : X.calm = true) (hN : X.N.Nodup) (hi : X.N[i]? = some x) (hx : Loc X.env.scope x) (hb : φ.bor i = false) (hm : φ.M i = false)
    (hit : PI X (.Name x px) iter (tIP X.K κ fi)) (hbd : QSs X κ φ body f) (hs : ∀ x, foldedSetIterable iter X.env x = pure x := by intro _; rfl) (hf : X.fn x = true \/ X.env.scope.names.lookup x = some .local := by first | exact .inl rfl | exact .inr rfl | assumption) :
    QS X κ φ (.For (.Name x px) iter body [] pos) (zw0 i fi f) := (xm3 hp hc hit (zy7 hN hi hx hf) hbd hs).imp fun E σ H hh_ => by
  obtain ⟨ps, F, fl, ps', R, e, q⟩ := hh_
  obtain ⟨ds, e1, e2⟩ := bind_some e
  refine ⟨ps, ds, R.ws, e1, fun J H1 Z s1 hz W => ?_⟩
  have s := Stp.same R s1
  exact yz1 s.rs (fun a ha => ⟨(hz a ha).2, fun j hj => by obtain ⟨o, h, _⟩ := R.own hj; rw [(hz a ha).1] at h; cases h⟩) W hb hm e2 (q.back s)
noncomputable def wk9 (g : TG) (tb : TS) (E : Ends) (σ : St) : It -> Hp -> Prop := fun J H1 => ∃ W : Nat -> Nat -> St -> Hp -> Prop, (∃ m, W 0 m σ H1) /\ ∀ i m σ H, W i m σ H ->
  (J.stop i H /\ E.nx σ H) \/ (J.go i H /\ ∃ N : St -> Hp -> Prop, (∀ σ' H', N σ' H' -> ∃ m', m' < m /\ W (i + 1) m' σ' H') /\ ∀ x H', J.yld i H x H' -> g x σ H' fun σ2 H2 => tb { E with nx := N, ct := N, bk := E.nx } σ2 H2)
theorem yi6 {κ : Str -> Addr} {φ : F0} (i j : Nat) {x y : Str} {px py : Pos} (hp : PassesOwn (model X.prog X.w) X.A X.env X.xe) (hc : X.calm = true) (hN : X.N.Nodup) (hi : X.N[i]? = some x) (hx : Loc X.env.scope x) (hb : φ.bor i = false) (hm : φ.M i = false) (hj : φ.bor j = true)
    (hbd : QSs X κ φ body f) (hNj : X.N[j]? = some y := by rfl) (hv : Vis X.env.scope y := by first | exact Or.inl rfl | exact Or.inr (Or.inl rfl) | exact Or.inr (Or.inr rfl)) (hd : (y == ("__debug__" : Str)) = false := by decide)
    (hcd : (y == ("__classdict__" : Str)) = false := by decide) (hs : ∀ x, foldedSetIterable (.Name y py) X.env x = pure x := by intro _; rfl) (hf : X.fn x = true \/ X.env.scope.names.lookup x = some .local := by first | exact .inl rfl | exact .inr rfl | assumption) :
    QS X κ φ (.For (.Name x px) (.Name y py) body [] pos) (zw0 i (zp5 (za0 j)) f) := (xm3 hp hc (xo0 (yf8 hNj hv hd hcd)) (zy7 hN hi hx hf) hbd hs).imp fun E σ H hh_ => by
  obtain ⟨ps, F, fl, ps', R, e, q⟩ := hh_
  obtain ⟨ds, e1, e2⟩ := bind_some e
  obtain ⟨d, e3, e4⟩ := bind_some e1
  obtain ⟨v, fp, h1, h2, _, h4⟩ := R.rep j d (zp2 e3)
  refine ⟨v, h1, ?_⟩
  refine xf7 (R := wk9 (yb1 i) (tS (φ.fx X.K κ) f) E σ) h2 e4 fun J Z hz W => ?_
  exact yz1 R (fun a ha => ⟨R.bt j a (h4 hj a (hz a ha)), fun k hk => R.nb k a hk j (h4 hj a (hz a ha))⟩) W hb hm e2 q
end
end L2
namespace L2
open PySem PySem.Spec PyProof.Rows
noncomputable def gP (np n : Nat) (f : PSt -> Option (Fl × PSt)) : List D -> Option D := fun ds => if ds.length = np then (f (ds.map some ++ List.replicate n none)).bind fun r => match r with
  | (.ret d, _) => some d
  | (.nx, _) => some .non
  | _ => none
  else none
noncomputable def SpP (np : Nat) (K : PySem.W.Frag) (κ : Str -> Addr) (g : List D -> Option D) : Sp := fun vs H Q _ => vs.length = np /\ ∃ ds fp d, Reps K κ H vs ds fp /\ g ds = some d /\ zr5 K κ H d Q
noncomputable def fxP (K : PySem.W.Frag) (κ : Str -> Addr) (np : Nat) (B : Nat -> Addr -> Prop) : Fx := ⟨K, κ, fun i => decide (i < np), fun _ => false, B⟩
noncomputable def f0P (np : Nat) (B : Nat -> Addr -> Prop) : F0 := ⟨fun i => decide (i < np), fun _ => false, B⟩
theorem xo1 {N : List Str} {vs : List V} {i : Nat} {v : V} (h : vs[i]? = some v) : (start N vs)[i]? = some (some v) := by
  unfold start
  have hi := (List.getElem?_eq_some_iff.mp h).1
  rw [List.getElem?_append_left (by simpa using hi), List.getElem?_map, h]; rfl
theorem RS.start {K : PySem.W.Frag} {κ : Str -> Addr} {H : Hp} {N : List Str} {vs : List V} {ds : List D} {fp : List Addr} {np : Nat} (r : Reps K κ H vs ds fp) (hl : vs.length = np) (hn : np <= N.length) :
    RS (fxP K κ np (fun _ a => a ∈ fp)) H (start N vs) (ds.map some ++ List.replicate (N.length - np) none) (fun _ => []) := by
  have el := r.length
  refine ⟨fun i d h => ?_, fun i a h => absurd h (by simp), fun i j a h => absurd h (by simp), fun i => List.nodup_nil, fun i a h => absurd h (by simp), fun k a h z => ?_, ?_⟩
  . by_cases hi : i < ds.length
    . rw [List.getElem?_append_left (by simpa using hi), List.getElem?_map] at h
      cases e : ds[i]? with
      | none => rw [e] at h; cases h
      | some d' =>
        rw [e] at h; cases h
        obtain ⟨v, f, h1, h2, h3⟩ := r.get e
        refine ⟨v, f, xo1 h1, h2, fun z => ?_, fun _ => h3⟩
        exact absurd (of_decide_eq_false z) (by omega)
    . rw [List.getElem?_append_right (by simpa using hi), List.getElem?_replicate] at h
      split at h <;> cases h
  . obtain ⟨o, h, _⟩ := r.own a h
    rw [z] at h; cases h
  . unfold L2.start
    simp only [List.length_append, List.length_map, List.length_replicate]
    omega
section
variable {P : Program} {w : World} {K : PySem.W.Frag} {mg : Str -> Option Value} {base : Heap} {κ : Str -> Addr}
theorem zj3 {x qual : Str} {st : Stmt} {f : Addr} {fd : FuncData} {N ps : List Str} {k : Nat} {fb : PSt -> Option (Fl × PSt)} (F : Fun K x qual st f fd) (S : FnScope N ps (za4 st))
    (hbody : ∀ (cdv : Value) (A : Around) (outer : List Env) (s : Shared) (H : Hp) (E : XK) (B : Nat -> Addr -> Prop), Room k (A.deeper (envOfC qual (za4 st) s.heap.objs.size f cdv)) ->
      QSs (zk9 CX0 P w K mg base N qual (za4 st) f cdv A outer s H E).nox κ (f0P ps.length B) (zd1 st) fb) :
    FnOk P w K mg base CX0 (k + 1) f fd ps (SpP ps.length K κ (gP ps.length (N.length - ps.length) fb)) := by
  refine F.ok S (fun vs H Q E h => h.1) fun cdv A outer s H vs Q E hr ⟨hl, ds, fp, d, r, e, q⟩ => ⟨_, hbody cdv A outer s H E (fun _ a => a ∈ fp) hr, ?_⟩
  have hn : ps.length <= N.length := by have := congrArg List.length S.pre; rw [List.length_take] at this; omega
  unfold gP at e
  obtain ⟨_, e0⟩ := ze5 e
  obtain ⟨⟨fl, ps'⟩, e1, e2⟩ := bind_some e0
  refine ⟨_, fun _ => [], fl, ps', RS.start r hl hn, e1, ?_⟩
  have sm : ∀ {H' : Hp}, Frm (fun _ => []) H H' -> SameK H H' := fun k => ⟨fun a o h kk => k.keep a o h kk (fun _ => by simp), k.grow⟩
  cases fl with
  | ret d' =>
    cases e2
    exact fun v σ' H' F' fv s o rv => q v H' fv (sm s.fr) (fun a ha => (o.nw a ha).elim (fun ⟨j, hj⟩ => absurd hj (by simp)) id) o.nd rv
  | nx =>
    cases e2
    exact fun σ' H' F' s => q .non H' [] (sm s.fr) (fun a ha => absurd ha (by simp)) List.nodup_nil .non
  | bk => cases e2
  | ct => cases e2
end
section
variable {X : Cx} {κ : Str -> Addr} {e : Expr} {es : List Expr} {g : PSt -> Option (List D)} {pos p : Pos}
theorem zn5 {x : Str} {st : Stmt} {ps : List Str} {f : Addr} {fd : FuncData} {k np : Nat} {h : List D -> Option D} (Dd : Dn X.K X.mg x st ps f fd) (G : FnOk X.prog X.w X.K X.mg X.base CX0 k f fd ps (SpP np X.K κ h)) (hr : Room k X.A) (hg : Gl X x) (hnp : (e :: es).length = np) (ha : QVA X κ (e :: es) g)
    (hlen : ∀ ps ds, g ps = some ds -> ds.length = (e :: es).length)
    (hdb : (x == ("__debug__" : Str)) = false := by decide) (he : starEach (e :: es) X.env = (false, eval e X.env) :: starEach es X.env := by rfl) (hpl : (backTo pos (starEach es X.env)).any (·.1) = false := by rfl) :
    QP X κ (.Call (.Name x p) (e :: es) [] pos) (za6 h g) := (xv4 Dd G hr hg ha hdb he hpl).imp fun σ H Q hh_ => by
  obtain ⟨ps, d, w, e, q⟩ := hh_
  obtain ⟨ds, e1, e2⟩ := bind_some e
  refine ⟨ps, ds, w, e1, fun vs H1 fp s1 r1 => ?_⟩
  show SpP np X.K κ h (vs ++ []) H1 Q E0
  rw [List.append_nil]
  exact ⟨by rw [r1.length, hlen ps ds e1, hnp], ds, fp, d, r1, e2, q.after s1⟩
theorem yo7 {x : Str} {st : Stmt} {ps : List Str} {f : Addr} {fd : FuncData} {k : Nat} {h : List D -> Option D} (Dd : Dn X.K X.mg x st ps f fd) (G : FnOk X.prog X.w X.K X.mg X.base CX0 k f fd ps (SpP 0 X.K κ h)) (hr : Room k X.A) (hg : Gl X x)
    (hdb : (x == ("__debug__" : Str)) = false := by decide) : QP X κ (.Call (.Name x p) [] [] pos) (za6 h za3) := (wc5 Dd G hr hg hdb).imp fun σ H Q hh_ => by
  obtain ⟨ps, d, w, e, q⟩ := hh_
  obtain ⟨ds, e1, e2⟩ := bind_some e
  cases e1
  exact ⟨rfl, [], [], d, .nil, e2, q⟩
theorem zk2 : ∀ (ps : PSt) (ds : List D), za3 ps = some ds -> ds.length = ([] : List Expr).length := fun _ _ h => by cases h; rfl
theorem ze0 {f : PSt -> Option D} (h : ∀ ps ds, g ps = some ds -> ds.length = es.length) : ∀ (ps : PSt) (ds : List D), za1 f g ps = some ds -> ds.length = (e :: es).length := fun ps ds q => by
  obtain ⟨d, es', _, e2, rfl⟩ := yd5 q
  rw [List.length_cons, List.length_cons, h ps es' e2]
end
noncomputable def zx8 (pick : List (Option Nat)) (ps : PSt) : PSt := pick.map fun o => o.bind fun j => (ps[j]?).join
noncomputable def zq8 (psb : PSt) (ft : PSt -> Option Bool) (fe : PSt -> Option D) : List D -> Option (List D)
  | [] => some []
  | d :: ds => (ft (psb.set 0 (some d))).bind fun b => if b = true then (fe (psb.set 0 (some d))).bind fun r => (zq8 psb ft fe ds).bind fun rs => some (r :: rs) else zq8 psb ft fe ds
noncomputable def yb2 (pick : List (Option Nat)) (fi : PSt -> Option (List D)) (ft : PSt -> Option Bool) (fe : PSt -> Option D) : PSt -> Option D := fun ps => (fi ps).bind fun ds => if ds.length <= sizeLine then (zq8 (zx8 pick ps) ft fe ds).bind fun rs => some (.lst true rs) else none
noncomputable def zz9 : PSt -> Option Bool := fun _ => some true
theorem WS.sub {K : PySem.W.Frag} {κ : Str -> Addr} {H : Hp} {σ : St} {ps : PSt} (pick : List (Option Nat)) (w : WS K κ H σ ps) : WS K κ H (zx6 pick σ) (zx8 pick ps) := fun i d h => by
  unfold zx8 at h
  unfold zx6
  rw [List.getElem?_map] at h |-
  cases e : pick[i]? with
  | none => rw [e] at h; cases h
  | some o =>
    rw [e] at h
    cases o with
    | none => cases h
    | some j =>
      have h' : (ps[j]?).join = some d := Option.some.inj h
      obtain ⟨v, fp, h1, h2⟩ := w j d (zp2 h')
      refine ⟨v, fp, ?_, h2⟩
      show some ((σ[j]?).join) = some (some v)
      rw [h1]; rfl
theorem WS.set0 {K : PySem.W.Frag} {κ : Str -> Addr} {H : Hp} {σ : St} {ps : PSt} {v : V} {d : D} {fp : List Addr} (w : ∀ (i : Nat) (d : D), i ≠ 0 -> ps[i]? = some (some d) -> ∃ v fp, σ[i]? = some (some v) /\ Rep K κ H v d fp) (hl : ps.length <= σ.length) (r : Rep K κ H v d fp) : WS K κ H (σ.set 0 (some v)) (ps.set 0 (some d)) := fun i d' h => by
  by_cases e : i = 0
  . subst e
    by_cases hp : 0 < ps.length
    . rw [List.getElem?_set_self hp] at h
      cases h
      exact ⟨v, fp, by rw [List.getElem?_set_self (by omega)], r⟩
    . rw [List.getElem?_eq_none (by simpa using hp)] at h; cases h
  . rw [List.getElem?_set_ne (fun z => e z.symm)] at h |-
    exact w i d' e h
section
variable {X : Cx} {κ : Str -> Addr} {sc : Scope} {NX N : List Str} {pick : List (Option Nat)} {elt iter : Expr} {ifs : List Expr} {scope : Scope} {pos px : Pos} {x : Str} {fi : PSt -> Option (List D)} {ft : PSt -> Option Bool} {fe : PSt -> Option D}
theorem PTs.imp {X : Cx} {ifs : List Expr} {t t' : TT} (h : PTs X ifs t) (k : ∀ σ H Q, t' σ H Q -> t σ H Q) : PTs X ifs t' := fun pins s σ H Q I q => h pins s σ H Q I (k σ H Q q)
theorem yi7 {X : Cx} : PTs X [] (tQ X.K κ zz9) := wc6.imp fun σ H Q ⟨ps, b, w, e, q⟩ => by cases e; exact q H (.refl H)
structure Grown (K : PySem.W.Frag) (κ : Str -> Addr) (H1 : Hp) (Dd : Addr) (H' : Hp) (vs : List V) (rs : List D) (fv : List Addr) : Prop where
  same : SameK H1 H'
  at_ : H' Dd = some (.lst vs)
  rep : Reps K κ H' vs rs fv
  new : ∀ a ∈ fv, H1 a = none
  ne : Dd ∉ fv
  nd : fv.Nodup
noncomputable def wi1 (K : PySem.W.Frag) (κ : Str -> Addr) (J : It) (Dd : Addr) (q : Hp -> Prop) (V : Nat -> Nat -> St -> Hp -> Prop) (ft : PSt -> Option Bool) (fe : PSt -> Option D) (i m : Nat) (σ' : St) (H' : Hp) : Prop :=
    (J.stop i H' /\ q H') \/ (J.go i H' /\ ∀ x H2, J.yld i H' x H2 -> yb1 0 x σ' H2 fun σ3 H3 => tQ K κ ft σ3 H3 fun b H4 =>
      if b = true then tP K κ fe σ3 H4 fun y H5 => ∃ ys, H5 Dd = some (.lst ys) /\ ys.length < sizeLine /\ ∃ m', m' < m /\ V (i + 1) m' σ3 (upd H5 Dd (.lst (ys ++ [y]))) else ∃ m', m' < m /\ V (i + 1) m' σ3 H4)
noncomputable def wl0 (K : PySem.W.Frag) (κ : Str -> Addr) (H1 : Hp) (Dd : Addr) (pick : List (Option Nat)) (ps : PSt) (ft : PSt -> Option Bool) (fe : PSt -> Option D) (ds rs : List D) (i m : Nat) (σ' : St) (H' : Hp) : Prop := i <= ds.length /\ m = ds.length - i /\ (∀ (j : Nat) (d : D), j ≠ 0 -> (zx8 pick ps)[j]? = some (some d) -> ∃ v fp, σ'[j]? = some (some v) /\ Rep K κ H1 v d fp) /\ (zx8 pick ps).length <= σ'.length /\
    ∃ vs fv done zb1, Grown K κ H1 Dd H' vs done fv /\ done.length <= i /\ zq8 (zx8 pick ps) ft fe (ds.drop i) = some zb1 /\ rs = done ++ zb1
theorem xs8 {pick : List (Option Nat)} {J : It} {Z : List Addr} {σ : St} {ps : PSt} {H1 : Hp} {Dd : Addr} {ds rs : List D} {Q : Addr -> Hp -> Prop} (w : WS X.K κ H1 σ ps) (hD : H1 Dd = none) (W : Walk X.K κ J Z H1 ds) (hz : ds.length <= sizeLine)
    (e : zq8 (zx8 pick ps) ft fe ds = some rs) (q : ∀ H' vs fv, Grown X.K κ H1 Dd H' vs rs fv -> Q Dd H') :
    ∃ V : Nat -> Nat -> St -> Hp -> Prop, (∃ m, V 0 m (zx6 pick σ) (upd H1 Dd (.lst []))) /\ ∀ i m σ' H', V i m σ' H' -> wi1 X.K κ J Dd (Q Dd) V ft fe i m σ' H' := by
  refine ⟨wl0 X.K κ H1 Dd pick ps ft fe ds rs, ⟨_, Nat.zero_le _, rfl, fun j d _ h => w.sub pick j d h, by simp [zx8, zx6], [], [], [], rs, ⟨.new hD _, zh0, .nil, fun _ h => absurd h (by simp), by simp, List.nodup_nil⟩, Nat.zero_le _, by rw [List.drop_zero]; exact e, rfl⟩, ?_⟩
  rintro i m σ' H' ⟨hi, rfl, ws, wl, vs, fv, done, zb1, G, hdn, er, ers⟩
  have kp : ye5 Z H1 H' := fun a o h t => G.same.keep a o h (t.elim zv3 fun t => t.1)
  by_cases hlt : i < ds.length
  . right
    have ed : ds[i]? = some ds[i] := List.getElem?_eq_getElem hlt
    obtain ⟨hgo, hy⟩ := W.go H' kp i _ ed
    refine ⟨hgo, fun x H2 y => ?_⟩
    obtain ⟨rfl, rx⟩ := hy x H2 y
    rw [List.drop_eq_getElem_cons hlt, zq8] at er
    obtain ⟨b, e1, e2⟩ := bind_some er
    have wset : WS X.K κ H2 (σ'.set 0 (some x)) ((zx8 pick ps).set 0 (some ds[i])) := WS.set0 (fun j d hj h => by obtain ⟨v, fp, h1, h2⟩ := ws j d hj h; exact ⟨v, fp, h1, h2.same G.same⟩) wl rx
    refine ⟨_, b, wset, e1, fun H3 s3 => ?_⟩
    have keepS : ∀ (j : Nat) (d : D), j ≠ 0 -> (zx8 pick ps)[j]? = some (some d) -> ∃ v fp, (σ'.set 0 (some x))[j]? = some (some v) /\ Rep X.K κ H1 v d fp := fun j d hj h => by
      obtain ⟨v, fp, h1, h2⟩ := ws j d hj h
      exact ⟨v, fp, by rw [List.getElem?_set_ne (fun z => hj z.symm)]; exact h1, h2⟩
    have Dkeep : ∀ {H5 : Hp}, SameK H2 H5 -> H5 Dd = some (.lst vs) := fun s => s.keep _ _ G.at_ rfl
    cases b with
    | true =>
      dsimp only
      rw [if_pos rfl] at e2 |-
      obtain ⟨r, e3, e4⟩ := bind_some e2
      obtain ⟨rs', e5, e6⟩ := bind_some e4
      cases e6
      refine ⟨_, r, wset.same s3, e3, fun y H5 fw s5 n5 nd5 r5 => ?_⟩
      have s25 := s3.trans s5
      refine ⟨vs, Dkeep s25, ?_, ds.length - (i + 1), by omega, hlt, rfl, keepS, by simpa using wl, vs ++ [y], fv ++ fw, done ++ [r], rs', ?_, ?_, e5, by rw [ers]; simp⟩
      . have := G.rep.length; omega
      . have hDw : Dd ∉ fw := fun z => by have := s3.grow Dd (n5 Dd z); rw [G.at_] at this; cases this
        have hup : ∀ a, a ≠ Dd -> upd H5 Dd (.lst (vs ++ [y])) a = H5 a := fun a h => zd4 h
        have tfk : ∀ a o, H5 a = some o -> tf o = true -> upd H5 Dd (.lst (vs ++ [y])) a = some o := fun a o h t => by
          rw [hup a]
          . exact h
          . rintro rfl; rw [Dkeep s25] at h; cases h; cases t
        have rv5 : Reps X.K κ H5 vs done fv := G.rep.same s25
        refine ⟨⟨fun a o h k => ?_, fun a h => ?_⟩, zh0, Reps.append (rv5.move tfk fun a ha => hup a fun z => G.ne (z ▸ ha)) (Reps.one (r5.move tfk fun a ha => hup a fun z => hDw (z ▸ ha))), fun a ha => ?_, fun z => ?_, ?_⟩
        . rw [hup a (fun z => by subst z; rw [hD] at h; cases h)]
          exact (G.same.trans s25).keep a o h k
        . by_cases z : a = Dd
          . subst z; rw [zh0] at h; cases h
          . rw [hup a z] at h; exact (G.same.trans s25).grow a h
        . rcases List.mem_append.mp ha with z | z
          . exact G.new a z
          . exact (G.same.trans s3).grow a (n5 a z)
        . rcases List.mem_append.mp z with z | z
          . exact G.ne z
          . exact hDw z
        . rw [List.nodup_append]
          refine ⟨G.nd, nd5, fun a ha b hb e => ?_⟩
          subst e
          obtain ⟨o, h, k, _⟩ := G.rep.own a ha
          have := s3.keep a o h k
          rw [n5 a hb] at this; cases this
      . rw [List.length_append, List.length_singleton]; omega
    | false =>
      dsimp only
      rw [if_neg Bool.false_ne_true] at e2 |-
      refine ⟨ds.length - (i + 1), by omega, hlt, rfl, keepS, by simpa using wl, vs, fv, done, zb1, ⟨G.same.trans s3, Dkeep s3, G.rep.same s3, G.new, G.ne, G.nd⟩, by omega, e2, ers⟩
  . left
    have ek : i = ds.length := by omega
    subst ek
    rw [List.drop_length, zq8] at er
    cases er
    rw [List.append_nil] at ers
    subst ers
    exact ⟨W.stop H' kp, q H' vs fv G⟩
theorem yi8 (S : CScope sc NX N pick scope) (hsc : X.env.scope = sc) (hNX : X.N = NX) (hc : X.calm = true) (hi : QIV X κ (.Name x px) iter fi)
    (hg : ∀ cl fp s H, PG (cxB X N scope cl fp s H) (.Name x px) (yb1 0)) (ht : ∀ cl fp s H, PTs (cxB X N scope cl fp s H) ifs (tQ X.K κ ft)) (he : ∀ cl fp s H, PE (cxB X N scope cl fp s H) elt (tP X.K κ fe))
    (hs : ∀ x, foldedSetIterable iter X.env x = pure x := by intro _; rfl) : QP X κ (.ListComp elt [⟨.Name x px, iter, ifs, 0⟩] scope pos) (yb2 pick fi ft fe) :=
  (xx6 S hsc hNX hc hi hg ht he hs).imp fun σ H Q hh_ => by
    obtain ⟨ps, d, w, e, q⟩ := hh_
    obtain ⟨ds, e1, e2⟩ := bind_some e
    obtain ⟨hz, e3⟩ := ze5 e2
    obtain ⟨rs, e4, e5⟩ := bind_some e3
    cases e5
    refine ⟨ps, ds, w, e1, fun J H1 Z s1 W Dd hD => ?_⟩
    refine xs8 (Q := fun Dd H' => Q (.ref Dd) H') (w.same s1) hD W hz e4 fun H' vs fv G => ?_
    refine q _ H' (Dd :: fv) (s1.trans G.same) (fun a ha => ?_) (List.nodup_cons.mpr ⟨G.ne, G.nd⟩) (.lst G.at_ G.rep)
    rcases List.mem_cons.mp ha with z | z
    . rw [z]; exact s1.grow Dd hD
    . exact s1.grow a (G.new a z)
end
end L2
namespace L2
open PySem PySem.Spec PyProof.Rows
inductive Ps1 where
  | ix (n : Nat) | fld (f : Str)
noncomputable def zc2 : List Str -> Str -> Option Nat
  | [], _ => none
  | n :: ns, f => if n = f then some 0 else (zc2 ns f).map (· + 1)
noncomputable def zd7 {α : Type} (h : D -> Option (α × D)) : D -> List Ps1 -> Option (α × D)
  | d, [] => h d
  | .lst true xs, .ix n :: p => (xs[n]?).bind fun d => (zd7 h d p).bind fun r => some (r.1, .lst true (xs.set n r.2))
  | .obj true C ns vs, .fld f :: p => (zc2 ns f).bind fun n => (vs[n]?).bind fun d => (zd7 h d p).bind fun r => some (r.1, .obj true C ns (vs.set n r.2))
  | _, _ => none
noncomputable def zd8 : D -> List Ps1 -> Option D
  | d, [] => some d
  | .lst true xs, .ix n :: p => (xs[n]?).bind fun d => zd8 d p
  | .obj true _ ns vs, .fld f :: p => (zc2 ns f).bind fun n => (vs[n]?).bind fun d => zd8 d p
  | _, _ => none
noncomputable def At (H : Hp) : V -> List Ps1 -> V -> Prop
  | v0, [], v => v = v0
  | v0, .ix n :: p, v => ∃ a vs v1, v0 = .ref a /\ H a = some (.lst vs) /\ vs[n]? = some v1 /\ At H v1 p v
  | v0, .fld f :: p, v => ∃ a C dx fs n v1, v0 = .ref a /\ H a = some (.ins C dx fs) /\ zc2 (fs.map (·.1)) f = some n /\ (fs.map (·.2))[n]? = some v1 /\ At H v1 p v
theorem At.same {H H' : Hp} (s : SameK H H') : ∀ {p : List Ps1} {v0 v : V}, At H v0 p v -> At H' v0 p v
  | [], _, _, h => h
  | .ix n :: p, _, _, ⟨a, vs, v1, h1, h2, h3, h4⟩ => ⟨a, vs, v1, h1, s.keep _ _ h2 rfl, h3, At.same s h4⟩
  | .fld f :: p, _, _, ⟨a, C, dx, fs, n, v1, h1, h2, h3, h4, h5⟩ => ⟨a, C, dx, fs, n, v1, h1, s.keep _ _ h2 rfl, h3, h4, At.same s h5⟩
theorem At.snoc_fld {H : Hp} {a C dx : Addr} {fs : List (Str × V)} {f : Str} {n : Nat} {v : V} (h : H a = some (.ins C dx fs)) (hn : zc2 (fs.map (·.1)) f = some n) (hv : (fs.map (·.2))[n]? = some v) : ∀ {p : List Ps1} {v0 : V}, At H v0 p (.ref a) -> At H v0 (p ++ [.fld f]) v
  | [], _, e => ⟨a, C, dx, fs, n, v, e.symm, h, hn, hv, rfl⟩
  | .ix m :: p, _, ⟨b, us, v1, h1, h2, h3, h4⟩ => ⟨b, us, v1, h1, h2, h3, At.snoc_fld h hn hv h4⟩
  | .fld f' :: p, _, ⟨b, C', dx', fs', m, v1, h1, h2, h3, h4, h5⟩ => ⟨b, C', dx', fs', m, v1, h1, h2, h3, h4, At.snoc_fld h hn hv h5⟩
theorem xf8 {α : Type} {h : D -> Option (α × D)} {d0 : D} {n : Nat} {p : List Ps1} {r : α} {d' : D} (e : zd7 h d0 (.ix n :: p) = some (r, d')) : ∃ xs d1 d2, d0 = .lst true xs /\ xs[n]? = some d1 /\ zd7 h d1 p = some (r, d2) /\ d' = .lst true (xs.set n d2) := by
  unfold zd7 at e
  split at e
  . rename_i z; cases z
  . rename_i z; cases z
    obtain ⟨d1, h1, h2⟩ := bind_some e
    obtain ⟨⟨r1, d2⟩, h3, h4⟩ := bind_some h2
    cases h4
    exact ⟨_, _, _, rfl, h1, h3, rfl⟩
  . rename_i z; cases z
  . cases e
theorem yz2 {α : Type} {h : D -> Option (α × D)} {d0 : D} {f : Str} {p : List Ps1} {r : α} {d' : D} (e : zd7 h d0 (.fld f :: p) = some (r, d')) : ∃ C ns xs n d1 d2, d0 = .obj true C ns xs /\ zc2 ns f = some n /\ xs[n]? = some d1 /\ zd7 h d1 p = some (r, d2) /\ d' = .obj true C ns (xs.set n d2) := by
  unfold zd7 at e
  split at e
  . rename_i z; cases z
  . rename_i z; cases z
  . rename_i z; cases z
    obtain ⟨n, h0, h9⟩ := bind_some e
    obtain ⟨d1, h1, h2⟩ := bind_some h9
    obtain ⟨⟨r1, d2⟩, h3, h4⟩ := bind_some h2
    cases h4
    exact ⟨_, _, _, _, _, _, rfl, h0, h1, h3, rfl⟩
  . cases e
theorem yr8 {d0 d : D} {n : Nat} {p : List Ps1} (e : zd8 d0 (.ix n :: p) = some d) : ∃ xs d1, d0 = .lst true xs /\ xs[n]? = some d1 /\ zd8 d1 p = some d := by
  unfold zd8 at e
  split at e
  . rename_i z; cases z
  . rename_i z; cases z
    obtain ⟨d1, h1, h2⟩ := bind_some e
    exact ⟨_, _, rfl, h1, h2⟩
  . rename_i z; cases z
  . cases e
theorem yl9 {d0 d : D} {f : Str} {p : List Ps1} (e : zd8 d0 (.fld f :: p) = some d) : ∃ C ns xs n d1, d0 = .obj true C ns xs /\ zc2 ns f = some n /\ xs[n]? = some d1 /\ zd8 d1 p = some d := by
  unfold zd8 at e
  split at e
  . rename_i z; cases z
  . rename_i z; cases z
  . rename_i z; cases z
    obtain ⟨n, h0, h9⟩ := bind_some e
    obtain ⟨d1, h1, h2⟩ := bind_some h9
    exact ⟨_, _, _, _, _, rfl, h0, h1, h2⟩
  . cases e
theorem zz3 {α : Type} {h : D -> Option (α × D)} {r : α} {d' : D} {p : List Ps1} : ∀ {d0 : D}, zd7 h d0 p = some (r, d') -> ∃ d dn, zd8 d0 p = some d /\ h d = some (r, dn) := by
  induction p generalizing d' with
  | nil => intro d0 e; rw [zd7] at e; exact ⟨d0, d', by rw [zd8], e⟩
  | cons s p ih =>
    intro d0 e
    cases s with
    | ix m =>
      obtain ⟨xs, d1, d2, rfl, h1, h3, rfl⟩ := xf8 e
      obtain ⟨d, dn, g1, g2⟩ := ih h3
      refine ⟨d, dn, ?_, g2⟩
      show (xs[m]?).bind _ = _
      rw [h1]; exact g1
    | fld f =>
      obtain ⟨C, ns, xs, m, d1, d2, rfl, h0, h1, h3, rfl⟩ := yz2 e
      obtain ⟨d, dn, g1, g2⟩ := ih h3
      refine ⟨d, dn, ?_, g2⟩
      show (zc2 ns f).bind _ = _
      rw [h0]
      show (xs[m]?).bind _ = _
      rw [h1]; exact g1
section
variable {K : PySem.W.Frag} {κ : Str -> Addr} {H : Hp}
theorem Reps.focus : ∀ {vs : List V} {ds : List D} {g : List Addr} {n : Nat} {d1 : D} {v1 : V}, Reps K κ H vs ds g -> ds[n]? = some d1 -> vs[n]? = some v1 -> ∃ f1 zb1, Rep K κ H v1 d1 f1 /\ g.Perm (f1 ++ zb1) /\
    ∀ (H' : Hp) (d' : D) (f' : List Addr), (∀ a o, H a = some o -> tf o = true -> H' a = some o) -> (∀ a ∈ zb1, H' a = H a) -> Rep K κ H' v1 d' f' -> ∃ g', Reps K κ H' vs (ds.set n d') g' /\ g'.Perm (f' ++ zb1)
  | _, _, _, _, _, _, .nil, e, _ => by simp at e
  | _, _, _, 0, _, _, .cons (f := f) (g := g) h hs, e, e' => by
    simp at e e'; subst e; subst e'
    exact ⟨f, g, h, .refl _, fun H' d' f' t k r => ⟨f' ++ g, .cons r (hs.move t k), .refl _⟩⟩
  | _, _, _, n + 1, _, _, .cons (f := f) (g := g) h hs, e, e' => by
    obtain ⟨f1, zb1, h1, h2, h3⟩ := Reps.focus (n := n) hs (by simpa using e) (by simpa using e')
    refine ⟨f1, f ++ zb1, h1, ?_, fun H' d' f' t k r => ?_⟩
    . refine (h2.append_left f).trans ?_
      rw [<- List.append_assoc, <- List.append_assoc]
      exact List.perm_append_comm.append_right zb1
    . obtain ⟨g', r1, r2⟩ := h3 H' d' f' t (fun a ha => k a (List.mem_append_right _ ha)) r
      refine ⟨f ++ g', .cons (h.move t fun a ha => k a (List.mem_append_left _ ha)) r1, ?_⟩
      refine (r2.append_left f).trans ?_
      rw [<- List.append_assoc, <- List.append_assoc]
      exact List.perm_append_comm.append_right zb1
theorem yv0 {b : Addr} {g f1 fd zb1 rest1 : List Addr} (k2 : g.Perm (f1 ++ rest1)) (m3 : f1.Perm (fd ++ zb1)) : (b :: g).Perm (fd ++ b :: (zb1 ++ rest1)) := by
  refine ((k2.trans (m3.append_right rest1)).cons b).trans ?_
  rw [List.append_assoc]
  exact List.perm_middle.symm
noncomputable def Foc (K : PySem.W.Frag) (κ : Str -> Addr) (H : Hp) {α : Type} (h : D -> Option (α × D)) (r : α) (v v0 : V) (d0' : D) (fp : List Addr) : Prop := ∃ d d' fd zb1, Rep K κ H v d fd /\ h d = some (r, d') /\ fp.Perm (fd ++ zb1) /\
    ∀ (H' : Hp) (f' : List Addr), (∀ a o, H a = some o -> tf o = true -> H' a = some o) -> (∀ a ∈ zb1, H' a = H a) -> Rep K κ H' v d' f' -> ∃ fp', Rep K κ H' v0 d0' fp' /\ fp'.Perm (f' ++ zb1)
theorem focus {α : Type} {h : D -> Option (α × D)} {r : α} {p : List Ps1} : ∀ {v0 v : V} {d0 d0' : D} {fp : List Addr}, Rep K κ H v0 d0 fp -> zd7 h d0 p = some (r, d0') -> At H v0 p v -> Foc K κ H h r v v0 d0' fp := by
  induction p with
  | nil =>
    intro v0 v d0 d0' fp R e a
    rw [zd7] at e
    cases (show v = v0 from a)
    exact ⟨d0, d0', fp, [], R, e, by rw [List.append_nil], fun H' f' t k r => ⟨f', r, by rw [List.append_nil]⟩⟩
  | cons s p ih =>
    intro v0 v d0 d0' fp R e a
    have deep : ∀ (b : Addr) (vs : List V) (xs : List D) (n : Nat) (d1 d2 : D) (v1 : V) (g : List Addr), fp = b :: g -> Reps K κ H vs xs g -> xs[n]? = some d1 -> vs[n]? = some v1 -> zd7 h d1 p = some (r, d2) -> At H v1 p v -> (∀ (H' : Hp) (g2 : List Addr), H' b = H b -> Reps K κ H' vs (xs.set n d2) g2 -> Rep K κ H' v0 d0' (b :: g2)) ->
        Foc K κ H h r v v0 d0' fp := fun b vs xs n d1 d2 v1 g ef hs h1 e3 h3 e4 mk => by
      subst ef
      obtain ⟨f1, rest1, k1, k2, k3⟩ := hs.focus h1 e3
      obtain ⟨d, d', fd, zb1, m1, m2, m3, m4⟩ := ih k1 h3 e4
      refine ⟨d, d', fd, b :: (zb1 ++ rest1), m1, m2, yv0 k2 m3, fun H' f' t k rr => ?_⟩
      obtain ⟨g1, q1, q2⟩ := m4 H' f' t (fun a ha => k a (List.mem_cons_of_mem _ (List.mem_append_left _ ha))) rr
      obtain ⟨g2, q3, q4⟩ := k3 H' d2 g1 t (fun a ha => k a (List.mem_cons_of_mem _ (List.mem_append_right _ ha))) q1
      exact ⟨b :: g2, mk H' g2 (k b List.mem_cons_self) q3, yv0 q4 q2⟩
    cases s with
    | ix n =>
      obtain ⟨b, vs, v1, e1, e2, e3, e4⟩ := a
      subst e1
      obtain ⟨xs, d1, d2, rfl, h1, h3, rfl⟩ := xf8 e
      obtain ⟨_, _, g, e5, hb, hs, ef⟩ := R.lstT_inv
      cases e5
      rw [e2] at hb; cases hb
      exact deep b vs xs n d1 d2 v1 g ef hs h1 e3 h3 e4 fun H' g2 k q3 => .lst (k.trans e2) q3
    | fld f =>
      obtain ⟨b, C, dx, fs, n, v1, e1, e2, e2', e3, e4⟩ := a
      subst e1
      obtain ⟨C', ns, xs, n', d1, d2, rfl, h0, h1, h3, rfl⟩ := yz2 e
      obtain ⟨_, _, _, g, e5, hb, hn, hs, ef⟩ := R.objT_inv
      cases e5
      rw [e2] at hb; cases hb
      subst hn
      rw [e2'] at h0; cases h0
      exact deep b _ xs n d1 d2 v1 g ef hs h1 e3 h3 e4 fun H' g2 k q3 => .obj (k.trans e2) rfl q3
end
theorem yo8 {φ : Fx} {α : Type} {h : D -> Option (α × D)} {r : α} {H H1 : Hp} {σ : St} {ps : PSt} {F : Nat -> List Addr} {j : Nat} {d0 d0' : D} {v0 v : V} {p : List Ps1} (R : RS φ H σ ps F) (s1 : SameK H H1) (hb : φ.bor j = false) (e0 : ps[j]? = some (some d0)) (ev : σ[j]? = some (some v0))
    (em : zd7 h d0 p = some (r, d0')) (at_ : At H1 v0 p v) : ∃ d d' fd, Rep φ.K φ.κ H1 v d fd /\ h d = some (r, d') /\ fd.Nodup /\ (∀ a ∈ fd, a ∈ F j) /\
    ∀ (H' : Hp) (fd' fr : List Addr), (∀ a o, H1 a = some o -> kd o = true -> a ∉ fd -> H' a = some o) -> (∀ a, H' a = none -> H1 a = none) -> Rep φ.K φ.κ H' v d' fd' -> (fd' ++ fr).Nodup -> (∀ a ∈ fd' ++ fr, a ∈ fd \/ H a = none) ->
      ∃ F', Stp φ σ H F σ H' (ps.set j (some d0')) F' /\ OwnV F H F' fr := by
  obtain ⟨v0', fp, h1, h2, h3, _⟩ := R.rep j d0 e0
  rw [ev] at h1; cases h1
  have h3 := h3 hb
  subst h3
  obtain ⟨d, d', fd, zb1, m1, m2, m3, m4⟩ := focus (h2.same s1) em at_
  have ndF := R.nd j
  have ndp : (fd ++ zb1).Nodup := m3.nodup_iff.mp ndF
  obtain ⟨nd1, nd2, nd3⟩ := List.nodup_append.mp ndp
  have inF : ∀ a, a ∈ fd \/ a ∈ zb1 -> a ∈ F j := fun a ha => m3.mem_iff.mpr (List.mem_append.mpr ha)
  refine ⟨d, d', fd, m1, m2, nd1, fun a ha => inF a (.inl ha), fun H' fd' fr k1 k2 k3 k4 k5 => ?_⟩
  have tfk : ∀ a o, H1 a = some o -> tf o = true -> H' a = some o := fun a o ha t => k1 a o ha (zv3 t) fun hm => by
    obtain ⟨o', q, _, q'⟩ := m1.own a hm
    rw [ha] at q; cases q; rw [t] at q'; cases q'
  have keepO : ∀ a, (∃ i, a ∈ F i) -> a ∉ fd -> H' a = H1 a := fun a ⟨i, hi⟩ hn => by
    obtain ⟨o, q, q', _⟩ := R.own hi
    have q1 := s1.keep a o q q'
    rw [q1]; exact k1 a o q1 q' hn
  have notfd : ∀ a, a ∈ zb1 -> a ∉ fd := fun a hr hf => nd3 a hf a hr rfl
  obtain ⟨fp', r1, r2⟩ := m4 H' fd' tfk (fun a ha => keepO a ⟨j, inF a (.inr ha)⟩ (notfd a ha)) k3
  obtain ⟨kd1, kd2, kd3⟩ := List.nodup_append.mp k4
  have memfp : ∀ a, a ∈ fp' -> a ∈ fd' \/ a ∈ zb1 := fun a ha => List.mem_append.mp (r2.mem_iff.mp ha)
  have lt : j < ps.length := (List.getElem?_eq_some_iff.mp e0).1
  have old : ∀ a, a ∈ fd' ++ fr -> ∀ i, a ∈ F i -> a ∈ fd := fun a ha i hi => (k5 a ha).elim id fun z => by
    obtain ⟨o, q, _⟩ := R.own hi
    rw [z] at q; cases q
  refine ⟨yb8 F j fp', ⟨⟨fun a o ha hk hn => ?_, fun a ha => s1.grow a (k2 a ha)⟩, fun i a ha => ?_, ⟨fun i d2 hi => ?_, fun i a ha => ?_, fun i k a ha hk => ?_, fun i => ?_, fun i a ha kk hB => ?_, fun kk a hB z => R.bt kk a hB (s1.grow a (k2 a z)), by simpa using R.len⟩, fun _ _ => rfl⟩, ⟨fun a ha => ?_, kd2, fun i a ha hr => ?_⟩⟩
  . exact k1 a o (s1.keep a o ha hk) hk fun hm => hn j (inF a (.inl hm))
  . rcases zt4 ha with z | z
    . rcases memfp a z with z | z
      . exact (k5 a (List.mem_append_left _ z)).elim (fun z => .inl ⟨j, inF a (.inl z)⟩) .inr
      . exact .inl ⟨j, inF a (.inr z)⟩
    . exact .inl ⟨i, z⟩
  . by_cases e : i = j
    . subst e
      rw [List.getElem?_set_self lt] at hi
      cases hi
      exact ⟨v0, fp', ev, r1, fun _ => zi5.symm, fun z => by rw [hb] at z; cases z⟩
    . rw [List.getElem?_set_ne (fun z => e z.symm)] at hi
      obtain ⟨v2, f2, q1, q2, q3, q4⟩ := R.rep i d2 hi
      refine ⟨v2, f2, q1, (q2.same s1).move tfk fun a ha => ?_, fun z => by rw [zi6 e]; exact q3 z, q4⟩
      obtain ⟨o, w1, w2, _⟩ := q2.own a ha
      have w3 := s1.keep a o w1 w2
      rw [w3]
      refine k1 a o w3 w2 fun hm => ?_
      have hF := inF a (.inl hm)
      cases hbi : φ.bor i with
      | true => exact R.nb j a hF i (q4 hbi a ha)
      | false => rw [q3 hbi] at ha; exact e (R.dis i j a ha hF)
  . by_cases e : i = j
    . subst e; exact ⟨hb, d0', by rw [List.getElem?_set_self lt]⟩
    . rw [zi6 e] at ha
      obtain ⟨b1, d1, b2⟩ := R.emp i a ha
      exact ⟨b1, d1, by rw [List.getElem?_set_ne (fun z => e z.symm)]; exact b2⟩
  . have hh : ∀ a, a ∈ fp' -> ∀ i, i ≠ j -> a ∈ F i -> False := fun a ha i hij hi => by
      rcases memfp a ha with z | z
      . exact hij (R.dis i j a hi (inF a (.inl (old a (List.mem_append_left _ z) i hi))))
      . exact hij (R.dis i j a hi (inF a (.inr z)))
    by_cases e1 : i = j
    . by_cases e2 : k = j
      . rw [e1, e2]
      . subst e1; rw [zi5] at ha; rw [zi6 e2] at hk; exact (hh a ha k e2 hk).elim
    . by_cases e2 : k = j
      . subst e2; rw [zi5] at hk; rw [zi6 e1] at ha; exact (hh a hk i e1 ha).elim
      . rw [zi6 e1] at ha; rw [zi6 e2] at hk; exact R.dis i k a ha hk
  . by_cases e : i = j
    . subst e
      rw [zi5]
      refine r2.nodup_iff.mpr (List.nodup_append.mpr ⟨kd1, nd2, fun a ha b hb' e => ?_⟩)
      subst e
      exact notfd a hb' (old a (List.mem_append_left _ ha) i (inF a (.inr hb')))
    . rw [zi6 e]; exact R.nd i
  . rcases zt4 ha with z | z
    . rcases memfp a z with z | z
      . exact R.notB ((k5 a (List.mem_append_left _ z)).elim (fun z => .inl ⟨j, inF a (.inl z)⟩) .inr) kk hB
      . exact R.nb j a (inF a (.inr z)) kk hB
    . exact R.nb i a z kk hB
  . exact (k5 a (List.mem_append_right _ ha)).elim (fun z => .inl ⟨j, inF a (.inl z)⟩) .inr
  . rcases zt4 ha with z | z
    . rcases memfp a z with z | z
      . exact kd3 a z a hr rfl
      . exact notfd a z (old a (List.mem_append_right _ hr) j (inF a (.inr z)))
    . have := old a (List.mem_append_right _ hr) i z
      by_cases e : i = j
      . subst e
        rw [zi5] at ha
        rcases memfp a ha with w | w
        . exact kd3 a w a hr rfl
        . exact notfd a w this
      . exact e (R.dis i j a z (inF a (.inl this)))
end L2
namespace L2
open PySem PySem.Spec PyProof.Rows
noncomputable def zq9 (K : PySem.W.Frag) (κ : Str -> Addr) (j : Nat) (pf : PSt -> Option (List Ps1)) : TE := fun σ H Q => ∃ ps p d0 d, WS K κ H σ ps /\ ps[j]? = some (some d0) /\ pf ps = some p /\ zd8 d0 p = some d /\ ∀ v H' v0, SameK H H' -> σ[j]? = some (some v0) -> At H' v0 p v -> Q v H'
theorem yz3 {K : PySem.W.Frag} {κ : Str -> Addr} {H : Hp} {v0 v : V} {d0 d : D} {fp : List Addr} {p : List Ps1} (R : Rep K κ H v0 d0 fp) (g : zd8 d0 p = some d) (a : At H v0 p v) : ∃ fd, Rep K κ H v d fd := by
  have key : ∀ {p : List Ps1} {v0 v : V} {d0 d : D} {fp : List Addr}, Rep K κ H v0 d0 fp -> zd8 d0 p = some d -> At H v0 p v -> ∃ fd, Rep K κ H v d fd := by
    intro p
    induction p with
    | nil => intro v0 v d0 d fp R g a; cases g; cases (show v = v0 from a); exact ⟨fp, R⟩
    | cons s p ih =>
      intro v0 v d0 d fp R g a
      cases s with
      | ix n =>
        obtain ⟨b, vs, v1, e1, e2, e3, e4⟩ := a
        subst e1
        obtain ⟨xs, d1, rfl, h1, h2⟩ := yr8 g
        obtain ⟨_, _, _, e5, hb, hs, _⟩ := R.lstT_inv
        cases e5
        rw [e2] at hb; cases hb
        obtain ⟨v', f, q1, q2, _⟩ := hs.get h1
        rw [e3] at q1; cases q1
        exact ih q2 h2 e4
      | fld f =>
        obtain ⟨b, C, dx, fs, n, v1, e1, e2, e2', e3, e4⟩ := a
        subst e1
        obtain ⟨C', ns, xs, n', d1, rfl, h0, h1, h2⟩ := yl9 g
        obtain ⟨_, _, _, _, e5, hb, hn, hs, _⟩ := R.objT_inv
        cases e5
        rw [e2] at hb; cases hb
        subst hn
        rw [e2'] at h0; cases h0
        obtain ⟨v', f, q1, q2, _⟩ := hs.get h1
        rw [e3] at q1; cases q1
        exact ih q2 h2 e4
  exact key R g a
noncomputable def zb5 : PSt -> Option (List Ps1) := fun _ => some []
noncomputable def xc9 (j : Nat) (pf : PSt -> Option (List Ps1)) (fb : PSt -> Option D) : PSt -> Option (List Ps1) := fun ps => (pf ps).bind fun p => ((ps[j]?).join).bind fun d0 => (zd8 d0 p).bind fun d => (fb ps).bind fun y => match d, y with
  | .lst true xs, .int i => (ixN xs.length i).bind fun n => some (p ++ [.ix n])
  | _, _ => none
noncomputable def zl2 (j : Nat) (pf : PSt -> Option (List Ps1)) (C f : Str) : PSt -> Option (List Ps1) := fun ps => (pf ps).bind fun p => ((ps[j]?).join).bind fun d0 => (zd8 d0 p).bind fun d => match d with
  | .obj true C' _ _ => if C' = C then some (p ++ [.fld f]) else none
  | _ => none
theorem zz4 : ∀ {fs : List (Str × V)} {f : Str} {n : Nat} {v : V}, zc2 (fs.map (·.1)) f = some n -> (fs.map (·.2))[n]? = some v -> fs.lookup f = some v
  | [], _, _, _, h, _ => by cases h
  | (g, u) :: fs, f, n, v, h, hv => by
    rw [List.map_cons, zc2] at h
    by_cases e : g = f
    . rw [if_pos e] at h
      cases h
      rw [List.lookup_cons]
      have : (f == g) = true := by simp [e]
      rw [this]
      simpa using hv
    . rw [if_neg e] at h
      cases q : zc2 (fs.map (·.1)) f with
      | none => rw [q] at h; cases h
      | some m =>
        rw [q] at h; cases h
        rw [List.lookup_cons]
        have : (f == g) = false := by simp; exact fun z => e z.symm
        rw [this]
        exact zz4 q (by simpa using hv)
section
variable {X : Cx} {φ : F0} {κ : Str -> Addr} {K : PySem.W.Frag} {o e a b : Expr} {f fb fe : PSt -> Option D} {g : PSt -> Option (List D)} {pf : PSt -> Option (List Ps1)} {j : Nat} {pos apos : Pos}
theorem ze4 (j : Nat) {x : Str} (hN : X.N[j]? = some x := by rfl) (hv : Vis X.env.scope x := by first | exact Or.inl rfl | exact Or.inr (Or.inl rfl) | exact Or.inr (Or.inr rfl)) (hd : (x == ("__debug__" : Str)) = false := by decide)
    (hcd : (x == ("__classdict__" : Str)) = false := by decide) : PE X (.Name x pos) (zq9 K κ j zb5) := (yf8 hN hv hd hcd).imp fun σ H Q hh_ => by
  obtain ⟨ps, p, d0, d, w, e0, ep, eg, q⟩ := hh_
  cases ep
  obtain ⟨v, fp, h1, h2⟩ := w j d0 e0
  exact ⟨v, h1, q v H v (.refl H) h1 rfl⟩
theorem yg4 {C fn : Str} (hc : Cls X.K (κ C)) (hna : zd6 X.K (κ C) fn) (ha : PE X a (zq9 X.K κ j pf)) (hb : attributeBase a fn X.env (eval a X.env) = eval a X.env := by rfl) : PE X (.Attribute a fn pos) (zq9 X.K κ j (zl2 j pf C fn)) :=
  (wb6 ha hb).imp fun σ H Q hh_ => by
    obtain ⟨ps, p, d0, d, w, e0, ep, eg, q⟩ := hh_
    obtain ⟨p1, e1, e2⟩ := bind_some ep
    obtain ⟨d0', e3, e4⟩ := bind_some e2
    have := zp2 e3
    rw [e0] at this; cases this
    obtain ⟨d1, e5, e6⟩ := bind_some e4
    split at e6
    . rename_i C' ns xs
      obtain ⟨hC, e7⟩ := ze5 e6
      subst hC
      cases e7
      refine ⟨ps, p1, d0, _, w, e0, e1, e5, fun v H1 v0 s1 ev a1 => ?_⟩
      obtain ⟨v0', fp, h1, h2⟩ := w j d0 e0
      rw [ev] at h1; cases h1
      obtain ⟨fd, rd⟩ := yz3 (h2.same s1) e5 a1
      have key : ∀ {p : List Ps1} {d0 : D}, zd8 d0 p = some (.obj true C' ns xs) -> zd8 d0 (p ++ [.fld fn]) = some d -> ∃ n d', zc2 ns fn = some n /\ xs[n]? = some d' := by
        intro p
        induction p with
        | nil =>
          intro d0 h1 h2
          cases h1
          obtain ⟨n, k1, k2⟩ := bind_some h2
          obtain ⟨d', k3, _⟩ := bind_some k2
          exact ⟨n, d', k1, k3⟩
        | cons s p ih =>
          intro d0 h1 h2
          cases s with
          | ix m =>
            obtain ⟨ys, x1, rfl, k1, k2⟩ := yr8 h1
            obtain ⟨_, x2, z, k3, k4⟩ := yr8 h2
            cases z
            rw [k1] at k3; cases k3
            exact ih k2 k4
          | fld f' =>
            obtain ⟨C2, ns2, ys, m1, x1, rfl, k0, k1, k2⟩ := yl9 h1
            obtain ⟨_, _, _, m2, x2, z, k5, k3, k4⟩ := yl9 h2
            cases z
            rw [k0] at k5; cases k5
            rw [k1] at k3; cases k3
            exact ih k2 k4
      obtain ⟨n, d', k1, k2⟩ := key e5 eg
      obtain ⟨l, dx, fs, g, rfl, hl, hn, hr, _⟩ := rd.objT_inv
      subst hn
      obtain ⟨v1, f1, k3, _⟩ := hr.get k2
      exact ⟨l, κ C', dx, fs, v1, rfl, hl, hc, hna, zz4 k1 k3, q _ H1 v0 s1 ev (At.snoc_fld hl k1 k3 a1)⟩
    . cases e6
noncomputable def zc9 (j : Nat) (pf : PSt -> Option (List Ps1)) (g : PSt -> Option (List D)) (h : List D -> D -> Option (D × D)) : PSt -> Option (D × PSt) := fun ps => ((ps[j]?).join).bind fun d0 => (pf ps).bind fun p => (g ps).bind fun ys => (zd7 (h ys) d0 p).bind fun r => some (r.1, ps.set j (some r.2))
theorem yv1 {h : List D -> D -> Option (D × D)} {ps ps' : PSt} {d : D} (e : zc9 j pf g h ps = some (d, ps')) : ∃ d0 p ys d0', ps[j]? = some (some d0) /\ pf ps = some p /\ g ps = some ys /\ zd7 (h ys) d0 p = some (d, d0') /\ ps' = ps.set j (some d0') := by
  obtain ⟨d0, e1, e2⟩ := bind_some e
  obtain ⟨p, e3, e4⟩ := bind_some e2
  obtain ⟨ys, e5, e6⟩ := bind_some e4
  obtain ⟨⟨r, d0'⟩, e7, e8⟩ := bind_some e6
  cases e8
  exact ⟨d0, p, ys, d0', zp2 e1, e3, e5, e7, rfl⟩
noncomputable def ze3 : List D -> D -> Option (D × D)
  | [y], .lst true xs => if xs.length < sizeLine then some (.non, .lst true (xs ++ [y])) else none
  | _, _ => none
theorem yg5 {ys : List D} {d r d' : D} (h : ze3 ys d = some (r, d')) : ∃ y xs, ys = [y] /\ d = .lst true xs /\ xs.length < sizeLine /\ r = .non /\ d' = .lst true (xs ++ [y]) := by
  unfold ze3 at h
  split at h
  . obtain ⟨hc, e⟩ := ze5 h
    cases e
    exact ⟨_, _, rfl, rfl, hc, rfl, rfl⟩
  . cases h
theorem xf9 {H H1 : Hp} {σ : St} {ps : PSt} {d0 d : D} {v0 v : V} {p : List Ps1} (w : WS K κ H σ ps) (s1 : SameK H H1) (e0 : ps[j]? = some (some d0)) (ev : σ[j]? = some (some v0)) (g : zd8 d0 p = some d) (a : At H1 v0 p v) : ∃ fd, Rep K κ H1 v d fd := by
  obtain ⟨v0', fp, h1, h2⟩ := w j d0 e0
  rw [ev] at h1; cases h1
  exact yz3 (h2.same s1) g a
theorem zx0 (hb : φ.bor j = false) (ho : PE X o (zq9 X.K κ j pf)) (ha : PA X [e] (tPA X.K κ g))
    (hbase : attributeBase o "append" X.env (eval o X.env) = eval o X.env := by rfl)
    (hfew : ((backTo pos (starEach [e] X.env)).all (fun x => !x.1) && (backToKw pos (keywordEach [] X.env)).all (fun x => x.1.isSome)
      && decide ([e].length + ([] : List Keyword).length + (if ([] : List Keyword).isEmpty then 0 else 1) < 30)) = true := by rfl)
    (hline : (apos.endLine == pos.line) = true := by rfl) (hs : starEach [e] X.env = (false, eval e X.env) :: starEach [] X.env := by rfl) (hplain : (backTo pos (starEach [] X.env)).any (·.1) = false := by rfl) :
    QE X κ φ (.Call (.Attribute o "append" apos) [e] [] pos) (zc9 j pf g ze3) :=
  (xv3 PySem.F.plainAttrs_list PySem.F.slot_list_append PySem.F.type_list_append yu6 ho ha hbase hfew hline hs hplain).imp fun σ H Q hh_ => by
    obtain ⟨ps, F, d, ps', R, e, q⟩ := hh_
    obtain ⟨d0, p, ys, d0', e0, ep, eg, em, rfl⟩ := yv1 e
    obtain ⟨dd, dn, gp, hh⟩ := zz3 em
    refine ⟨ps, p, d0, dd, R.ws, e0, ep, gp, fun v H1 v0 s1 ev a1 => ⟨?_, ps, ys, R.ws.same s1, eg, fun vs H2 fy s2 n2 nd2 r2 => ?_⟩⟩
    . obtain ⟨y, xs, rfl, rfl, _⟩ := yg5 hh
      obtain ⟨fd, rd⟩ := xf9 R.ws s1 e0 ev gp a1
      obtain ⟨_, _, _, rfl, hl, hr, rfl⟩ := rd.lstT_inv
      exact .inl ⟨rfl, _, .inl (.inl hl)⟩
    . obtain ⟨d1, d1', fd, m1, m2, m3, m4, m5⟩ := yo8 R (s1.trans s2) hb e0 ev em (a1.same s2)
      obtain ⟨y, xs, rfl, rfl, hz, rfl, rfl⟩ := yg5 m2
      obtain ⟨u, rfl, ru⟩ := r2.one_inv
      obtain ⟨l, us, g1, rfl, hl, hr, rfl⟩ := m1.lstT_inv
      have ln := hr.length
      refine ⟨l, us, u, rfl, rfl, hl, by omega, ?_⟩
      have nl : l ∉ fy := fun z => by have := n2 l z; have := s1.keep l; obtain ⟨o, h1, h2, _⟩ := R.own (m4 l List.mem_cons_self); have := s1.keep l o h1 h2; rw [n2 l z] at this; cases this
      obtain ⟨nl2, nd3⟩ := List.nodup_cons.mp m3
      have up : ∀ a, a ≠ l -> upd H2 l (.lst (us ++ [u])) a = H2 a := fun a h => zd4 h
      have tfk : ∀ a o, H2 a = some o -> tf o = true -> upd H2 l (.lst (us ++ [u])) a = some o := fun a o h t => by
        rw [up a]
        . exact h
        . rintro rfl; rw [hl] at h; cases h; cases t
      obtain ⟨F', st, ow⟩ := m5 (upd H2 l (.lst (us ++ [u]))) (l :: (g1 ++ fy)) [] (fun a o h _ hn => by rw [up a (fun z => hn (z ▸ List.mem_cons_self))]; exact h)
        (fun a h => by
          by_cases z : a = l
          . subst z; rw [zh0] at h; cases h
          . rw [up a z] at h; exact h)
        (.lst zh0 (Reps.append (hr.move tfk fun a ha => up a fun z => nl2 (z ▸ ha)) (Reps.one (ru.move tfk fun a ha => up a fun z => nl (z ▸ ha)))))
        (by
          rw [List.append_nil, List.nodup_cons, List.nodup_append]
          refine ⟨fun z => (List.mem_append.mp z).elim nl2 nl, nd3, nd2, fun a ha b hb e => ?_⟩
          subst e
          obtain ⟨o, h1, h2, _⟩ := R.own (m4 a (List.mem_cons_of_mem _ ha))
          have := s1.keep a o h1 h2
          rw [n2 a hb] at this; cases this)
        (fun a ha => by
          rw [List.append_nil] at ha
          rcases List.mem_cons.mp ha with z | z
          . exact .inl (z ▸ List.mem_cons_self)
          . rcases List.mem_append.mp z with z | z
            . exact .inl (List.mem_cons_of_mem _ z)
            . exact .inr (s1.grow a (n2 a z)))
      exact q .non _ F' [] st ow .non
end
end L2
namespace L2
open PySem PySem.Spec PyProof.Rows
section
variable {K : PySem.W.Frag} {κ : Str -> Addr} {H : Hp} {l : Addr} {o0 o : HO}
theorem xo2 (hl : H l = some o0) (ht : tf o0 = false) : ∀ a u, H a = some u -> tf u = true -> upd H l o a = some u := fun a u h t => by
  rw [zd4]
  . exact h
  . rintro rfl; rw [hl] at h; cases h; rw [ht] at t; cases t
theorem Rep.updL {v : V} {d : D} {g : List Addr} (r : Rep K κ H v d g) (hl : H l = some o0) (ht : tf o0 = false) (n : l ∉ g) : Rep K κ (upd H l o) v d g := r.move (xo2 hl ht) fun a ha => zd4 fun z => n (z ▸ ha)
theorem Reps.updL {v : List V} {d : List D} {g : List Addr} (r : Reps K κ H v d g) (hl : H l = some o0) (ht : tf o0 = false) (n : l ∉ g) : Reps K κ (upd H l o) v d g := r.move (xo2 hl ht) fun a ha => zd4 fun z => n (z ▸ ha)
theorem yz4 {a : Addr} {u : HO} {g : List Addr} (h : H a = some u) (n : a ∉ l :: g) : upd H l o a = some u := by
  rw [zd4 (fun z => n (by rw [z]; exact List.mem_cons_self))]; exact h
theorem yz5 {a : Addr} (h : upd H l o a = none) : H a = none := by
  by_cases z : a = l
  . subst z; rw [zh0] at h; cases h
  . rw [zd4 z] at h; exact h
theorem Reps.setV : ∀ {vs : List V} {ds : List D} {g : List Addr} {n : Nat} {v' : V} {d' : D} {f' : List Addr}, Reps K κ H vs ds g -> n < ds.length -> Rep K κ H v' d' f' -> ∃ f1 zb1 g', g.Perm (f1 ++ zb1) /\ Reps K κ H (vs.set n v') (ds.set n d') g' /\ g'.Perm (f' ++ zb1)
  | _, _, _, _, _, _, _, .nil, e, _ => by simp at e
  | _, _, _, 0, _, _, f', .cons (f := f) (g := g) h hs, _, r => ⟨f, g, f' ++ g, .refl _, .cons r hs, .refl _⟩
  | _, _, _, n + 1, _, _, f', .cons (f := f) (g := g) h hs, e, r => by
    obtain ⟨f1, zb1, g', h1, h2, h3⟩ := Reps.setV (n := n) hs (by simpa using e) r
    refine ⟨f1, f ++ zb1, f ++ g', ?_, .cons h h2, ?_⟩
    . refine (h1.append_left f).trans ?_
      rw [<- List.append_assoc, <- List.append_assoc]
      exact List.perm_append_comm.append_right zb1
    . refine (h3.append_left f).trans ?_
      rw [<- List.append_assoc, <- List.append_assoc]
      exact List.perm_append_comm.append_right zb1
end
section
variable {X : Cx} {φ : F0} {κ : Str -> Addr} {K : PySem.W.Frag} {o e a b : Expr} {f fi fe : PSt -> Option D} {g : PSt -> Option (List D)} {pf : PSt -> Option (List Ps1)} {j : Nat} {pos apos : Pos}
noncomputable def yh5 : D -> D -> D -> Option (Unit × D)
  | .int i, y, .lst true xs => (ixN xs.length i).bind fun n => some ((), .lst true (xs.set n y))
  | _, _, _ => none
noncomputable def zx2 (j : Nat) (pf : PSt -> Option (List Ps1)) (fi fe : PSt -> Option D) : PSt -> Option (Fl × PSt) := fun ps => (fe ps).bind fun y => ((ps[j]?).join).bind fun d0 => (pf ps).bind fun p => (fi ps).bind fun i => (zd7 (yh5 i y) d0 p).bind fun r => some (.nx, ps.set j (some r.2))
theorem xd8 {i y d d' : D} {r : Unit} (h : yh5 i y d = some (r, d')) : ∃ k xs n, i = .int k /\ d = .lst true xs /\ ixN xs.length k = some n /\ d' = .lst true (xs.set n y) := by
  unfold yh5 at h
  split at h
  . obtain ⟨n, h1, h2⟩ := bind_some h
    cases h2
    exact ⟨_, _, n, rfl, rfl, h1, rfl⟩
  . cases h
theorem yd7 {i : Expr} (hb : φ.bor j = false) (he : PE X e (tP X.K κ fe)) (ho : PE X o (zq9 X.K κ j pf)) (hi : PE X i (tV X.K κ fi)) (hs : swapsWithSole [.Subscript o i apos] e pos.line X.env = pure false := by rfl) (hw : swappedStores [.Subscript o i apos] e X.env = pure none := by rfl)
    (h1 : (assignEach [.Subscript o i apos] X.env).map (·.2) = [assign (.Subscript o i apos) X.env] := by rfl)
    (ha : ∀ v, assign (.Subscript o i apos) X.env v = (do
      let ov <- holding [v] (eval o X.env)
      let iv <- holding [v, ov] (eval i X.env)
      standAt apos
      holding [v, ov, iv] (setItem ov iv v)
      release [v, ov, iv] []) := by intro _; rfl) : QS X κ φ (.Assign [.Subscript o i apos] e pos) (zx2 j pf fi fe) :=
  (wb0 he (wa9 ho hi xr6 ha) hs hw h1).imp fun E σ H hh_ => by
    obtain ⟨ps, F, fl, ps', R, e, q⟩ := hh_
    obtain ⟨y, e1, e2⟩ := bind_some e
    obtain ⟨d0, e3, e4⟩ := bind_some e2
    have e0 := zp2 e3
    obtain ⟨p, e5, e6⟩ := bind_some e4
    obtain ⟨iv, e7, e8⟩ := bind_some e6
    obtain ⟨⟨r, d0'⟩, em, e9⟩ := bind_some e8
    cases e9
    obtain ⟨dd, dn, gp, hh⟩ := zz3 em
    refine ⟨ps, y, R.ws, e1, fun v H1 fy s1 n1 nd1 ry => ⟨ps, p, d0, dd, R.ws.same s1, e0, e5, gp, fun lv H2 v0 s2 ev a2 => ⟨ps, iv, (R.ws.same s1).same s2, e7, fun u H3 fu s3 r3 => ?_⟩⟩⟩
    have s13 := (s1.trans s2).trans s3
    obtain ⟨d1, d1', fd, m1, m2, m3, m4, m5⟩ := yo8 R s13 hb e0 ev em (a2.same s3)
    obtain ⟨k, xs, n, rfl, rfl, hn, rfl⟩ := xd8 m2
    obtain ⟨l, us, g1, rfl, hl, hr, rfl⟩ := m1.lstT_inv
    have ln := hr.length
    have ry3 := (ry.same s2).same s3
    obtain ⟨nl, nd3⟩ := List.nodup_cons.mp m3
    have own0 : ∀ a ∈ l :: g1, H a ≠ none := fun a ha z => by obtain ⟨o, h, _⟩ := R.own (m4 a ha); rw [z] at h; cases h
    have nl2 : l ∉ fy := fun z => own0 l List.mem_cons_self (n1 l z)
    obtain ⟨f1, zb1, g2, k1, k2, k3⟩ := hr.setV (n := n) (yr3 hn).2.1 ry3
    have mem2 : ∀ a ∈ g2, a ∈ fy \/ a ∈ g1 := fun a ha => (List.mem_append.mp (k3.mem_iff.mp ha)).elim .inl fun z => .inr (k1.mem_iff.mpr (List.mem_append_right _ z))
    have n2 : l ∉ g2 := fun z => (mem2 l z).elim nl2 nl
    refine ⟨l, us, k, n, rfl, r3.is_int, hl, by rw [ln]; exact hn, ?_⟩
    obtain ⟨F', st, ow⟩ := m5 (upd H3 l (.lst (us.set n v))) (l :: g2) [] (fun a o h _ hn => yz4 h hn)
      (fun a h => yz5 h)
      (.lst zh0 (k2.updL hl rfl n2))
      (by
        rw [List.append_nil, List.nodup_cons]
        refine ⟨n2, k3.nodup_iff.mpr (List.nodup_append.mpr ⟨nd1, ?_, fun a ha b hb e => ?_⟩)⟩
        . exact (List.nodup_append.mp (k1.nodup_iff.mp nd3)).2.1
        . subst e
          exact own0 a (List.mem_cons_of_mem _ (k1.mem_iff.mpr (List.mem_append_right _ hb))) (n1 a ha))
      (fun a ha => by
        rw [List.append_nil] at ha
        rcases List.mem_cons.mp ha with z | z
        . exact .inl (by rw [z]; exact List.mem_cons_self)
        . exact (mem2 a z).elim (fun z => .inr (n1 a z)) fun z => .inl (List.mem_cons_of_mem _ z))
    exact q _ _ F' st
end
end L2
namespace L2
open PySem PySem.Spec PyProof.Rows
noncomputable def D.key : D -> Option Key
  | .int i => some (.inl i)
  | .str x => some (.inr x)
  | _ => none
end L2
namespace L2
open PySem PySem.Spec PyProof.Rows
noncomputable def fxE (K : PySem.W.Frag) (κ : Str -> Addr) (np : Nat) (m : Nat -> Bool) : Fx := ⟨K, κ, fun i => decide (i < np) && !m i, m, fun _ _ => False⟩
noncomputable def f0E (np : Nat) (m : Nat -> Bool) : F0 := ⟨fun i => decide (i < np) && !m i, m, fun _ _ => False⟩
noncomputable def SpE (np : Nat) (K : PySem.W.Frag) (κ : Str -> Addr) (m : Nat -> Bool) (g : List D -> Option (D × List D)) : Sp := fun vs H Q _ => vs.length = np /\ ∃ ds r ds' F, ds.length = np /\ RS (fxE K κ np m) H (vs.map some) (ds.map some) F /\ g ds = some (r, ds') /\
  ∀ v H' F' fv, Stp (fxE K κ np m) (vs.map some) H F (vs.map some) H' (ds'.map some) F' -> OwnV F H F' fv -> Rep K κ H' v r fv -> Q v H'
noncomputable def zm6 (m : Nat -> Bool) (ps : PSt) : Nat -> List D -> Option (List D)
  | _, [] => some []
  | i, d :: ds => (if m i = true then (ps[i]?).join else some d).bind fun d' => (zm6 m ps (i + 1) ds).bind fun ds' => some (d' :: ds')
theorem yv2 {m : Nat -> Bool} {ps : PSt} : ∀ {ds ds' : List D} {i : Nat}, zm6 m ps i ds = some ds' -> ds'.length = ds.length /\ ∀ (k : Nat) (d' : D), ds'[k]? = some d' -> (m (i + k) = true -> ps[i + k]? = some (some d')) /\ (m (i + k) = false -> ds[k]? = some d')
  | [], _, _, e => by cases e; exact ⟨rfl, fun k d' h => by simp at h⟩
  | d :: ds, _, i, e => by
    obtain ⟨d1, e1, e2⟩ := bind_some e
    obtain ⟨ds1, e3, e4⟩ := bind_some e2
    cases e4
    obtain ⟨l, h⟩ := yv2 e3
    refine ⟨by simp [l], fun k d' hk => ?_⟩
    cases k with
    | zero =>
      simp at hk; subst hk
      refine ⟨fun z => ?_, fun z => ?_⟩
      . rw [Nat.add_zero] at z |-; rw [if_pos z] at e1; exact zp2 e1
      . rw [Nat.add_zero] at z; rw [if_neg (by rw [z]; simp)] at e1; simpa using e1
    | succ k =>
      obtain ⟨h1, h2⟩ := h k d' (by simpa using hk)
      have ea : i + (k + 1) = i + 1 + k := by omega
      rw [ea]
      exact ⟨h1, fun z => by simpa using h2 z⟩
noncomputable def gE (np n : Nat) (m : Nat -> Bool) (f : PSt -> Option (Fl × PSt)) : List D -> Option (D × List D) := fun ds => if ds.length = np then (f (ds.map some ++ List.replicate n none)).bind fun r => match r with
  | (.ret d, ps) => (zm6 m ps 0 ds).bind fun ds' => some (d, ds')
  | (.nx, ps) => (zm6 m ps 0 ds).bind fun ds' => some (.non, ds')
  | _ => none
  else none
theorem RS.more {φ : Fx} {H : Hp} {σ σ2 : St} {ps : PSt} {F : Nat -> List Addr} {n : Nat} (R : RS φ H σ ps F) (hl : ps.length = σ.length) (h2 : n <= σ2.length) : RS φ H (σ ++ σ2) (ps ++ List.replicate n none) F := by
  refine ⟨fun i d h => ?_, fun i a h => ?_, R.dis, R.nd, R.nb, R.bt, by simp [hl]; omega⟩
  . by_cases hi : i < ps.length
    . rw [List.getElem?_append_left hi] at h
      rw [List.getElem?_append_left (by omega)]
      exact R.rep i d h
    . rw [List.getElem?_append_right (by omega), List.getElem?_replicate] at h
      split at h <;> cases h
  . obtain ⟨b, d, e⟩ := R.emp i a h
    have hi := (List.getElem?_eq_some_iff.mp e).1
    exact ⟨b, d, by rw [List.getElem?_append_left hi]; exact e⟩
theorem yz6 {K : PySem.W.Frag} {κ : Str -> Addr} {np n : Nat} {m : Nat -> Bool} {H H' : Hp} {vs : List V} {σ2 σ' : St} {ds ds' : List D} {ps' : PSt} {F F' : Nat -> List Addr} {fv : List Addr} (hm : ∀ i, m i = true -> i < np) (hl : vs.length = np) (hd : ds.length = np) (R : RS (fxE K κ np m) H (vs.map some) (ds.map some) F)
    (s : Stp (fxE K κ np m) (vs.map some ++ σ2) H F σ' H' ps' F') (o : OwnV F H F' fv) (e : zm6 m ps' 0 ds = some ds') :
    ∃ F2, Stp (fxE K κ np m) (vs.map some) H F (vs.map some) H' (ds'.map some) F2 /\ OwnV F H F2 fv := by
  obtain ⟨l, ho⟩ := yv2 e
  have sub : ∀ i a, a ∈ (if m i = true then F' i else []) -> m i = true /\ a ∈ F' i := fun i a h => by
    by_cases z : m i = true
    . rw [if_pos z] at h; exact ⟨z, h⟩
    . rw [if_neg z] at h; exact absurd h (by simp)
  have tfk : ∀ a u, H a = some u -> tf u = true -> H' a = some u := fun a u h t => s.fr.keep a u h (zv3 t) fun i hi => by
    obtain ⟨u', h', _, t'⟩ := R.own hi
    rw [h] at h'; cases h'; rw [t] at t'; cases t'
  have mb : ∀ i, m i = true -> (fxE K κ np m).bor i = false := fun i h => by simp [fxE, h]
  refine ⟨fun i => if m i = true then F' i else [], ⟨s.fr, fun i a h => s.nw i a (sub i a h).2, ⟨fun i d h => ?_, fun i a h => ?_, fun i j a h1 h2 => s.rs.dis i j a (sub i a h1).2 (sub j a h2).2, fun i => ?_, fun i a h => s.rs.nb i a (sub i a h).2, fun _ a h => h.elim, by simp [l, hl, hd]⟩, fun _ _ => rfl⟩, ⟨o.nw, o.nd, fun i a h => o.dis i a (sub i a h).2⟩⟩
  . rw [List.getElem?_map] at h
    cases q : ds'[i]? with
    | none => rw [q] at h; cases h
    | some d1 =>
      rw [q] at h; cases h
      obtain ⟨h1, h2⟩ := ho i d q
      rw [Nat.zero_add] at h1 h2
      by_cases z : m i = true
      . obtain ⟨v, fp, k1, k2, k3, _⟩ := s.rs.rep i d (h1 z)
        refine ⟨v, fp, ?_, k2, fun _ => by rw [if_pos z]; exact k3 (mb i z), fun w => by rw [mb i z] at w; cases w⟩
        rw [<- k1]
        have := s.msk i z
        rw [this, List.getElem?_append_left (by simp [hl]; exact hm i z)]
      . have zf : m i = false := by simpa using z
        have hi : (ds.map some)[i]? = some (some d) := by rw [List.getElem?_map, h2 zf]; rfl
        have hib : (fxE K κ np m).bor i = true := by
          have := (List.getElem?_eq_some_iff.mp (h2 zf)).1
          simp [fxE, zf]; omega
        obtain ⟨v, fp, k1, k2, _, k4⟩ := R.rep i d hi
        have efp : fp = [] := by
          cases fp with
          | nil => rfl
          | cons a r => exact (k4 hib a List.mem_cons_self).elim
        subst efp
        exact ⟨v, [], k1, k2.move tfk (fun a ha => absurd ha (by simp)), (fun w => by rw [hib] at w; cases w), (fun _ a ha => absurd ha (by simp))⟩
  . obtain ⟨z, h⟩ := sub i a h
    refine ⟨mb i z, ?_⟩
    have hi : i < ds'.length := by rw [l, hd]; exact hm i z
    exact ⟨ds'[i], by rw [List.getElem?_map, List.getElem?_eq_getElem hi]; rfl⟩
  . by_cases z : m i = true
    . rw [if_pos z]; exact s.rs.nd i
    . rw [if_neg z]; exact List.nodup_nil
section
variable {P : Program} {w : World} {K : PySem.W.Frag} {mg : Str -> Option Value} {base : Heap} {κ : Str -> Addr}
theorem ya7 {x qual : Str} {st : Stmt} {f : Addr} {fd : FuncData} {N ps : List Str} {k : Nat} {fb : PSt -> Option (Fl × PSt)} {m : Nat -> Bool} (F : Fun K x qual st f fd) (S : FnScope N ps (za4 st)) (hm : ∀ i, m i = true -> i < ps.length)
    (hbody : ∀ (cdv : Value) (A : Around) (outer : List Env) (s : Shared) (H : Hp) (E : XK), Room k (A.deeper (envOfC qual (za4 st) s.heap.objs.size f cdv)) ->
      QSs (zk9 CX0 P w K mg base N qual (za4 st) f cdv A outer s H E).nox κ (f0E ps.length m) (zd1 st) fb) :
    FnOk P w K mg base CX0 (k + 1) f fd ps (SpE ps.length K κ m (gE ps.length (N.length - ps.length) m fb)) := by
  refine F.ok S (fun vs H Q E h => h.1) fun cdv A outer s H vs Q E hr ⟨hl, ds, r, ds', F0, hd, R, e, q⟩ => ⟨_, hbody cdv A outer s H E hr, ?_⟩
  have hn : ps.length <= N.length := by have := congrArg List.length S.pre; rw [List.length_take] at this; omega
  unfold gE at e
  obtain ⟨_, e0⟩ := ze5 e
  obtain ⟨⟨fl, ps'⟩, e1, e2⟩ := bind_some e0
  have R0 := R.more (σ2 := List.replicate (N.length - vs.length) none) (n := N.length - ps.length) (by simp [hl, hd]) (by simp [hl])
  refine ⟨_, F0, fl, ps', R0, e1, ?_⟩
  cases fl with
  | ret d' =>
    obtain ⟨ds1, e3, e4⟩ := bind_some e2
    cases e4
    exact fun v σ' H' F' fv s o rv => by
      obtain ⟨F2, s2, o2⟩ := yz6 (n := 0) hm hl hd R s o e3
      exact q v H' F2 fv s2 o2 rv
  | nx =>
    obtain ⟨ds1, e3, e4⟩ := bind_some e2
    cases e4
    exact fun σ' H' F' s => by
      obtain ⟨F2, s2, o2⟩ := yz6 (n := 0) (fv := []) hm hl hd R s ⟨fun _ h => absurd h (by simp), List.nodup_nil, fun _ _ _ h => absurd h (by simp)⟩ e3
      exact q .non H' F2 [] s2 o2 .non
  | bk => cases e2
  | ct => cases e2
end
set_option genInjectivity true in
inductive Arg where
  | io (j : Nat) | im (f : PSt -> Option D)
noncomputable def zb6 : List Arg -> PSt -> Option (List D)
  | [], _ => some []
  | .io j :: as, ps => ((ps[j]?).join).bind fun d => (zb6 as ps).bind fun ds => some (d :: ds)
  | .im f :: as, ps => (zb9 f ps).bind fun d => (zb6 as ps).bind fun ds => some (d :: ds)
noncomputable def xd0 : List Arg -> Nat -> Bool
  | .io _ :: _, 0 => true
  | _ :: as, i + 1 => xd0 as i
  | _, _ => false
noncomputable def slots : List Arg -> List Nat
  | [] => []
  | .io j :: as => j :: slots as
  | .im _ :: as => slots as
inductive ArgsAt (K : PySem.W.Frag) (κ : Str -> Addr) (H : Hp) (σ : St) (ps : PSt) : List Arg -> List V -> List D -> Prop
  | nil : ArgsAt K κ H σ ps [] [] []
  | io {j : Nat} {as : List Arg} {v : V} {vs : List V} {d : D} {ds : List D} : σ[j]? = some (some v) -> ps[j]? = some (some d) -> ArgsAt K κ H σ ps as vs ds -> ArgsAt K κ H σ ps (.io j :: as) (v :: vs) (d :: ds)
  | im {f : PSt -> Option D} {as : List Arg} {v : V} {vs : List V} {d : D} {ds : List D} : Rep K κ H v d [] -> ArgsAt K κ H σ ps as vs ds -> ArgsAt K κ H σ ps (.im f :: as) (v :: vs) (d :: ds)
theorem ArgsAt.same {K : PySem.W.Frag} {κ : Str -> Addr} {H H' : Hp} {σ : St} {ps : PSt} (s : SameK H H') : ∀ {as : List Arg} {vs : List V} {ds : List D}, ArgsAt K κ H σ ps as vs ds -> ArgsAt K κ H' σ ps as vs ds
  | _, _, _, .nil => .nil
  | _, _, _, .io h1 h2 h => .io h1 h2 (ArgsAt.same s h)
  | _, _, _, .im r h => .im (r.same s) (ArgsAt.same s h)
theorem ArgsAt.len {K : PySem.W.Frag} {κ : Str -> Addr} {H : Hp} {σ : St} {ps : PSt} : ∀ {as : List Arg} {vs : List V} {ds : List D}, ArgsAt K κ H σ ps as vs ds -> vs.length = as.length /\ ds.length = as.length
  | _, _, _, .nil => ⟨rfl, rfl⟩
  | _, _, _, .io _ _ h => by have := h.len; simp [this]
  | _, _, _, .im _ h => by have := h.len; simp [this]
theorem ArgsAt.get {K : PySem.W.Frag} {κ : Str -> Addr} {H : Hp} {σ : St} {ps : PSt} : ∀ {as : List Arg} {vs : List V} {ds : List D} {i : Nat} {d : D}, ArgsAt K κ H σ ps as vs ds -> ds[i]? = some d -> ∃ v, vs[i]? = some v /\ ((∃ j, as[i]? = some (.io j) /\ xd0 as i = true /\ σ[j]? = some (some v) /\ ps[j]? = some (some d)) \/ (xd0 as i = false /\ Rep K κ H v d []))
  | _, _, _, _, _, .nil, e => by simp at e
  | _, _, _, 0, _, .io h1 h2 _, e => by simp at e; subst e; exact ⟨_, rfl, .inl ⟨_, rfl, rfl, h1, h2⟩⟩
  | _, _, _, 0, _, .im r _, e => by simp at e; subst e; exact ⟨_, rfl, .inr ⟨rfl, r⟩⟩
  | _, _, _, i + 1, _, .io _ _ h, e => by
    obtain ⟨v, h1, h2⟩ := ArgsAt.get (i := i) h (by simpa using e)
    exact ⟨v, by simpa using h1, by simpa [xd0] using h2⟩
  | _, _, _, i + 1, _, .im _ h, e => by
    obtain ⟨v, h1, h2⟩ := ArgsAt.get (i := i) h (by simpa using e)
    exact ⟨v, by simpa using h1, by simpa [xd0] using h2⟩
noncomputable def tIO (K : PySem.W.Frag) (κ : Str -> Addr) (as : List Arg) : TA := fun σ H Q => ∃ ps ds, WS K κ H σ ps /\ zb6 as ps = some ds /\ ∀ vs H', SameK H H' -> ArgsAt K κ H' σ ps as vs ds -> Q vs H'
section
variable {X : Cx} {φ : F0} {κ : Str -> Addr} {e : Expr} {es : List Expr} {as : List Arg} {f : PSt -> Option D} {pos p : Pos}
theorem zm1 : PA X [] (tIO X.K κ []) := zw7.imp fun σ H Q ⟨ps, ds, w, e, q⟩ => by cases e; exact q [] H (.refl H) .nil
theorem zi7 (ha : QV X κ e f) (hr : PA X es (tIO X.K κ as)) (hs : starEach (e :: es) X.env = (false, eval e X.env) :: starEach es X.env := by rfl) : PA X (e :: es) (tIO X.K κ (.im f :: as)) :=
  (zq2 ha.p hr hs).imp fun σ H Q hh_ => by
    obtain ⟨ps, ds, w, e, q⟩ := hh_
    obtain ⟨d, e1, e2⟩ := bind_some e
    obtain ⟨ds', e3, e4⟩ := bind_some e2
    cases e4
    refine ⟨ps, d, w, e1, fun v H1 fv s1 n1 nd1 r1 => ⟨ps, ds', w.same s1, e3, fun vs H2 s2 a2 => q (v :: vs) H2 (s1.trans s2) (.im ?_ a2)⟩⟩
    unfold zb9 at e1
    obtain ⟨d1, k1, k2⟩ := bind_some e1
    obtain ⟨k3, k4⟩ := ze5 k2
    cases k4
    have := r1.imm k3
    subst this
    exact r1.same s2
end
end L2
namespace L2
open PySem PySem.Spec PyProof.Rows
inductive AreD : List Expr -> List D -> Prop
  | nil : AreD [] []
  | int {i : Int} {j : Nat} {pos : Pos} {es : List Expr} {ds : List D} : AreD es ds -> AreD (.Constant (.int i) j pos :: es) (.int i :: ds)
  | str {x : Str} {j : Nat} {pos : Pos} {es : List Expr} {ds : List D} : AreD es ds -> AreD (.Constant (.str x) j pos :: es) (.str x :: ds)
noncomputable def zd3 (l : List Bool) : Nat -> Bool := fun i => (l[i]?).getD false
theorem zv5 {l : List Bool} {i : Nat} (h : zd3 l i = true) : i < l.length := by
  unfold zd3 at h
  cases q : l[i]? with
  | none => rw [q] at h; cases h
  | some b => exact (List.getElem?_eq_some_iff.mp q).1
section
variable {P : Program} {w : World} {K : PySem.W.Frag} {mg : Str -> Option Value} {base : Heap} {κ : Str -> Addr}
theorem FnOk.noneE {f : Addr} {fd : FuncData} {ps : List Str} {k : Nat} {m : Nat -> Bool} : FnOk P w K mg base CX0 k f fd ps (SpE ps.length K κ m fun _ => none) :=
  ⟨fun vs H Q E h => h.1, fun A outer s H args us vs Q E _ _ _ _ ⟨_, ds, r, ds', F, _, _, e, _⟩ => by cases e⟩
end
end L2
namespace L2
open PySem PySem.Spec PyProof.Rows
theorem yo9 : ∀ ys : List (Str × Tok), zc0 (ys.map fun p => V.str p.1) (ys.map fun p => Value.str p.1 p.2)
  | [] => .nil
  | y :: ys => .cons ⟨y.2, rfl⟩ (yo9 ys)
theorem yv3 {K : PySem.W.Frag} {κ : Str -> Addr} {H : Hp} : ∀ ys : List (Str × Tok), Reps K κ H (ys.map fun p => V.str p.1) (ys.map fun p => D.str p.1) []
  | [] => .nil
  | y :: ys => .cons (f := []) (g := []) (.str _) (yv3 ys)
theorem xs9 {K : PySem.W.Frag} {κ : Str -> Addr} {a : Addr} {ys : List (Str × Tok)} {od : Option Addr} {n : Nat} {sl : Array (Option Value)} (h : K.lookup a = some ⟨.type "tuple", od, .seq (ys.map fun p => Value.str p.1 p.2).toArray n, sl⟩) (hl : ys.length <= 1000) (H : Hp) :
    Rep K κ H (.ref a) (.tup (ys.map fun p => D.str p.1)) [] :=
  .tup (.inr ⟨_, _, n, h, rfl, rfl, by rw [List.size_toArray, List.length_map]; exact yx1 hl, yo9 ys⟩) (yv3 ys)
end L2
namespace L2
open PySem PySem.Spec PyProof.Rows
section
variable {X : Cx} {pins : List (Addr × Obj)} {σ : St} {H : Hp} {s : Shared} {a C dx : Addr} {fs : List (Str × V)} {f : Str} {v : V} {A : Around} {E : Value -> Shared -> Prop}
theorem wd2 {P : Program} {w : World} {h : Heap} (hok : HOk P w H h) (e : Rd H a (.ins C dx fs)) : ∃ mA, ObjM h a dx C mA /\ (∀ f, zq5 (fs.lookup f) (mA f)) := by
  obtain ⟨d, z, ne, ob, mA, n, r, q⟩ := (show zi8 P w H h a (.ins C dx fs) from e.ok hok)
  exact ⟨mA, ⟨ob, n, ne⟩, r⟩
theorem xj2 {b : Bool} {Q : Value -> Shared -> Prop} (I : Inv X pins σ H s) (e : Rd H a (.ins C dx fs)) (c : Cls X.K C) (n : zd6 X.K C f) (l : fs.lookup f = some v)
    (h : ∀ u s', Inv X pins σ H s' -> zd2 v u -> Q u s') : wpAny (model X.prog X.w) A (getAttr (.ref a) f b) Q E s := by
  obtain ⟨mA, O, r⟩ := wd2 I.hok e
  obtain ⟨u, hu, ru⟩ := zq5.some_of (v := v) (o := mA f) (by rw [<- l]; exact r f)
  exact xf0 I.kIn O (c.get f) c.hd n hu (yu1 ru) (h u _ (I.tok _) ru)
end
noncomputable def wi2 (K : PySem.W.Frag) (ta : TE) (f : Str) : TE := fun σ H Q => ta σ H fun x H1 => ∃ a C dx fs v, x = .ref a /\ Rd H1 a (.ins C dx fs) /\ Cls K C /\ zd6 K C f /\ fs.lookup f = some v /\ Q v H1
theorem xy3 {X : Cx} {e : Expr} {f : Str} {pos : Pos} {ta : TE} (he : PE X e ta) (hb : attributeBase e f X.env (eval e X.env) = eval e X.env) : PE X (.Attribute e f pos) (wi2 X.K ta f) := by
  intro pins s σ H Q I h
  refine xf1 hb (thn (he pins s σ H _ I h) fun u s1 ⟨x, H1, I1, rx, a, C, dx, fs, v, ex, ea, c, n, l, q⟩ => ?_)
  subst ex
  obtain rfl : u = Value.ref a := rx
  exact xj2 I1 ea c n l fun w' s2 I2 rw' => ⟨v, H1, I2, rw', q⟩
noncomputable def zn8 (C f : Str) : D -> Option D
  | .obj _ C' ns vs => if C' = C then (zc2 ns f).bind fun n => vs[n]? else none
  | _ => none
noncomputable def zf1 (C f : Str) (fo : PSt -> Option D) : PSt -> Option D := fun ps => (fo ps).bind (zn8 C f)
theorem Rep.obj_inv {K : PySem.W.Frag} {κ : Str -> Addr} {H : Hp} {v : V} {o : Bool} {C : Str} {ns : List Str} {ds : List D} {fp : List Addr} (r : Rep K κ H v (.obj o C ns ds) fp) : ∃ a dx fs g, v = .ref a /\ Rd H a (.ins (κ C) dx fs) /\ fs.map (·.1) = ns /\ Reps K κ H (fs.map (·.2)) ds g /\ g.Sublist fp := by
  cases r with
  | obj h e hs => exact ⟨_, _, _, _, rfl, .inl h, e, hs, List.sublist_cons_self _ _⟩
  | objF h e hs => exact ⟨_, _, _, _, rfl, .inr ⟨_, h⟩, e, hs, .refl _⟩
section
variable {X : Cx} {κ : Str -> Addr} {o e : Expr} {C fn : Str} {fo : PSt -> Option D} {pos : Pos}
theorem zi3 (hc : Cls X.K (κ C)) (hna : zd6 X.K (κ C) fn) (ho : QV X κ o fo) (hb : attributeBase o fn X.env (eval o X.env) = eval o X.env := by rfl) : QV X κ (.Attribute o fn pos) (zf1 C fn fo) :=
  (xy3 ho hb).imp fun σ H Q hh_ => by
    obtain ⟨ps, d, w, e, q⟩ := hh_
    obtain ⟨x, e1, e2⟩ := bind_some e
    refine ⟨ps, x, w, e1, fun v H1 fp s1 r1 => ?_⟩
    cases x with
    | obj ow C' ns ds =>
      have e2' : (if C' = C then (zc2 ns fn).bind fun n => ds[n]? else none) = some d := e2
      by_cases hC : C' = C
      case neg => rw [if_neg hC] at e2'; cases e2'
      rw [if_pos hC] at e2'
      subst hC
      obtain ⟨n, e4, e5⟩ := bind_some e2'
      obtain ⟨a, dx, fs, g, rfl, h, hk, hs, sub⟩ := r1.obj_inv
      subst hk
      obtain ⟨u, f1, k3, k4, _⟩ := hs.get e5
      exact ⟨a, κ C', dx, fs, u, rfl, h, hc, hna, zz4 e4 k3, q u H1 f1 s1 k4⟩
    | _ => cases e2
end
theorem xg0 : ∀ {fs : List (Str × V)} {f : Str} {n : Nat} (v : V), zc2 (fs.map (·.1)) f = some n -> (zk8 f v fs).map (·.1) = fs.map (·.1) /\ (zk8 f v fs).map (·.2) = (fs.map (·.2)).set n v
  | [], _, _, _, h => by cases h
  | (g, x) :: r, f, n, v, h => by
    rw [List.map_cons, zc2] at h
    by_cases z : g = f
    . have z' : (g, x).1 = f := z
      rw [if_pos z'] at h; cases h
      rw [zk8, if_pos z]; exact ⟨rfl, rfl⟩
    . have z' : ¬ (g, x).1 = f := z
      rw [if_neg z'] at h
      obtain ⟨m, h1, h2⟩ := Option.map_eq_some_iff.mp h
      subst h2
      obtain ⟨k1, k2⟩ := xg0 v h1
      rw [zk8, if_neg z]
      exact ⟨by rw [List.map_cons, List.map_cons, k1], by rw [List.map_cons, List.map_cons, List.set_cons_succ, k2]⟩
theorem yz7 : ∀ {fs : List (Str × V)} {f : Str} (v : V), zc2 (fs.map (·.1)) f = none -> (zk8 f v fs).map (·.1) = fs.map (·.1) ++ [f] /\ (zk8 f v fs).map (·.2) = fs.map (·.2) ++ [v]
  | [], _, _, _ => ⟨rfl, rfl⟩
  | (g, x) :: r, f, v, h => by
    rw [List.map_cons, zc2] at h
    by_cases z : g = f
    . have z' : (g, x).1 = f := z
      rw [if_pos z'] at h; cases h
    . have z' : ¬ (g, x).1 = f := z
      rw [if_neg z'] at h
      obtain ⟨k1, k2⟩ := yz7 v (Option.map_eq_none_iff.mp h)
      rw [zk8, if_neg z]
      exact ⟨by rw [List.map_cons, List.map_cons, k1]; rfl, by rw [List.map_cons, List.map_cons, k2]; rfl⟩
noncomputable def zh5 (C f : Str) (y : D) : D -> Option (Unit × D)
  | .obj true C' ns vs => if (C' = C /\ ns.length < 900) then (match zc2 ns f with
      | some n => some ((), .obj true C' ns (vs.set n y))
      | none => some ((), .obj true C' (ns ++ [f]) (vs ++ [y]))) else none
  | _ => none
theorem yz8 {C f : Str} {y d d' : D} {r : Unit} (h : zh5 C f y d = some (r, d')) : ∃ ns vs, d = .obj true C ns vs /\ ns.length < 900 /\ ((∃ n, zc2 ns f = some n /\ d' = .obj true C ns (vs.set n y)) \/ (zc2 ns f = none /\ d' = .obj true C (ns ++ [f]) (vs ++ [y]))) := by
  unfold zh5 at h
  split at h
  . rename_i C' ns vs
    by_cases hh : C' = C /\ ns.length < 900
    . rw [if_pos hh] at h
      obtain ⟨hC, hl⟩ := hh
      subst hC
      cases q : zc2 ns f with
      | some n => rw [q] at h; cases h; exact ⟨ns, vs, rfl, hl, .inl ⟨n, q, rfl⟩⟩
      | none => rw [q] at h; cases h; exact ⟨ns, vs, rfl, hl, .inr ⟨q, rfl⟩⟩
    . rw [if_neg hh] at h; cases h
  . cases h
noncomputable def ze8 (j : Nat) (pf : PSt -> Option (List Ps1)) (C f : Str) (fe : PSt -> Option D) : PSt -> Option (Fl × PSt) := fun ps => (fe ps).bind fun y => ((ps[j]?).join).bind fun d0 => (pf ps).bind fun p => (zd7 (zh5 C f y) d0 p).bind fun r => some (.nx, ps.set j (some r.2))
theorem yz9 : ∀ {ns : List Str} {f : Str} {n : Nat}, zc2 ns f = some n -> n < ns.length
  | [], _, _, h => by cases h
  | m :: ns, f, n, h => by
    rw [zc2] at h
    by_cases z : m = f
    . rw [if_pos z] at h; cases h; simp
    . rw [if_neg z] at h
      obtain ⟨k, h1, h2⟩ := Option.map_eq_some_iff.mp h
      subst h2
      have := yz9 h1
      simp; omega
section
variable {X : Cx} {κ : Str -> Addr} {φ : F0} {o e : Expr} {C fn : Str} {j : Nat} {pf : PSt -> Option (List Ps1)} {fe : PSt -> Option D} {pos pos' : Pos}
theorem zm0 (hc : Cls X.K (κ C)) (hna : zd6 X.K (κ C) fn) (hb : φ.bor j = false) (he : PE X e (tP X.K κ fe)) (ho : PE X o (zq9 X.K κ j pf)) (hs : swapsWith e (some (.Attribute o fn pos')) pos.line X.env = pure false := by rfl) :
    QS X κ φ (.Assign [.Attribute o fn pos'] e pos) (ze8 j pf C fn fe) :=
  (wb7 ho he hs).imp fun E σ H hh_ => by
    obtain ⟨ps, F, fl, ps', R, e, q⟩ := hh_
    obtain ⟨y, e1, e2⟩ := bind_some e
    obtain ⟨d0, e3, e4⟩ := bind_some e2
    have e0 := zp2 e3
    obtain ⟨p, e5, e6⟩ := bind_some e4
    obtain ⟨⟨r, d0'⟩, em, e9⟩ := bind_some e6
    cases e9
    obtain ⟨dd, dn, gp, hh⟩ := zz3 em
    refine ⟨ps, y, R.ws, e1, fun v H1 fy s1 n1 nd1 ry => ⟨ps, p, d0, dd, R.ws.same s1, e0, e5, gp, fun lv H2 v0 s2 ev a2 => ?_⟩⟩
    have s12 := s1.trans s2
    obtain ⟨d1, d1', fd, m1, m2, m3, m4, m5⟩ := yo8 R s12 hb e0 ev em a2
    obtain ⟨ns, vs, rfl, hlen, hd⟩ := yz8 m2
    obtain ⟨l, dx, fs, g1, rfl, hl, hn, hr, rfl⟩ := m1.objT_inv
    subst hn
    have ry2 := ry.same s2
    obtain ⟨nl, nd3⟩ := List.nodup_cons.mp m3
    have own0 : ∀ a ∈ l :: g1, H a ≠ none := fun a ha z => by obtain ⟨o, h, _⟩ := R.own (m4 a ha); rw [z] at h; cases h
    have nl2 : l ∉ fy := fun z => own0 l List.mem_cons_self (n1 l z)
    have hl9 : fs.length < 900 := by rw [List.length_map] at hlen; exact hlen
    refine ⟨l, κ C, dx, fs, rfl, hl, hc, hna, by omega, ?_⟩
    have go : ∀ (g2 : List Addr), (∀ a ∈ g2, a ∈ fy \/ a ∈ g1) -> g2.Nodup -> Rep X.K κ (upd H2 l (.ins (κ C) dx (zk8 fn v fs))) (.ref l) d1' (l :: g2) -> ∃ F', Stp (φ.fx X.K κ) σ H F σ (upd H2 l (.ins (κ C) dx (zk8 fn v fs))) (ps.set j (some d0')) F' := fun g2 mem2 nd2 rp => by
      have n2 : l ∉ g2 := fun z => (mem2 l z).elim nl2 nl
      obtain ⟨F', st, ow⟩ := m5 (upd H2 l (.ins (κ C) dx (zk8 fn v fs))) (l :: g2) [] (fun a o h _ hn => yz4 h hn) (fun a h => yz5 h) rp
        (by rw [List.append_nil, List.nodup_cons]; exact ⟨n2, nd2⟩)
        (fun a ha => by
          rw [List.append_nil] at ha
          rcases List.mem_cons.mp ha with z | z
          . exact .inl (by rw [z]; exact List.mem_cons_self)
          . exact (mem2 a z).elim (fun z => .inr (n1 a z)) fun z => .inl (List.mem_cons_of_mem _ z))
      exact ⟨F', st⟩
    rcases hd with ⟨n, hx, rfl⟩ | ⟨hx, rfl⟩
    . obtain ⟨k1, k2⟩ := xg0 v hx
      have hn' := yz9 hx
      obtain ⟨f1, zb1, g2, p1, p2, p3⟩ := hr.setV (n := n) (by rw [<- hr.length, List.length_map]; rw [List.length_map] at hn'; exact hn') ry2
      have mem2 : ∀ a ∈ g2, a ∈ fy \/ a ∈ g1 := fun a ha => (List.mem_append.mp (p3.mem_iff.mp ha)).elim .inl fun z => .inr (p1.mem_iff.mpr (List.mem_append_right _ z))
      have n2 : l ∉ g2 := fun z => (mem2 l z).elim nl2 nl
      have nd2 : g2.Nodup := p3.nodup_iff.mpr (List.nodup_append.mpr ⟨nd1, (List.nodup_append.mp (p1.nodup_iff.mp nd3)).2.1, fun a ha b hb e => by
        subst e
        exact own0 a (List.mem_cons_of_mem _ (p1.mem_iff.mpr (List.mem_append_right _ hb))) (n1 a ha)⟩)
      obtain ⟨F', st⟩ := go g2 mem2 nd2 (.obj zh0 k1 (by rw [k2]; exact p2.updL hl rfl n2))
      exact q _ _ F' st
    . obtain ⟨k1, k2⟩ := yz7 v hx
      have mem2 : ∀ a ∈ g1 ++ fy, a ∈ fy \/ a ∈ g1 := fun a ha => (List.mem_append.mp ha).elim .inr .inl
      have n2 : l ∉ g1 ++ fy := fun z => (mem2 l z).elim nl2 nl
      have nd2 : (g1 ++ fy).Nodup := List.nodup_append.mpr ⟨nd3, nd1, fun a ha b hb e => by
        subst e
        exact own0 a (List.mem_cons_of_mem _ ha) (n1 a hb)⟩
      obtain ⟨F', st⟩ := go (g1 ++ fy) mem2 nd2 (.obj zh0 k1 (by rw [k2]; exact (Reps.append hr (Reps.one ry2)).updL hl rfl n2))
      exact q _ _ F' st
end
end L2
namespace L2
open PySem PySem.Spec PyProof.Rows
structure Mn (K : PySem.W.Frag) (κ : Str -> Addr) (C m qual : Str) (st : Stmt) (ps : List Str) (f : Addr) (fd : FuncData) : Prop where
  F : Fun K m qual st f fd
  b : zs2 K fd ps []
  c : Cls K (κ C)
  h : Meth K (κ C) m f
noncomputable def zi2 (C m : Str) (fo : PSt -> Option D) : PSt -> Option D := fun ps => (fo ps).bind fun d => match d with
  | .obj true C' ns vs => if (C' = C /\ zc2 ns m = none) then some (.obj true C' ns vs) else none
  | _ => none
theorem yp0 {C m : Str} {fo : PSt -> Option D} {ps : PSt} {d : D} (h : zi2 C m fo ps = some d) : ∃ ns vs, d = .obj true C ns vs /\ fo ps = some d /\ zc2 ns m = none := by
  obtain ⟨x, e1, e2⟩ := bind_some h
  cases x with
  | obj o C' ns vs => cases o with
    | true =>
      have e2' : (if (C' = C /\ zc2 ns m = none) then some (D.obj true C' ns vs) else none) = some d := e2
      obtain ⟨⟨hC, hn⟩, e3⟩ := ze5 e2'
      subst hC; cases e3
      exact ⟨ns, vs, rfl, e1, hn⟩
    | false => cases e2
  | _ => cases e2
theorem zw4 : ∀ {fs : List (Str × V)} {m : Str}, zc2 (fs.map (·.1)) m = none -> fs.lookup m = none
  | [], _, _ => rfl
  | (g, x) :: r, m, h => by
    rw [List.map_cons, zc2] at h
    by_cases z : g = m
    . have z' : (g, x).1 = m := z
      rw [if_pos z'] at h; cases h
    . have z' : ¬ (g, x).1 = m := z
      rw [if_neg z'] at h
      have ih := zw4 (Option.map_eq_none_iff.mp h)
      rw [List.lookup_cons]
      have : (m == g) = false := by
        rw [beq_eq_false_iff_ne]; exact fun e => z e.symm
      rw [this]; exact ih
section
variable {X : Cx} {κ : Str -> Addr} {o e : Expr} {es : List Expr} {C m qual : Str} {st : Stmt} {ps : List Str} {f : Addr} {fd : FuncData} {k np : Nat} {h : List D -> Option D} {fo : PSt -> Option D} {g : PSt -> Option (List D)} {apos pos p : Pos} {pl : Sem Bool}
theorem ym0 (M : Mn X.K κ C m qual st ps f fd) (G : FnOk X.prog X.w X.K X.mg X.base CX0 k f fd ps (SpP 1 X.K κ h)) (hr : Room k X.A) (ho : QV X κ o fo)
    (ht : eval (.Call (.Attribute o m apos) [] [] pos) X.env = (do
      let ov <- eval o X.env
      standAt apos.atName
      let (f, first) <- holding [ov] (getMethod ov m pl)
      callWith pos f first (backTo pos (starEach [] X.env)) (backToKw pos (keywordEach [] X.env))) := by rfl) :
    QP X κ (.Call (.Attribute o m apos) [] [] pos) (za6 h (za1 (zi2 C m fo) za3)) := (yy0 ho M.c M.h G hr M.b .nil yn9 ht).imp fun σ H Q hh_ => by
  obtain ⟨ps, d, w, e, q⟩ := hh_
  obtain ⟨ds, e1, e2⟩ := bind_some e
  obtain ⟨x, k1, k2⟩ := bind_some e1
  obtain ⟨ds', k3, k4⟩ := bind_some k2
  cases k4; cases k3
  obtain ⟨ns, vs, rfl, k5, k6⟩ := yp0 k1
  refine ⟨ps, _, w, k5, fun v H1 fp s1 r1 => ?_⟩
  have r1' := r1
  obtain ⟨_, _, _, _, rfl, hl, hn, hs, rfl⟩ := r1.objT_inv
  subst hn
  exact ⟨_, _, _, rfl, hl, zw4 k6, rfl, _, _, d, Reps.one r1', e2, q.after s1⟩
end
noncomputable def zs3 : Nat -> Bool := fun i => decide (i = 0)
noncomputable def yb3 (fd : List Addr) : Nat -> List Addr := fun i => if i = 0 then fd else []
theorem zr2 {fd : List Addr} {i : Nat} {a : Addr} (h : a ∈ yb3 fd i) : i = 0 /\ a ∈ fd := by
  unfold yb3 at h
  by_cases z : i = 0
  . rw [if_pos z] at h; exact ⟨z, h⟩
  . rw [if_neg z] at h; exact absurd h (by simp)
theorem yp1 {K : PySem.W.Frag} {κ : Str -> Addr} {H : Hp} {v : V} {vs : List V} {d : D} {ds : List D} {fd : List Addr} (r : Rep K κ H v d fd) (nd : fd.Nodup) (rs : Reps K κ H vs ds []) :
    RS (fxE K κ (ds.length + 1) zs3) H ((v :: vs).map some) ((d :: ds).map some) (yb3 fd) := by
  refine ⟨fun i x hx => ?_, fun i a ha => ?_, fun i j a h1 h2 => ?_, fun i => ?_, fun i a _ k z => z.elim, fun k a z => z.elim, by simp [rs.length]⟩
  . cases i with
    | zero =>
      simp at hx; subst hx
      exact ⟨v, fd, rfl, r, fun _ => rfl, fun z => by simp [fxE, zs3] at z⟩
    | succ i =>
      rw [List.map_cons, List.getElem?_cons_succ, List.getElem?_map] at hx
      obtain ⟨y, hy, e⟩ := Option.map_eq_some_iff.mp hx
      cases e
      obtain ⟨u, f1, k1, k2, k3⟩ := rs.get hy
      have ef : f1 = [] := by
        cases f1 with
        | nil => rfl
        | cons b l => exact absurd (k3 b List.mem_cons_self) (by simp)
      subst ef
      exact ⟨u, [], by rw [List.map_cons, List.getElem?_cons_succ, List.getElem?_map, k1]; rfl, k2, (fun _ => by simp [yb3]), fun _ a ha => absurd ha (by simp)⟩
  . obtain ⟨e, h⟩ := zr2 ha
    subst e
    exact ⟨by simp [fxE, zs3], d, rfl⟩
  . rw [(zr2 h1).1, (zr2 h2).1]
  . unfold yb3; split
    . exact nd
    . exact List.nodup_nil
noncomputable def yj8 : List Arg -> Bool
  | [] => true
  | .im _ :: as => yj8 as
  | .io _ :: _ => false
theorem ArgsAt.reps {K : PySem.W.Frag} {κ : Str -> Addr} {H : Hp} {σ : St} {ps : PSt} : ∀ {as : List Arg} {vs : List V} {ds : List D}, ArgsAt K κ H σ ps as vs ds -> yj8 as = true -> Reps K κ H vs ds []
  | _, _, _, .nil, _ => .nil
  | _, _, _, .io _ _ _, h => by cases h
  | _, _, _, .im r a, h => .cons (f := []) (g := []) r (ArgsAt.reps a h)
noncomputable def zj5 (C m : Str) (g : List D -> Option (D × List D)) (ys : List D) (d : D) : Option (D × D) := match d with
  | .obj true C' ns vs => if (C' = C /\ zc2 ns m = none) then (g (.obj true C' ns vs :: ys)).bind fun r => match r.2 with
      | d' :: ds => if ds.length = ys.length then some (r.1, d') else none
      | [] => none
    else none
  | _ => none
theorem yp2 {C m : Str} {g : List D -> Option (D × List D)} {ys : List D} {d r d' : D} (h : zj5 C m g ys d = some (r, d')) : ∃ ns vs ds, d = .obj true C ns vs /\ zc2 ns m = none /\ g (d :: ys) = some (r, d' :: ds) /\ ds.length = ys.length := by
  unfold zj5 at h
  split at h
  . rename_i C' ns vs
    by_cases hc : C' = C /\ zc2 ns m = none
    . rw [if_pos hc] at h
      obtain ⟨hC, hn⟩ := hc
      subst hC
      obtain ⟨⟨r1, ds⟩, e1, e2⟩ := bind_some h
      cases ds with
      | nil => cases e2
      | cons d1 ds =>
        obtain ⟨hl, e3⟩ := ze5 e2
        cases e3
        exact ⟨ns, vs, ds, rfl, hn, e1, hl⟩
    . rw [if_neg hc] at h; cases h
  . cases h
section
variable {X : Cx} {κ : Str -> Addr} {φ : F0} {o e : Expr} {es : List Expr} {C m qual : Str} {st : Stmt} {ps : List Str} {f : Addr} {fd : FuncData} {k np j : Nat} {mk : Nat -> Bool} {g : List D -> Option (D × List D)} {pf : PSt -> Option (List Ps1)} {as : List Arg} {apos pos p : Pos} {pl : Sem Bool}
theorem xt0 {σ : St} {H H1 : Hp} {Q : VK} {ps : PSt} {F : Nat -> List Addr} {d0 d0' r : D} {pp : List Ps1} {v0 v : V} {ys : List D} {us : List V} (R : RS (φ.fx X.K κ) H σ ps F) (s1 : SameK H H1) (hb : φ.bor j = false) (e0 : ps[j]? = some (some d0)) (ev : σ[j]? = some (some v0))
    (em : zd7 (zj5 C m g ys) d0 pp = some (r, d0')) (at_ : At H1 v0 pp v) (ry : Reps X.K κ H1 us ys []) (hnp : np = ys.length + 1) (hm : mk = zs3)
    (q : ∀ v H' F' fv, Stp (φ.fx X.K κ) σ H F σ H' (ps.set j (some d0')) F' -> OwnV F H F' fv -> Rep X.K κ H' v r fv -> Q v H') : SpE np X.K κ mk g (v :: us) H1 Q E0 := by
  subst hnp hm
  obtain ⟨d1, d1', fd, m1, m2, m3, m4, m5⟩ := yo8 R s1 hb e0 ev em at_
  obtain ⟨ns, vs, ds, rfl, hn, eg, hl⟩ := yp2 m2
  refine ⟨by rw [List.length_cons, ry.length], _, r, d1' :: ds, yb3 fd, by simp, yp1 m1 m3 ry, eg, fun u H' F' fv s o rv => ?_⟩
  obtain ⟨v2, fp2, k1, k2, k3, _⟩ := s.rs.rep 0 d1' rfl
  have ek : v2 = v := by
    have : (List.map some (v :: us))[0]? = some (some v2) := k1
    simp at this; exact this.symm
  subst ek
  have k3' := k3 (by simp [fxE, zs3])
  subst k3'
  have old : ∀ a, ((∃ i, a ∈ yb3 fd i) \/ H1 a = none) -> a ∈ fd \/ H a = none := fun a h => h.elim (fun ⟨i, hi⟩ => .inl (zr2 hi).2) fun z => .inr (s1.grow a z)
  obtain ⟨F2, st2, ow2⟩ := m5 H' (F' 0) fv (fun a o h k hn => s.fr.keep a o h k fun i hi => hn (zr2 hi).2) (fun a h => s.fr.grow a h) k2
    (List.nodup_append.mpr ⟨s.rs.nd 0, o.nd, fun a ha b hb e => by subst e; exact o.dis 0 a ha hb⟩)
    (fun a ha => (List.mem_append.mp ha).elim (fun z => old a (s.nw 0 a z)) fun z => old a (o.nw a z))
  exact q u H' F2 fv st2 ow2 rv
theorem xt1 {σ : St} {H H1 : Hp} {ps : PSt} {F : Nat -> List Addr} {d0 d0' r : D} {pp : List Ps1} {v0 v : V} {ys : List D} (R : RS (φ.fx X.K κ) H σ ps F) (s1 : SameK H H1) (e0 : ps[j]? = some (some d0)) (ev : σ[j]? = some (some v0))
    (em : zd7 (zj5 C m g ys) d0 pp = some (r, d0')) (at_ : At H1 v0 pp v) : ∃ a dx fs, v = .ref a /\ H1 a = some (.ins (κ C) dx fs) /\ fs.lookup m = none := by
  obtain ⟨dd, dn, gp, hh⟩ := zz3 em
  obtain ⟨ns, vs, ds, rfl, hn, _⟩ := yp2 hh
  obtain ⟨fd, rd⟩ := xf9 R.ws s1 e0 ev gp at_
  obtain ⟨_, _, _, _, rfl, hl, hk, hs, rfl⟩ := rd.objT_inv
  subst hk; exact ⟨_, _, _, rfl, hl, zw4 hn⟩
theorem zt8 (M : Mn X.K κ C m qual st ps f fd) (G : FnOk X.prog X.w X.K X.mg X.base CX0 k f fd ps (SpE np X.K κ mk g)) (hr : Room k X.A) (hb : φ.bor j = false) (ho : PE X o (zq9 X.K κ j pf)) (ha : PA X (e :: es) (tIO X.K κ as)) (has : yj8 as = true) (hnp : np = as.length + 1) (hm : mk = zs3)
    (hst : starEach (e :: es) X.env = (false, eval e X.env) :: starEach es X.env := by rfl) (hpl : (backTo pos (starEach es X.env)).any (·.1) = false := by rfl)
    (ht : eval (.Call (.Attribute o m apos) (e :: es) [] pos) X.env = (do
      let ov <- eval o X.env
      standAt apos.atName
      let (f, first) <- holding [ov] (getMethod ov m pl)
      callWith pos f first (backTo pos (starEach (e :: es) X.env)) (backToKw pos (keywordEach [] X.env))) := by rfl) :
    QE X κ φ (.Call (.Attribute o m apos) (e :: es) [] pos) (zc9 j pf (zb6 as) (zj5 C m g)) := (xx3 ho M.c M.h G hr M.b .nil yn9 ha hst hpl ht).imp fun σ H Q hh_ => by
  obtain ⟨ps, F, d, ps', R, e, q⟩ := hh_
  obtain ⟨d0, pp, ys, d0', e0, ep, eg, em, rfl⟩ := yv1 e
  obtain ⟨dd, dn, gp, hh⟩ := zz3 em
  refine ⟨ps, pp, d0, dd, R.ws, e0, ep, gp, fun v H1 v0 s1 ev a1 => ?_⟩
  obtain ⟨a, dx, fs, rfl, hl, hn⟩ := xt1 R s1 e0 ev em a1
  refine ⟨a, dx, fs, rfl, hl, hn, ps, ys, R.ws.same s1, eg, fun us H2 s2 a2 => ?_⟩
  show SpE np X.K κ mk g (_ :: (us ++ [])) H2 Q E0
  rw [List.append_nil]
  exact xt0 R (s1.trans s2) hb e0 ev em (a1.same s2) (a2.reps has) (by rw [hnp, a2.len.2]) hm q
end
structure Kn (K : PySem.W.Frag) (mg : Str -> Option Value) (κ : Str -> Addr) (C qual : Str) (st : Stmt) (ps : List Str) (f : Addr) (fd : FuncData) : Prop where
  F : Fun K "__init__" qual st f fd
  b : zs2 K fd ps []
  M : Mk K (κ C) f
  m : mg C = some (.ref (κ C))
noncomputable def zg2 (C : Str) (ga : PSt -> Option (List D)) (g : List D -> Option (D × List D)) : PSt -> Option D := fun ps => (ga ps).bind fun ys => (g (.obj true C [] [] :: ys)).bind fun r => match r with
  | (.non, d' :: _) => some d'
  | _ => none
theorem xj3 {C : Str} {ga : PSt -> Option (List D)} {g : List D -> Option (D × List D)} {ps : PSt} {d : D} (h : zg2 C ga g ps = some d) : ∃ ys ds, ga ps = some ys /\ g (.obj true C [] [] :: ys) = some (.non, d :: ds) := by
  obtain ⟨ys, e1, e2⟩ := bind_some h
  obtain ⟨⟨r, ds⟩, e3, e4⟩ := bind_some e2
  cases r with
  | non => cases ds with
    | nil => cases e4
    | cons d1 ds => cases e4; exact ⟨ys, ds, e1, e3⟩
  | _ => cases e4
section
variable {X : Cx} {κ : Str -> Addr} {e : Expr} {es : List Expr} {C qual : Str} {st : Stmt} {ps : List Str} {f : Addr} {fd : FuncData} {k np : Nat} {mk : Nat -> Bool} {g : List D -> Option (D × List D)} {as : List Arg} {pos p : Pos}
theorem xy4 {H H1 : Hp} {Q : VK} {d : D} {ys ds : List D} {us : List V} {x dx : Addr} (s1 : SameK H H1) (hx : H1 x = none) (hdx : H1 dx = none) (hne : dx ≠ x) (ry : Reps X.K κ H1 us ys []) (hnp : np = ys.length + 1) (hm : mk = zs3) (eg : g (.obj true C [] [] :: ys) = some (.non, d :: ds)) (q : zr5 X.K κ H d Q) :
    SpE np X.K κ mk g (.ref x :: us) (upd (upd H1 dx (.own x)) x (.ins (κ C) dx [])) (fun v H2 => v = .non /\ Q (.ref x) H2) E0 := by
  subst hnp hm
  have ne : ∀ a o, H1 a = some o -> a ≠ x /\ a ≠ dx := fun a o h => ⟨fun z => (by rw [z, hx] at h; cases h), fun z => (by rw [z, hdx] at h; cases h)⟩
  have up : ∀ a o, H1 a = some o -> upd (upd H1 dx (.own x)) x (.ins (κ C) dx []) a = some o := fun a o h => by rw [zd4 (ne a o h).1, zd4 (ne a o h).2]; exact h
  have gr : ∀ a, upd (upd H1 dx (.own x)) x (.ins (κ C) dx []) a = none -> H1 a = none := fun a h => by
    by_cases z : a = x
    . rw [z]; exact hx
    . rw [zd4 z] at h
      by_cases z2 : a = dx
      . rw [z2]; exact hdx
      . rwa [zd4 z2] at h
  have s2 : SameK H1 (upd (upd H1 dx (.own x)) x (.ins (κ C) dx [])) := ⟨fun a o h _ => up a o h, gr⟩
  have r0 : Rep X.K κ (upd (upd H1 dx (.own x)) x (.ins (κ C) dx [])) (.ref x) (.obj true C [] []) [x] := .obj (fs := []) zh0 rfl .nil
  have ry2 : Reps X.K κ (upd (upd H1 dx (.own x)) x (.ins (κ C) dx [])) us ys [] := ry.move (fun a o h _ => up a o h) fun a ha => absurd ha (by simp)
  refine ⟨by rw [List.length_cons, ry.length], _, .non, d :: ds, yb3 [x], by simp, yp1 r0 (by simp) ry2, eg, fun u H' F' fv s o rv => ⟨by cases rv; rfl, ?_⟩⟩
  obtain ⟨v2, fp2, k1, k2, k3, _⟩ := s.rs.rep 0 d rfl
  have ek : v2 = .ref x := by
    have : (List.map some (V.ref x :: us))[0]? = some (some v2) := k1
    simp at this; exact this.symm
  subst ek
  have k3' := k3 (by simp [fxE, zs3])
  subst k3'
  refine q (.ref x) H' (F' 0) ⟨fun a o h hk => ?_, fun a h => s1.grow a (gr a (s.fr.grow a h))⟩ (fun a ha => ?_) (s.rs.nd 0) k2
  . have h1 := s1.keep a o h hk
    refine s.fr.keep a o (up a o h1) hk fun i hi => ?_
    have := (zr2 hi).2
    simp at this
    exact (ne a o h1).1 this
  . rcases s.nw 0 a ha with ⟨i, hi⟩ | z
    . have := (zr2 hi).2
      simp at this
      subst this
      exact s1.grow a hx
    . exact s1.grow a (gr a z)
theorem zv6 (Kd : Kn X.K X.mg κ C qual st ps f fd) (G : FnOk X.prog X.w X.K X.mg X.base CX0 k f fd ps (SpE np X.K κ mk g)) (hr : Room (k + 1) X.A) (hg : Gl X C) (ha : PA X (e :: es) (tIO X.K κ as)) (has : yj8 as = true) (hnp : np = as.length + 1) (hm : mk = zs3)
    (hdb : (C == ("__debug__" : Str)) = false := by decide) (he : starEach (e :: es) X.env = (false, eval e X.env) :: starEach es X.env := by rfl) (hpl : (backTo pos (starEach es X.env)).any (·.1) = false := by rfl) :
    QP X κ (.Call (.Name C p) (e :: es) [] pos) (zg2 C (zb6 as) g) := (xx4 Kd.M G hr hg Kd.m Kd.b .nil yn9 ha hdb he hpl).imp fun σ H Q hh_ => by
  obtain ⟨ps, d, w, e, q⟩ := hh_
  obtain ⟨ys, ds, e1, e2⟩ := xj3 e
  refine ⟨ps, ys, w, e1, fun us H1 s1 a1 x dx hx hdx hne => ?_⟩
  show SpE np X.K κ mk g (_ :: (us ++ [])) _ _ E0
  rw [List.append_nil]
  exact xy4 s1 hx hdx hne (a1.reps has) (by rw [hnp, a1.len.2]) hm e2 q
end
end L2
namespace L2
open PySem PySem.Spec PyProof.Rows
section
variable {X : Cx} {κ : Str -> Addr}
theorem xo3 : MtR X "str.startswith" (fun x xs H Q => ∃ z y, x = .str z /\ xs = [.str y] /\ Q (.bl (Txt.startswith z y)) H) := by
  intro pins s σ H x xs v us Q I rx r h
  obtain ⟨z, y, rfl, rfl, q⟩ := h
  obtain ⟨t, rfl⟩ := rx
  obtain ⟨u, rfl, t', rfl⟩ := yn5 r
  exact SC.startswith ⟨.bl _, H, I.tok _, rfl, q⟩
noncomputable def zs8 : D -> List D -> Option D
  | .str z, [.str y] => some (.bl (Txt.startswith z y))
  | _, _ => none
theorem zz5 : MtR X "str.startswith" (PMt X.K κ zs8) := by
  rintro pins s σ H x vs v us Q I rx r ⟨dx, ds, fx, fp, d, r1, rs, e, q⟩
  unfold zs8 at e
  split at e
  . cases e
    obtain ⟨w, rfl, r2⟩ := rs.one_inv
    exact xo3 pins s σ H x _ v us Q I rx r ⟨_, _, r1.is_str, by rw [r2.is_str], q.now (.bl _)⟩
  . cases e
end
theorem zj6 (n : Nat) : zd3 (true :: List.replicate n false) = zs3 := by
  funext i
  unfold zd3 zs3
  cases i with
  | zero => rfl
  | succ i =>
    rw [List.getElem?_cons_succ, List.getElem?_replicate]
    split <;> simp
noncomputable def kap : List (Str × Addr) -> Str -> Addr
  | [], _ => mainGlobals
  | (x, a) :: r, y => if x = y then a else kap r y
end L2
namespace L2
open PySem PySem.Spec PyProof.Rows
section
variable {X : Cx} {pins : List (Addr × Obj)} {σ : St} {H : Hp} {s : Shared} {a C dx : Addr} {fs : List (Str × V)}
theorem Inv.freeze (I : Inv X pins σ H s) (h : H a = some (.ins C dx fs)) : Inv X pins σ (upd H a (.frz (PySem.W.instObj C dx) (.ins C dx fs))) s := by
  have ne : ∀ b, H b = none -> b ≠ a := fun b hb z => by rw [z, h] at hb; cases hb
  have nt : ∀ b o, H b = some o -> (∀ C' dx' fs', o ≠ .ins C' dx' fs') -> b ≠ a := fun b o hb ho z => by
    rw [z, h] at hb
    cases hb
    exact ho _ _ _ rfl
  refine ⟨I.ok, I.os, I.bare, ⟨I.base.keep, I.base.slot, fun b o h1 h2 h3 => ?_, I.base.there, fun b xs h1 => ?_, fun b o u h1 => ?_, fun b ps h1 => ?_⟩, I.loc, I.cell, ?_, fun x c e => ?_, fun p hp => ?_, fun b o e => ?_, I.len⟩
  . have := I.base.free b o h1 h2 h3
    rw [zd4 (ne b this)]; exact this
  . have := I.base.tups b xs h1
    rw [zd4 (nt b _ this fun _ _ _ z => by cases z)]; exact this
  . have := I.base.frzs b o u h1
    rw [zd4 (nt b _ this fun _ _ _ z => by cases z)]; exact this
  . obtain ⟨more, this⟩ := I.base.tbls b ps h1
    exact ⟨more, by rw [zd4 (nt b _ this fun _ _ _ z => by cases z)]; exact this⟩
  . rw [zd4 (ne _ I.free)]; exact I.free
  . have := I.freeC x c e
    rw [zd4 (ne _ this)]; exact this
  . obtain ⟨p1, p2, p3⟩ := I.pin p hp
    exact ⟨p1, by rw [zd4 (ne _ p2)]; exact p2, p3⟩
  . have st : ∀ {b o}, zi8 X.prog X.w H s.heap b o -> zi8 X.prog X.w (upd H a (.frz (PySem.W.instObj C dx) (.ins C dx fs))) s.heap b o := fun x =>
      x.stay (fun _ _ _ q => q) (fun b' hb => by rw [zd4 (nt b' _ hb fun _ _ _ z => by cases z)]; exact hb) fun b' xs hb => by rw [zd4 (nt b' _ hb fun _ _ _ z => by cases z)]; exact hb
    by_cases z : b = a
    . subst z
      rw [zh0] at e
      cases e
      have x := I.hok b _ h
      obtain ⟨_, _, _, ob, _⟩ := (show zi8 X.prog X.w H s.heap b (.ins C dx fs) from x)
      exact ⟨ob, st x⟩
    . rw [zd4 z] at e
      exact st (I.hok b o e)
end
theorem PE.frz {X : Cx} {e : Expr} {t : TE} (h : PE X e t) : PE X e (fun σ H Q => t σ H fun x H' => ∃ a C dx fs, x = .ref a /\ H' a = some (.ins C dx fs) /\ Q x (upd H' a (.frz (PySem.W.instObj C dx) (.ins C dx fs)))) := by
  intro pins s σ H Q I q
  exact thn (h pins s σ H _ I q) fun v s1 ⟨x, H1, I1, rx, a, C, dx, fs, ex, ea, q1⟩ => ⟨x, _, I1.freeze ea, rx, q1⟩
noncomputable def zw1 (f : PSt -> Option D) : PSt -> Option D := fun ps => (f ps).bind fun d => match d with
  | .obj true C ns vs => if D.imms vs = true then some (.obj false C ns vs) else none
  | _ => none
theorem yg6 {X : Cx} {κ : Str -> Addr} {e : Expr} {f : PSt -> Option D} (h : QP X κ e f) : QP X κ e (zw1 f) :=
  (PE.frz h).imp fun σ H Q hh_ => by
    obtain ⟨ps, d, w, e, q⟩ := hh_
    obtain ⟨d0, e1, e2⟩ := bind_some e
    refine ⟨ps, d0, w, e1, fun v H1 fv s1 n1 nd1 r1 => ?_⟩
    cases d0 with
    | obj o C ns vs => cases o with
      | true =>
        have e2' : (if D.imms vs = true then some (D.obj false C ns vs) else none) = some d := e2
        obtain ⟨hi, e3⟩ := ze5 e2'
        cases e3
        obtain ⟨l, dx, fs, g, rfl, hl, hn, hs, rfl⟩ := r1.objT_inv
        have eg := hs.imm hi
        subst eg
        have hln := n1 l List.mem_cons_self
        have up : ∀ b o, H b = some o -> b ≠ l := fun b o hb z => by rw [z, hln] at hb; cases hb
        refine ⟨l, κ C, dx, fs, rfl, hl, q (.ref l) _ [] ⟨fun b o hb hk => ?_, fun b hb => ?_⟩ (fun _ h => absurd h (by simp)) List.nodup_nil (.objF zh0 hn (hs.move (fun b o hb ht => ?_) fun _ h => absurd h (by simp)))⟩
        . rw [zd4 (up b o hb)]; exact s1.keep b o hb hk
        . by_cases z : b = l
          . rw [z, zh0] at hb; cases hb
          . rw [zd4 z] at hb; exact s1.grow b hb
        . by_cases z : b = l
          . rw [z, hl] at hb; cases hb; cases ht
          . rw [zd4 z]; exact hb
      | false => cases e2
    | _ => cases e2
end L2
namespace L2
open PySem PySem.Spec PyProof.Rows
theorem zi8.get {P : Program} {w : World} {H : Hp} {h : Heap} {a : Addr} {o : HO} (x : zi8 P w H h a o) : ∃ u, h.get? a = some u := by
  cases o with
  | lst xs => obtain ⟨_, _, _, _, e⟩ := x; exact ⟨_, e⟩
  | tup xs => obtain ⟨_, _, _, _, e, _⟩ := x; exact ⟨_, e⟩
  | dK kvs => obtain ⟨_, _, _, _, o, _, _, e, _⟩ := x; exact ⟨_, e⟩
  | dT kvs => obtain ⟨_, _, _, _, o, _, _, e, _⟩ := x; exact ⟨_, e⟩
  | set S n => obtain ⟨o, _, _, _, e, _⟩ := x; exact ⟨_, e⟩
  | ins C dx fs => obtain ⟨_, _, _, e, _⟩ := x; exact ⟨_, e⟩
  | own y => exact x
  | xd fs => obtain ⟨_, ⟨_, _, _, e, _⟩, _⟩ := x; exact ⟨_, e⟩
  | rng lo hi => obtain ⟨_, _, _, e⟩ := x; exact ⟨_, e⟩
  | frz ob u => obtain ⟨e, _⟩ := x; exact ⟨_, e⟩
  | tbl ps => exact ⟨_, (show h.get? a = some _ from x)⟩
  | met f y => exact ⟨_, (show h.get? a = some _ from x)⟩
  | ext φ => obtain ⟨_, e, _⟩ := x; exact e
theorem HOk.none_of {P : Program} {w : World} {H : Hp} {h : Heap} (x : HOk P w H h) {a : Addr} (e : h.get? a = none) : H a = none := by
  cases q : H a with
  | none => rfl
  | some o => obtain ⟨u, z⟩ := (x a o q).get; rw [e] at z; cases z
theorem HOk.but {P : Program} {w : World} {H : Hp} {h h' : Heap} (x : HOk P w H h) (k : ∀ b o u, H b = some o -> h.get? b = some u -> h'.get? b = some u) : HOk P w H h' := fun a o e =>
  (x a o e).stay (fun b u hb q => by
    rcases hb with rfl | hb
    . exact k _ _ _ e q
    . exact k _ _ _ hb q) (fun _ q => q) fun _ _ q => q
theorem yv4 {h : Heap} {as : List Addr} {b : Addr} (e : (PySem.W.hideAll h as).get? b = none) : b ∈ as \/ h.get? b = none := by
  cases q : h.get? b with
  | none => exact .inr rfl
  | some o =>
    by_cases m : b ∈ as
    . exact .inl m
    . rw [PySem.W.hideAll_get as q m] at e; cases e
theorem xg1 {l : List Env} {env : Env} {a : Addr} (h : env ∈ l) (e : env.frame = some a) : a ∈ frs l := List.mem_filterMap.mpr ⟨env, h, e⟩
structure Fly (base : Heap) (C : Addr) (l : List Env) (H : Hp) (h0 : Heap) (e T : Addr) (a0 : Value) (h : Heap) : Prop where
  ne : h0.get? e = none
  nT : h0.get? T = none
  He : H e = none
  HT : H T = none
  st : base.StaysIn h
  be : base.get? e = none
  bT : base.get? T = none
  fr : h.FunFrames base l
  tr : ∃ oe vs oT ts, h.get? e = some oe /\ (oe.cls = .ref C /\ vs[0]? = some a0) /\ oe.data = .fields vs /\ vs[1]? = some (.ref T) /\ T ≠ e /\ h.get? T = some oT /\ oT.data = .fields ts /\ ts[3]? = some .none
noncomputable abbrev xl3 (h : Heap) (l : List Env) (e T : Addr) : Heap := PySem.W.hideAll h (e :: T :: frs l)
section
variable {base h0 h : Heap} {C e T : Addr} {l : List Env} {H : Hp} {a0 : Value}
theorem Fly.flying (x : Fly base C l H h0 e T a0 h) : Heap.FlyingW (xl3 h l e T) l e (.ref C) a0 h := by
  obtain ⟨oe, vs, oT, ts, h1, h2, h3, h4, h5, h6, h7, h8⟩ := x.tr
  refine ⟨fun b o q => PySem.W.of_hideAll _ q, PySem.W.hideAll_none _ List.mem_cons_self, PySem.W.funFrames_hide x.fr fun env m a q => List.mem_cons_of_mem _ (List.mem_cons_of_mem _ (xg1 m q)), ?_⟩
  exact ⟨oe, vs, T, oT, ts, h1, h2, h3, h4, PySem.W.hideAll_none _ (List.mem_cons_of_mem _ List.mem_cons_self), h5, h6, h7, h8⟩
theorem Fly.base_in (x : Fly base C l H h0 e T a0 h) : base.StaysIn (xl3 h l e T) := fun b o q => by
  refine PySem.W.hideAll_get _ (x.st b o q) fun m => ?_
  rcases List.mem_cons.mp m with z | m
  . rw [z, x.be] at q; cases q
  . rcases List.mem_cons.mp m with z | m
    . rw [z, x.bT] at q; cases q
    . rw [(x.fr.mem m).1] at q; cases q
theorem Fly.next {P : Program} {w : World} (x : Fly base C l H h0 e T a0 h) (ok : HOk P w H h) (th : ∀ b o, h0.get? b = some o -> ∃ o', h.get? b = some o') {h' : Heap} {l' : List Env} (ups : h.UpToSlots h') (f : Heap.FlyingW (xl3 h l e T) l' e (.ref C) a0 h') : ∃ T', Fly base C l' H h0 e T' a0 h' := by
  obtain ⟨k1, k2, k3, oe, vs, T', oT, ts, h1, h2, h3, h4, h5, h6, h7, h8, h9⟩ := f
  have hT : T' = T \/ h.get? T' = none := by
    rcases yv4 h5 with m | m
    . rcases List.mem_cons.mp m with z | m
      . exact absurd z h6
      . rcases List.mem_cons.mp m with z | m
        . exact .inl z
        . obtain ⟨_, o, q1, q2⟩ := x.fr.mem m
          obtain ⟨sl, q3⟩ := ups T' o q1 q2
          rw [h7] at q3; cases q3
          exact absurd h8 (q2 _)
    . exact .inr m
  refine ⟨T', x.ne, ?_, x.He, ?_, fun b o q => k1 b o (x.base_in b o q), x.be, ?_, PySem.W.funFrames_base x.base_in k3, oe, vs, oT, ts, h1, h2, h3, h4, h6, h7, h8, h9⟩
  . rcases hT with z | z
    . rw [z]; exact x.nT
    . cases q : h0.get? T' with
      | none => rfl
      | some o => obtain ⟨o', q'⟩ := th _ _ q; rw [z] at q'; cases q'
  . rcases hT with z | z
    . rw [z]; exact x.HT
    . exact ok.none_of z
  . cases q : base.get? T' with
    | none => rfl
    | some o => have := x.base_in T' o q; rw [h5] at this; cases this
theorem Fly.keep (x : Fly base C l H h0 e T a0 h) {h' : Heap} (st : (xl3 h l e T).StaysIn h') {b : Addr} {o : Obj} (q : h.get? b = some o) (n1 : b ∉ frs l) (n2 : b ≠ e) (n3 : b ≠ T) : h'.get? b = some o :=
  st b o (PySem.W.hideAll_get _ q fun m => by
    rcases List.mem_cons.mp m with z | m
    . exact n2 z
    . rcases List.mem_cons.mp m with z | m
      . exact n3 z
      . exact n1 m)
end
end L2
namespace L2
open PySem PySem.Spec PyProof.Rows
theorem yr9 {base h h' : Heap} {H : Hp} {S : List Addr} {l : List Env} (fr : h.FunFrames base l) (ups : h.UpToSlots h') (st : (PySem.W.hideAll h (S ++ frs l)).StaysIn h') : Un (frs l) S H H h h' := by
  have kp : ∀ b o, h.get? b = some o -> b ∉ frs l -> b ∉ S -> h'.get? b = some o := fun b o q n1 n2 => st b o (PySem.W.hideAll_get _ q fun m => (List.mem_append.mp m).elim n2 n1)
  have sl : ∀ b o, h.get? b = some o -> b ∈ frs l -> ∃ s, h'.get? b = some { o with slots := s } := fun b o q m => by
    obtain ⟨_, o', q1, q2⟩ := fr.mem m
    rw [q] at q1; cases q1
    exact ups b o q q2
  refine ⟨fun b o q _ hb hx => kp b o q hb hx, fun b o q _ hb _ => sl b o q hb, fun _ _ _ n _ => n, fun b o q hx => ?_, fun _ _ q => q, fun _ _ _ q => q, fun _ ps q => ⟨#[], by rw [q]; simp⟩⟩
  by_cases hb : b ∈ frs l
  . obtain ⟨s, e⟩ := sl b o q hb; exact ⟨_, e⟩
  . exact ⟨o, kp b o q hb hx⟩
theorem ys0 {fs fs' ex' : List Addr} {H H' : Hp} {h h' : Heap} (u : Un fs' ex' H H' h h') (hx : ∀ b o, h.get? b = some o -> b ∉ ex') (hf : ∀ b o, h.get? b = some o -> b ∈ fs' -> b ∈ fs) : Un fs [] H H' h h' :=
  ⟨fun b o q n hb _ => u.keep b o q n (fun z => hb (hf b o q z)) (hx b o q), fun b o q n _ _ => u.any q n (hx b o q), fun b o q n _ => u.free b o q n (hx b o q), fun b o q _ => u.there b o q (hx b o q), u.tups, u.frzs, u.tbls⟩
theorem ym1 {P : Program} {w : World} {h h' : Heap} {H : Hp} {S : List Addr} {l : List Env} (ok : HOk P w H h) (hS : ∀ b ∈ S, H b = none) (hF : ∀ b ∈ frs l, H b = none) (st : (PySem.W.hideAll h (S ++ frs l)).StaysIn h') : HOk P w H h' :=
  ok.but fun b o u e q => st b u (PySem.W.hideAll_get _ q fun m => by
    rcases List.mem_append.mp m with m | m
    . rw [hS b m] at e; cases e
    . rw [hF b m] at e; cases e)
noncomputable def CXn (P : Program) (w : World) (base : Heap) (C : Addr) : CXT := fun outer H s E e s' => ∃ ea T a0 H', e = .ref ea /\ s'.os = s.os /\ AllBare s'.gens /\ Un (frs outer) [] H H' s.heap s'.heap /\ HOk P w H' s'.heap /\ Fly base C outer H' s.heap ea T a0 s'.heap /\ E (.ref C) none H'
theorem Fly.down {base h0 h1 h : Heap} {C e T : Addr} {l : List Env} {H : Hp} {a0 : Value} (x : Fly base C l H h1 e T a0 h) (th : ∀ b o, h0.get? b = some o -> ∃ o', h1.get? b = some o') : Fly base C l H h0 e T a0 h := by
  have none : ∀ {b : Addr}, h1.get? b = none -> h0.get? b = none := fun {b} z => by
    cases q : h0.get? b with
    | none => rfl
    | some o => obtain ⟨o', q'⟩ := th _ _ q; rw [z] at q'; cases q'
  exact ⟨none x.ne, none x.nT, x.He, x.HT, x.st, x.be, x.bT, x.fr, x.tr⟩
section
variable {P : Program} {w : World} {K : PySem.W.Frag} {mg : Str -> Option Value} {base : Heap} {N : List Str} {qual : Str} {scope : Scope} {f C : Addr} {cd : Value} {A : Around} {outer : List Env} {s : Shared} {H : Hp} {E : XK}
theorem yi9 : frs (envOfC qual scope s.heap.objs.size f cd :: outer) = s.heap.objs.size :: frs outer := rfl
theorem wg6 : zu7 (CXn P w base C) (zk9 (CXn P w base C) P w K mg base N qual scope f cd A outer s H E) E := by
  intro pins σ H1 s1 e s2 I h
  obtain ⟨ea, T, a0, H2, rfl, os, bare, un, hok, fly, q⟩ := h
  have stk : ∀ b ∈ frs (envOfC qual scope s.heap.objs.size f cd :: outer), H2 b = none := fun b m => by
    obtain ⟨_, o, q1, _⟩ := (show s1.heap.FunFrames base (envOfC qual scope s.heap.objs.size f cd :: outer) from I.stack).mem m
    exact un.free b o q1 (I.stkFree b m) (by simp)
  have th1 : ∀ b o, s1.heap.get? b = some o -> ∃ o', s2.heap.get? b = some o' := fun b o q => un.there b o q (by simp)
  have th0 : ∀ b o, s.heap.get? b = some o -> ∃ o', s1.heap.get? b = some o' := fun b o q => I.base.there b o q (by show b ∉ ([] : List Addr); simp)
  show wpAny (model P w) (A.deeper (envOfC qual scope s.heap.objs.size f cd)) (leaving (envOfC qual scope s.heap.objs.size f cd) (.ref ea)) (fun _ s'' => CXn P w base C outer H s E (.ref ea) s'') (fun e' s'' => CXn P w base C outer H s E e' s'') s2
  refine wpAny_leaves_onW (L := s.heap.objs.size) I.ok.frames rfl fly.flying fun h' fl ups => ?_
  obtain ⟨T', fly'⟩ := fly.next hok th1 ups fl
  have st : (PySem.W.hideAll s2.heap ([ea, T] ++ frs (envOfC qual scope s.heap.objs.size f cd :: outer))).StaysIn h' := fl.1
  have u1 : Un (frs (envOfC qual scope s.heap.objs.size f cd :: outer)) [ea, T] H H1 s.heap s1.heap := (show Un (frs outer) [] H H1 s.heap s1.heap from I.base).mono (fun b m => by rw [yi9]; exact List.mem_cons_of_mem _ m) (fun b m => absurd m (by simp))
  have u2 := un.mono (fs' := frs (envOfC qual scope s.heap.objs.size f cd :: outer)) (ex' := [ea, T]) (fun b m => m) (fun b m => absurd m (by simp))
  have u3 : Un (frs (envOfC qual scope s.heap.objs.size f cd :: outer)) [ea, T] H2 H2 s2.heap h' := yr9 fly.fr ups st
  refine ⟨ea, T', a0, H2, rfl, os.trans (show s1.os = s.os from I.os), bare, ys0 ((u1.trans u2).trans u3) (fun b o q m => ?_) (fun b o q m => ?_), ym1 hok (fun b m => ?_) stk st, fly'.down th0, q⟩
  . obtain ⟨o', q'⟩ := th0 b o q
    rcases List.mem_cons.mp m with z | m
    . rw [z, fly.ne] at q'; cases q'
    . rw [List.mem_singleton.mp m, fly.nT] at q'; cases q'
  . rw [yi9] at m
    rcases List.mem_cons.mp m with z | m
    . exact absurd (Heap.lt_size q) (by rw [z]; exact Nat.lt_irrefl _)
    . exact m
  . rcases List.mem_cons.mp m with z | m
    . rw [z]; exact fly.He
    . rw [List.mem_singleton.mp m]; exact fly.HT
end
end L2
namespace L2
open PySem PySem.Spec PyProof.Rows
section
variable {P : Program} {w : World} {K : PySem.W.Frag} {mg : Str -> Option Value} {base : Heap} {N : List Str} {qual : Str} {scope : Scope} {f C : Addr} {cd : Value} {A : Around} {outer : List Env} {s : Shared} {H : Hp} {E : XK}
theorem xo4 {pins : List (Addr × Obj)} {σ : St} {H1 : Hp} {s1 : Shared} {h' : Heap} {e : Addr} {vs : List Value} (I : Inv (zk9 (CXn P w base C) P w K mg base N qual scope f cd A outer s H E) pins σ H1 s1) (mk : Heap.MadeExcOf s1.heap h' e (.ref C) vs) (q : E (.ref C) none H1) :
    (zk9 (CXn P w base C) P w K mg base N qual scope f cd A outer s H E).xe (.ref e) { s1 with heap := h' } := by
  obtain ⟨t, he, ht, _⟩ := mk.there
  have fr0 : s1.heap.FunFrames base (envOfC qual scope s.heap.objs.size f cd :: outer) := I.stack
  have fr1 : h'.FunFrames base (envOfC qual scope s.heap.objs.size f cd :: outer) := fr0.of_keeps fun b o q _ => ⟨o, mk.keeps b o q, rfl⟩
  have nf : ∀ b ∈ frs (envOfC qual scope s.heap.objs.size f cd :: outer), base.get? b = none := fun b m => (fr0.mem m).1
  have th0 : ∀ b o, s.heap.get? b = some o -> ∃ o', s1.heap.get? b = some o' := fun b o q => I.base.there b o q (by show b ∉ ([] : List Addr); simp)
  have bin : base.StaysIn (PySem.W.hideAll h' ([e] ++ frs (envOfC qual scope s.heap.objs.size f cd :: outer))) := fun b o q => by
    have q1 := I.bk b o q
    refine PySem.W.hideAll_get _ (mk.keeps b o q1) fun m => ?_
    rcases List.mem_append.mp m with m | m
    . rw [List.mem_singleton.mp m, mk.new] at q1; cases q1
    . rw [nf b m] at q; cases q
  show wpAny (model P w) (A.deeper (envOfC qual scope s.heap.objs.size f cd)) (leaving (envOfC qual scope s.heap.objs.size f cd) (.ref e)) (fun _ s'' => CXn P w base C outer H s E (.ref e) s'') (fun e' s'' => CXn P w base C outer H s E e' s'') { s1 with heap := h' }
  refine wpAny_leaving_firstW (base := PySem.W.hideAll h' ([e] ++ frs (envOfC qual scope s.heap.objs.size f cd :: outer))) (L := s.heap.objs.size) (a0 := .ref t) I.ok.frames (PySem.W.funFrames_hide fr1 fun env m a q => List.mem_append_right _ (xg1 m q)) rfl he (fun b o q => PySem.W.of_hideAll _ q) (PySem.W.hideAll_none _ (List.mem_append_left _ (List.mem_singleton_self e))) rfl rfl rfl fun h'' hL => ?_
  obtain ⟨st, fr2, ⟨oe, vs2, T, oT, ts, h1, h2, h3, h4, h5, h6, h7, h8, h9⟩, ups⟩ := hL
  have hT : h'.get? T = none := by
    rcases yv4 h5 with m | m
    . rcases List.mem_append.mp m with m | m
      . exact absurd (List.mem_singleton.mp m) h6
      . obtain ⟨_, o, q1, q2⟩ := fr1.mem m
        obtain ⟨sl, q3⟩ := ups T o q1 q2
        rw [h7] at q3; cases q3
        exact absurd h8 (q2 _)
    . exact m
  have hT1 : s1.heap.get? T = none := by
    cases z : s1.heap.get? T with
    | none => rfl
    | some o => have := mk.keeps T o z; rw [hT] at this; cases this
  have u1 : Un (frs (envOfC qual scope s.heap.objs.size f cd :: outer)) [e] H H1 s.heap s1.heap := (show Un (frs outer) [] H H1 s.heap s1.heap from I.base).mono (fun b m => by rw [yi9]; exact List.mem_cons_of_mem _ m) (fun b m => absurd m (by simp))
  have u2 : Un (frs (envOfC qual scope s.heap.objs.size f cd :: outer)) [e] H1 H1 s1.heap h' := Un.kept mk.keeps
  have u3 : Un (frs (envOfC qual scope s.heap.objs.size f cd :: outer)) [e] H1 H1 h' h'' := yr9 fr1 ups st
  have He : H1 e = none := I.hok.none_of mk.new
  have fly : Fly base C outer H1 s1.heap e T (.ref t) h'' := by
    refine ⟨mk.new, hT1, He, I.hok.none_of hT1, fun b o q => st b o (bin b o q), ?_, ?_, PySem.W.funFrames_base bin fr2.2.2, oe, vs2, oT, ts, h1, h2, h3, h4, h6, h7, h8, h9⟩
    . cases z : base.get? e with
      | none => rfl
      | some o => have := I.bk e o z; rw [mk.new] at this; cases this
    . cases z : base.get? T with
      | none => rfl
      | some o => have := I.bk T o z; rw [hT1] at this; cases this
  refine ⟨e, T, .ref t, H1, rfl, (show s1.os = s.os from I.os), I.bare, ys0 ((u1.trans u2).trans u3) (fun b o q m => ?_) (fun b o q m => ?_), ym1 (I.hok.kept mk.keeps) (fun b m => ?_) I.stkFree st, fly.down th0, q⟩
  . obtain ⟨o', q'⟩ := th0 b o q
    rw [List.mem_singleton.mp m, mk.new] at q'; cases q'
  . rw [yi9] at m
    rcases List.mem_cons.mp m with z | m
    . exact absurd (Heap.lt_size q) (by rw [z]; exact Nat.lt_irrefl _)
    . exact m
  . rw [List.mem_singleton.mp m]; exact He
theorem xo5 {x z : Str} {np cpos pos p1 : Pos} {j : Nat} {B newId initId : String} {bmB : List Value} (O : OwnCls x C bmB newId mg base) (FB : ExcBaseFacts B newId initId bmB) (hg : Gl (zk9 (CXn P w base C) P w K mg base N qual scope f cd A outer s H E) x)
    (hd : (x == ("__debug__" : Str)) = false := by decide) (hs : starEach [.Constant (.str z) j p1] (envOfC qual scope s.heap.objs.size f cd) = [(false, eval (.Constant (.str z) j p1) (envOfC qual scope s.heap.objs.size f cd))] := by rfl) :
    PS (zk9 (CXn P w base C) P w K mg base N qual scope f cd A outer s H E) (.Raise (some (.Call (.Name x np) [.Constant (.str z) j p1] [] cpos)) none pos) (fun _ _ H' => E (.ref C) none H') := by
  intro pins s1 σ H1 D I h
  obtain ⟨tl, N', nm, q, bs, hdct, sn, sub, ab, col, dd, k0, k1, k2, k3, k5, mN, hC, hN, hni, T⟩ := O.obj
  refine wpAny_Raise_call_subT (C := C) (nm := nm) (q := q) (N := N') (bs := bs) (bm := tl) (hdct := hdct) (sn := sn) (sub := sub) (ab := ab) (col := col) (dd := dd) (k0 := k0) (k1 := k1) (k2 := k2) (k3 := k3) (k5 := k5)
    FB (mN := mN) (T.hasType FB.hasBase) (I.ok.hd rfl) (by show (backTo cpos (starEach [.Constant (.str z) j p1] (envOfC qual scope s.heap.objs.size f cd))).any (·.1) = false; rw [hs]; rfl) hni (zy6 I hg O.bound ⟨rfl, ?_⟩ hd)
  show wpAny (model P w) (A.deeper (envOfC qual scope s.heap.objs.size f cd)) (evalArgs (.ref C) true (backTo cpos (starEach [.Constant (.str z) j p1] (envOfC qual scope s.heap.objs.size f cd))) []) _ _ s1
  rw [hs]
  refine Calls.evalArgs_plain (Calls.spliced_cons (Calls.Constant_str (k := j) (pos := p1) (Calls.spliced_nil ?_)))
  have kp : ∀ b o, base.get? b = some o -> s1.heap.get? b = some o := I.bk
  refine ⟨rfl, (show 1 <= sizeLine from Nat.le_trans (by decide) (yg0 (n := 1) (by decide))), kp _ _ hC, hN.keeps kp, T.keeps kp, fun h' e mk => ?_⟩
  exact xo4 (I.tok (s1.toks + 1)) mk h
end
end L2
namespace L2
open PySem PySem.Spec PyProof.Rows
noncomputable def tX (φ : Fx) (fx : PSt -> Bool) (Ex : Hp -> Prop) : TS := fun _ σ H => ∃ ps F, RS φ H σ ps F /\ fx ps = true /\ ∀ H', Frm F H H' -> Ex H'
noncomputable def yb9 (np : Nat) (K : PySem.W.Frag) (κ : Str -> Addr) (C : Addr) (g : List D -> Bool) : Sp := fun vs H _ E => vs.length = np /\ ∃ ds fp, Reps K κ H vs ds fp /\ g ds = true /\ ∀ H', SameK H H' -> E (.ref C) none H'
noncomputable def gX (np n : Nat) (fx : PSt -> Bool) : List D -> Bool := fun ds => decide (ds.length = np) && fx (ds.map some ++ List.replicate n none)
noncomputable def ye6 (f : PSt -> Option (Fl × PSt)) (fx : PSt -> Bool) : PSt -> Bool := fun ps => match f ps with
  | some (.nx, p) => fx p
  | _ => false
noncomputable def yu0 (ft : PSt -> Option Bool) (fx : PSt -> Bool) : PSt -> Bool := fun ps => match ft ps with
  | some true => fx ps
  | _ => false
noncomputable def yx5 : PSt -> Bool := fun _ => true
noncomputable def yj9 (C m : Str) (fo : PSt -> Option D) (g : List D -> Bool) : PSt -> Bool := fun ps => match zi2 C m fo ps with
  | some d => g [d]
  | none => false
noncomputable abbrev QX (X : Cx) (κ : Str -> Addr) (φ : F0) (Ex : Hp -> Prop) (st : Stmt) (fx : PSt -> Bool) : Prop := PS X st (tX (φ.fx X.K κ) fx Ex)
noncomputable abbrev QXs (X : Cx) (κ : Str -> Addr) (φ : F0) (Ex : Hp -> Prop) (st : List Stmt) (fx : PSt -> Bool) : Prop := PSs X st (tX (φ.fx X.K κ) fx Ex)
theorem PS.nox {X : Cx} {st : Stmt} {t : TS} (h : PS X.nox st t) : PS X st t := fun pins s σ H D I hw =>
  wpAny_mono (h pins s σ H D (I.wish _) hw) (fun _ _ q => q.unwish) fun _ _ z => False.elim z
theorem xo6 {H H' : Hp} (k : Frm (fun _ => []) H H') : SameK H H' := ⟨fun a o h kk => k.keep a o h kk (fun _ => by simp), k.grow⟩
section
variable {P : Program} {w : World} {K : PySem.W.Frag} {mg : Str -> Option Value} {base : Heap} {κ : Str -> Addr} {C : Addr}
theorem ya8 {x qual : Str} {st : Stmt} {f : Addr} {fd : FuncData} {N ps : List Str} {k : Nat} {fx : PSt -> Bool} (F : Fun K x qual st f fd) (S : FnScope N ps (za4 st))
    (hbody : ∀ (cdv : Value) (A : Around) (outer : List Env) (s : Shared) (H : Hp) (E : XK) (B : Nat -> Addr -> Prop), Room k (A.deeper (envOfC qual (za4 st) s.heap.objs.size f cdv)) ->
      QXs (zk9 (CXn P w base C) P w K mg base N qual (za4 st) f cdv A outer s H E) κ (f0P ps.length B) (E (.ref C) none) (zd1 st) fx) :
    FnOk P w K mg base (CXn P w base C) (k + 1) f fd ps (yb9 ps.length K κ C (gX ps.length (N.length - ps.length) fx)) := by
  obtain ⟨oc, od, kV, doc, pm, an, cdv, ct, osl, rfl, lk, hcd⟩ := F.ex
  refine xv1 lk hcd S (fun vs H Q E h => h.1) fun A outer s H vs Q E hr hsp => ?_
  obtain ⟨hl, ds, fp, r, e, q⟩ := hsp
  have hn : ps.length <= N.length := by have := congrArg List.length S.pre; rw [List.length_take] at this; omega
  refine ⟨_, hbody cdv A outer s H E (fun _ a => a ∈ fp) hr, _, fun _ => [], RS.start r hl hn, ?_, fun H' fr => q H' (xo6 fr)⟩
  unfold gX at e
  exact (Bool.and_eq_true_iff.mp e).2
end
section
variable {X : Cx} {κ : Str -> Addr} {φ : F0} {Ex : Hp -> Prop} {fx : PSt -> Bool} {st : Stmt} {zb1 : List Stmt} {pos : Pos}
theorem yv5 : PSs X zb1 (fun _ _ _ => False) := fun _ _ _ _ _ _ h => h.elim
theorem yj0 {f : PSt -> Option (Fl × PSt)} (h1 : QS X.nox κ φ st f) (h2 : QXs X κ φ Ex zb1 fx) : QXs X κ φ Ex (st :: zb1) (ye6 f fx) :=
  (zp4 (PS.nox h1) h2).imp fun D σ H hh_ => by
    obtain ⟨ps, F, R, e, q⟩ := hh_
    unfold ye6 at e
    split at e
    . rename_i p he
      refine ⟨ps, F, .nx, p, R, he, fun σ' H' F' s => ⟨p, F', s.rs, e, fun H'' fr => q H'' ⟨fun a o h k n => fr.keep a o (s.fr.keep a o h k n) k fun i m => ?_, fun a z => s.fr.grow a (fr.grow a z)⟩⟩⟩
      rcases s.nw i a m with ⟨j, z⟩ | z
      . exact n j z
      . rw [z] at h; cases h
    . cases e
theorem yc6 (h1 : QX X κ φ Ex st fx) : QXs X κ φ Ex (st :: zb1) fx := (zp4 h1 yv5).imp fun D σ H h => h
theorem xj4 {c : Expr} {a b : List Stmt} {ft : PSt -> Option Bool} (hc : QT X.nox κ c ft) (ha : QXs X κ φ Ex a fx) : QX X κ φ Ex (.If c a b pos) (yu0 ft fx) :=
  (xg8 (PT.nox hc) ha yv5).imp fun D σ H hh_ => by
    obtain ⟨ps, F, R, e, q⟩ := hh_
    unfold yu0 at e
    split at e
    . rename_i he
      refine ⟨ps, true, R.ws, he, fun H' s => ?_⟩
      show (if true = true then tX (φ.fx X.K κ) fx Ex D σ H' else _)
      rw [if_pos rfl]
      exact ⟨ps, F, R.same s, e, fun H'' fr => q H'' ⟨fun a o h k n => fr.keep a o (s.keep a o h k) k n, fun a z => s.grow a (fr.grow a z)⟩⟩
    . cases e
end
section
variable {P : Program} {w : World} {K : PySem.W.Frag} {mg : Str -> Option Value} {base : Heap} {N : List Str} {qual : Str} {scope : Scope} {f C : Addr} {cd : Value} {A : Around} {outer : List Env} {s : Shared} {H : Hp} {E : XK} {κ : Str -> Addr} {φ : F0}
theorem ym2 {x z : Str} {np cpos pos p1 : Pos} {j : Nat} {B newId initId : String} {bmB : List Value} (O : OwnCls x C bmB newId mg base) (FB : ExcBaseFacts B newId initId bmB) (hg : Gl (zk9 (CXn P w base C) P w K mg base N qual scope f cd A outer s H E) x)
    (hd : (x == ("__debug__" : Str)) = false := by decide) (hs : starEach [.Constant (.str z) j p1] (envOfC qual scope s.heap.objs.size f cd) = [(false, eval (.Constant (.str z) j p1) (envOfC qual scope s.heap.objs.size f cd))] := by rfl) :
    QX (zk9 (CXn P w base C) P w K mg base N qual scope f cd A outer s H E) κ φ (E (.ref C) none) (.Raise (some (.Call (.Name x np) [.Constant (.str z) j p1] [] cpos)) none pos) yx5 :=
  (xo5 O FB hg hd hs).imp fun D σ H' hh_ => by
    obtain ⟨ps, F, R, e, q⟩ := hh_
    exact q H' ⟨fun a o h _ _ => h, fun a h => h⟩
theorem ys1 {Cn m qual' : Str} {st : Stmt} {ps : List Str} {fm : Addr} {fd : FuncData} {k : Nat} {g : List D -> Bool} {o : Expr} {fo : PSt -> Option D} {apos pos pos' : Pos} {pl : Sem Bool} (M : Mn K κ Cn m qual' st ps fm fd) (G : FnOk P w K mg base (CXn P w base C) k fm fd ps (yb9 1 K κ C g))
    (hr : Room k (A.deeper (envOfC qual scope s.heap.objs.size f cd))) (ho : QV (zk9 (CXn P w base C) P w K mg base N qual scope f cd A outer s H E).nox κ o fo)
    (ht : eval (.Call (.Attribute o m apos) [] [] pos) (envOfC qual scope s.heap.objs.size f cd) = (do
      let ov <- eval o (envOfC qual scope s.heap.objs.size f cd)
      standAt apos.atName
      let (f', first) <- holding [ov] (getMethod ov m pl)
      callWith pos f' first (backTo pos (starEach [] (envOfC qual scope s.heap.objs.size f cd))) (backToKw pos (keywordEach [] (envOfC qual scope s.heap.objs.size f cd)))) := by rfl) :
    QX (zk9 (CXn P w base C) P w K mg base N qual scope f cd A outer s H E) κ φ (E (.ref C) none) (.Return (some (.Call (.Attribute o m apos) [] [] pos)) pos') (yj9 Cn m fo g) :=
  (yc1 (yy0 (X := zk9 (CXn P w base C) P w K mg base N qual scope f cd A outer s H E) (PE.nox ho) M.c M.h G hr M.b .nil wg6 ht)).imp fun D σ H1 hh_ => by
    obtain ⟨ps, F, R, e, q⟩ := hh_
    unfold yj9 at e
    split at e
    . rename_i d he
      obtain ⟨ns, vs, rfl, k5, k6⟩ := yp0 he
      refine ⟨ps, _, R.ws, k5, fun v H2 fp s1 r1 => ?_⟩
      have r1' := r1
      obtain ⟨_, _, _, _, rfl, hl, hn, hs, rfl⟩ := r1.objT_inv
      subst hn
      exact ⟨_, _, _, rfl, hl, zw4 k6, rfl, _, _, Reps.one r1', e, fun H' s2 => q H' ⟨fun a o h kk _ => (s1.trans s2).keep a o h kk, (s1.trans s2).grow⟩⟩
    . cases e
end
end L2
namespace L2
open PySem PySem.Spec PyProof.Rows
theorem PA.nox {X : Cx} {es : List Expr} {t : TA} (h : PA X.nox es t) : PA X es t := fun pos pins s σ H Q I hw =>
  wpAny_mono (h pos pins s σ H Q (I.wish _) hw) (fun _ _ q => by obtain ⟨vs, H', I', r, q⟩ := q; exact ⟨vs, H', I'.unwish, r, q⟩) fun _ _ z => False.elim z
noncomputable def xd1 (g : List D -> Bool) (fa : PSt -> Option (List D)) : PSt -> Option (Fl × PSt) := fun ps => (fa ps).bind fun ds => if g ds = true then some (.ret (.bl true), ps) else none
section
variable {X : Cx} {C : Addr} {pins : List (Addr × Obj)} {σ : St} {H1 : Hp} {s1 s2 : Shared} {D : Ends} {E1 : XK} {e : Value}
theorem xy5 {x : Str} {np p3 p4 p5 : Pos} {j : Nat} {bmB : List Value} {newId : String} {E : Value -> Shared -> Prop} (I : Inv X pins σ H1 s1) (hstk : X.stack = X.env :: X.outer) (hf : X.env.frame = some X.env.locals) (O : OwnCls x C bmB newId X.mg X.base) (hbase : bmB.contains (.type "BaseException") = true) (hg : Gl X x)
    (h : CXn X.prog X.w X.base C X.stack H1 s1 E1 e s2) (q : ∀ H', E1 (.ref C) none H' -> D.rt (.bl true) H') (hd : (x == ("__debug__" : Str)) = false := by decide) :
    wpAny (model X.prog X.w) X.A (noteFrame e X.env) (fun _ s3 => wpAny (model X.prog X.w) X.A (setFlight e none) (fun _ s4 => wpAny (model X.prog X.w) X.A (handleBy e X.env [.ExceptHandler (some (.Name x np)) none [.Return (some (.Constant (.bool true) j p3)) p4] p5]) (SP X pins D) E s4) E s3) E s2 := by
  obtain ⟨ea, T, a0, H2, rfl, os, bare, un, hok, fly, q0⟩ := h
  rw [hstk] at un fly
  have hfr : X.A.frames = some (X.env :: X.outer) := by rw [<- hstk]; exact I.ok.frames
  refine wpAny_looks_onW (L := X.env.locals) hfr hf fly.flying fun h4 held4 ups4 => ?_
  refine wpAny_landsW held4 fun h5 held ups5 => ?_
  have kp5 : ∀ b o, X.base.get? b = some o -> h5.get? b = some o := fun b o z => held.1 b o (fly.base_in b o z)
  obtain ⟨ob, hob, hobc⟩ := held.there
  obtain ⟨bm, N, nm, qn, bs, hdct, sn, sub, ab, col, dd, k0, k1, k2, k3, k5, mN, hC, hN, hni, TL⟩ := (O.keeps kp5).obj
  refine wpAny_handleBy_cons (codeAny_handlers_test (Calls.Name_function_global I.ok.kind hg (Calls.loadGlobal_global (by rw [I.ok.glob]; exact I.ok.mod.glob.keeps kp5) O.bound ?_) hd)) (by intro q; cases q)
  refine wpAny_excMatches_sub_self hC hob hobc (TL.hasType hbase) (codeAny_handlers_suite ?_)
  refine lands_againW held fun h6 fl6 ups6 => ?_
  refine wpAny_execs_cons (wpAny_Return_some (Constant_bool ?_))
  have ups : s2.heap.UpToSlots h6 := (ups4.trans ups5).trans ups6
  have st : (PySem.W.hideAll s2.heap ([ea, T] ++ frs (X.env :: X.outer))).StaysIn h6 := fl6.1
  have stk : ∀ b ∈ frs (X.env :: X.outer), H2 b = none := fun b m => by
    have m' : b ∈ frs X.stack := by rw [hstk]; exact m
    obtain ⟨_, o, q1, _⟩ := I.stack.mem m'
    exact un.free b o q1 (I.stkFree b m') (by simp)
  have u2 := un.mono (fs' := frs (X.env :: X.outer)) (ex' := [ea, T]) (fun b m => m) (fun b m => absurd m (by simp))
  have u3 : Un (frs (X.env :: X.outer)) [ea, T] H2 H2 s2.heap h6 := yr9 fly.fr ups st
  have ce : CE X.stack X.prog X.w H1 s1 D.rt (.bool true) { s2 with heap := h6 } := by
    rw [hstk]
    refine ⟨.bl true, H2, os, bare, ys0 (u2.trans u3) (fun b o z m => ?_) (fun _ _ _ m => m), ym1 hok (fun b m => ?_) stk st, rfl, q H2 q0⟩
    . rcases List.mem_cons.mp m with y | m
      . rw [y, fly.ne] at z; cases z
      . rw [List.mem_singleton.mp m, fly.nT] at z; cases z
    . rcases List.mem_cons.mp m with z | m
      . rw [z]; exact fly.He
      . rw [List.mem_singleton.mp m]; exact fly.HT
  obtain ⟨v, H', I', r, qv⟩ := I.after ce
  exact ⟨v, σ, H', I', r, qv⟩
end
section
variable {X : Cx} {C : Addr} {κ : Str -> Addr} {φ : F0}
theorem xa0 {x cx : Str} {st : Stmt} {ps : List Str} {fa : Addr} {fd : FuncData} {k np : Nat} {g : List D -> Bool} {e : Expr} {es : List Expr} {ga : PSt -> Option (List D)} {p pos pos2 np' p3 p4 p5 pos6 : Pos} {j : Nat} {bmB : List Value} {newId : String}
    (Dd : Dn X.K X.mg x st ps fa fd) (G : FnOk X.prog X.w X.K X.mg X.base (CXn X.prog X.w X.base C) k fa fd ps (yb9 np X.K κ C g)) (O : OwnCls cx C bmB newId X.mg X.base) (hbase : bmB.contains (.type "BaseException") = true) (hr : Room k X.A) (hg : Gl X x) (hgc : Gl X cx) (hnp : (e :: es).length = np) (ha : QVA X.nox κ (e :: es) ga) (hlen : ∀ ps ds, ga ps = some ds -> ds.length = (e :: es).length)
    (hstk : X.stack = X.env :: X.outer) (hf : X.env.frame = some X.env.locals)
    (hdb : (x == ("__debug__" : Str)) = false := by decide) (hdc : (cx == ("__debug__" : Str)) = false := by decide) (he : starEach (e :: es) X.env = (false, eval e X.env) :: starEach es X.env := by rfl) (hpl : (backTo pos (starEach es X.env)).any (·.1) = false := by rfl)
    (hs : swapsWith (.Call (.Name x p) (e :: es) [] pos) none pos2.line X.env = pure false := by rfl) :
    QS X.nox κ φ (.Try [.Expr (.Call (.Name x p) (e :: es) [] pos) pos2] [.ExceptHandler (some (.Name cx np')) none [.Return (some (.Constant (.bool true) j p3)) p4] p5] [] [] pos6) (xd1 g ga) := by
  intro pins s σ H D I hh_
  obtain ⟨pp, F, fl, ps', R, e1, q⟩ := hh_
  obtain ⟨ds, e2, e3⟩ := bind_some e1
  obtain ⟨hgd, e4⟩ := ze5 e3
  cases e4
  have J : Inv X pins σ H s := I.unwish
  refine wpAny_Try_except ?_
  show wpAny (model X.prog X.w) X.A (execs [.Expr (.Call (.Name x p) (e :: es) [] pos) pos2] X.env) _ _ s
  refine wpAny_execs_cons (wpAny_Expr_any ?_ J.quiet hs)
  refine wpAny_Call_Name_kw (zy6 J hg Dd.m ?_ hdb)
  refine PySem.W.callWith_K (h₀ := X.base) J.ok.mod.kin Dd.F.kp (wpAny_mono (ha pos pins s σ H (fun vs H1 => SameK H H1 /\ ∃ fp, Reps X.K κ H1 vs ds fp) I ⟨pp, ds, R.ws, e2, fun vs H1 fp s1 r1 => ⟨s1, fp, r1⟩⟩) (fun us s1 hu => ?_) fun _ _ z => z.elim) he hpl
  obtain ⟨vs, H1, I1, r, sm, fp, rs⟩ := hu
  have J1 : Inv X pins σ H1 s1 := I1.unwish
  refine ⟨J1.kIn, ?_⟩
  have hl : vs.length = np := by rw [rs.length, hlen pp ds e2, hnp]
  have hps : ps.length = np := (G.len vs H1 (fun _ _ => False) (fun _ _ _ => True) ⟨hl, ds, fp, rs, hgd, fun _ _ => trivial⟩).symm.trans hl
  have hlu : (us ++ ([] : List Value)).length = ps.length := by rw [List.append_nil, hps, <- hl, r.length]
  refine wpAny_call (codeAny_mono (G.run X.A X.stack s1 H1 ⟨us, []⟩ us vs (fun _ _ => False) (fun _ _ H' => D.rt (.bl true) H') hr J1.env0 (by have := Dd.b s1 us J1.kIn hlu; rwa [List.append_nil] at this) r ⟨hl, ds, fp, rs, hgd, fun H' s2 => ?_⟩) fun rr s' hq => ?_)
  . exact q (.bl true) σ H' F [] (Stp.same R (sm.trans s2)) (OwnV.new R (fun _ h => absurd h (by simp)) List.nodup_nil) (.bl true)
  . cases rr with
    | error ee =>
      exact xy5 (X := X.nox) (D := D) (E1 := fun _ _ H' => D.rt (.bl true) H') I1 hstk hf O hbase hgc hq (fun H' z => z) hdc
    | ok f2 =>
      cases f2 with
      | ret u => obtain ⟨_, _, _, _, _, _, _, z⟩ := hq; exact z.elim
      | next => exact hq.elim
      | brk => exact hq.elim
      | cont => exact hq.elim
end
noncomputable abbrev bmV : List Value := [.type "ValueError", .type "Exception", .type "BaseException", .type "object"]
theorem xy6 {K : PySem.W.Frag} {h : Heap} {C : Addr} {bm : List Value} {nid : String} (X : K.In h) (q : PySem.W.excIn K C bm nid = true) :
    ∃ bm' N nm qn bs hd sn sub ab col dd k0 k1 k2 k3 k5 mN, h.get? C = some (excClassObj nm qn C N bs bm' hd sn sub ab col dd k0 k1 k2 k3 k5 nid) /\ h.Ns N mN /\ mN "__init__" = none /\ OwnTail h bm bm' := by
  unfold PySem.W.excIn at q
  split at q
  case h_2 => cases q
  rename_i dd c sl look
  split at q
  case h_2 => cases q
  rename_i C1 bm1 a0 a1 a2 a3 n1 a5 em es
  rw [Bool.and_eq_true, Bool.and_eq_true, Bool.and_eq_true, Bool.and_eq_true, Bool.and_eq_true] at q
  obtain ⟨⟨⟨⟨⟨q1, q2⟩, q3⟩, q4⟩, q5⟩, q6⟩ := q
  have z1 := eq_of_beq q1
  have z2 := eq_of_beq q2
  have z6 := eq_of_beq q6
  subst z1 z2
  cases c with
  | mk nm bs mro ns qn hd sn sub ab col del =>
    dsimp only at em q3 q5 z6
    have z3 : del = false := by cases del <;> first | rfl | cases q3
    subst em z3
    have zs : sl = #[a0, a1, a2, a3, some (.builtin n1), a5] := by
      cases sl
      dsimp only at es
      rw [es]
    subst zs
    exact ⟨bm1, ns, nm, qn, bs, hd, sn, sub, ab, col, dd, a0, a1, a2, a3, a5, _, X _ _ look, .of_isNs (PySem.W.isNs_of_in X q5), PySem.W.nsMap_none_of_in X q5 z6, PySem.W.tail_of_in X q4⟩
end L2
namespace L3
open PySem PySem.Spec PyProof.Rows L2
@[irreducible] def PE := @L2.PE
@[irreducible] def PT := @L2.PT
@[irreducible] def PW := @L2.PW
@[irreducible] def PA := @L2.PA
@[irreducible] def PS := @L2.PS
@[irreducible] def PSs := @L2.PSs
@[irreducible] def PI := @L2.PI
@[irreducible] def PG := @L2.PG
@[irreducible] def PTs := @L2.PTs
@[irreducible] def OpR := @L2.OpR
@[irreducible] def zk0 := @L2.zk0
@[irreducible] def MtR := @L2.MtR
noncomputable abbrev QV (X : Cx) (κ : Str -> Addr) (e : Expr) (f : PSt -> Option D) : Prop := PE X e (tV X.K κ f)
noncomputable abbrev QP (X : Cx) (κ : Str -> Addr) (e : Expr) (f : PSt -> Option D) : Prop := PE X e (tP X.K κ f)
noncomputable abbrev QT (X : Cx) (κ : Str -> Addr) (e : Expr) (f : PSt -> Option Bool) : Prop := PT X e (tQ X.K κ f)
noncomputable abbrev QW (X : Cx) (κ : Str -> Addr) (e : Expr) (f : PSt -> Option Bool) : Prop := PW X e (tQ X.K κ f)
noncomputable abbrev QVA (X : Cx) (κ : Str -> Addr) (es : List Expr) (f : PSt -> Option (List D)) : Prop := PA X es (tVA X.K κ f)
noncomputable abbrev QPA (X : Cx) (κ : Str -> Addr) (es : List Expr) (f : PSt -> Option (List D)) : Prop := PA X es (tPA X.K κ f)
noncomputable abbrev QS (X : Cx) (κ : Str -> Addr) (φ : F0) (st : Stmt) (f : PSt -> Option (Fl × PSt)) : Prop := PS X st (tS (φ.fx X.K κ) f)
noncomputable abbrev QSs (X : Cx) (κ : Str -> Addr) (φ : F0) (st : List Stmt) (f : PSt -> Option (Fl × PSt)) : Prop := PSs X st (tS (φ.fx X.K κ) f)
noncomputable abbrev QE (X : Cx) (κ : Str -> Addr) (φ : F0) (e : Expr) (f : PSt -> Option (D × PSt)) : Prop := PE X e (tE (φ.fx X.K κ) f)
noncomputable abbrev QTE (X : Cx) (κ : Str -> Addr) (φ : F0) (e : Expr) (f : PSt -> Option (Bool × PSt)) : Prop := PT X e (tTE (φ.fx X.K κ) f)
noncomputable abbrev QIV (X : Cx) (κ : Str -> Addr) (tg iter : Expr) (f : PSt -> Option (List D)) : Prop := PI X tg iter (tIV X.K κ f)
noncomputable abbrev QIP (X : Cx) (κ : Str -> Addr) (tg iter : Expr) (f : PSt -> Option (List D)) : Prop := PI X tg iter (tIP X.K κ f)
noncomputable abbrev QX (X : Cx) (κ : Str -> Addr) (φ : F0) (Ex : Hp -> Prop) (st : Stmt) (fx : PSt -> Bool) : Prop := PS X st (tX (φ.fx X.K κ) fx Ex)
noncomputable abbrev QXs (X : Cx) (κ : Str -> Addr) (φ : F0) (Ex : Hp -> Prop) (st : List Stmt) (fx : PSt -> Bool) : Prop := PSs X st (tX (φ.fx X.K κ) fx Ex)
section
variable {X : Cx} {pos : Pos}
theorem zy7 {i : Nat} {x : Str} (hN : X.N.Nodup) (hi : X.N[i]? = some x) (hx : Loc X.env.scope x) (hf : X.fn x = true \/ X.env.scope.names.lookup x = some .local := by first | exact .inl rfl | exact .inr rfl | assumption) : PG X (.Name x pos) (yb1 i) := by with_unfolding_all exact L2.zy7 hN hi hx hf
end
section
variable {X : Cx} {κ : Str -> Addr} {e a b : Expr} {f fa fb : PSt -> Option D}
theorem QP.v (h : QP X κ e f) : QV X κ e f := by with_unfolding_all exact L2.QP.v h
end
section
variable {X : Cx} {κ : Str -> Addr} {e a b : Expr} {f fa fb : PSt -> Option D}
theorem QV.p (h : QV X κ e f) : QP X κ e (zb9 f) := by with_unfolding_all exact L2.QV.p h
end
section
variable {X : Cx} {κ : Str -> Addr} {e a b : Expr} {f fa fb : PSt -> Option D}
theorem za2 (i : Nat) {x : Str} {pos : Pos} (hN : X.N[i]? = some x := by rfl) (hv : Vis X.env.scope x := by first | exact Or.inl rfl | exact Or.inr (Or.inl rfl) | exact Or.inr (Or.inr rfl)) (hd : (x == ("__debug__" : Str)) = false := by decide)
    (hcd : (x == ("__classdict__" : Str)) = false := by decide) : QV X κ (.Name x pos) (za0 i) := by with_unfolding_all exact L2.za2 i hN hv hd hcd
end
section
variable {X : Cx} {κ : Str -> Addr} {e a b : Expr} {f fa fb : PSt -> Option D}
theorem zb2 {i j pos} : QP X κ (.Constant (.int i) j pos) (fC (.int i)) := by with_unfolding_all exact L2.zb2
end
section
variable {X : Cx} {κ : Str -> Addr} {e a b : Expr} {f fa fb : PSt -> Option D}
theorem ze7 {x j pos} : QP X κ (.Constant (.str x) j pos) (fC (.str x)) := by with_unfolding_all exact L2.ze7
end
section
variable {X : Cx} {κ : Str -> Addr} {e a b : Expr} {f fa fb : PSt -> Option D}
theorem yd4 {b j pos} : QP X κ (.Constant (.bool b) j pos) (fC (.bl b)) := by with_unfolding_all exact L2.yd4
end
section
variable {X : Cx} {κ : Str -> Addr} {e a b : Expr} {f fa fb : PSt -> Option D}
theorem yo0 {j pos} : QP X κ (.Constant .none j pos) (fC .non) := by with_unfolding_all exact L2.yo0
end
section
variable {X : Cx} {κ : Str -> Addr} {e a b : Expr} {f fa fb : PSt -> Option D}
theorem yr6 {x : Str} {v : V} {u : Value} {d : D} {pos : Pos} (hg : Gl X x) (hm : X.mg x = some u) (r : zd2 v u) (hd : ∀ H, Rep X.K κ H v d []) (hdb : (x == ("__debug__" : Str)) = false := by decide) : QP X κ (.Name x pos) (fC d) := by with_unfolding_all exact L2.yr6 hg hm r hd hdb
end
section
variable {X : Cx} {κ : Str -> Addr} {e a b : Expr} {f fa fb : PSt -> Option D}
theorem xi6 {x : Str} {n : String} {pos : Pos} (hg : Gl X x) (hm : X.mg x = none) (hv : bootBuiltins x = some (.type n)) (hn : x ≠ "__name__" := by decide) (hd : (x == ("__debug__" : Str)) = false := by decide) : QP X κ (.Name x pos) (fC (.ty n)) := by with_unfolding_all exact L2.xi6 hg hm hv hn hd
end
section
variable {X : Cx} {κ : Str -> Addr} {e a b : Expr} {f fa fb : PSt -> Option D}
theorem zg0 {op : Operator} {g : D -> D -> Option D} {pos : Pos} (ho : OpR X (binaryOp op) (POp X.K κ g)) (ha : QV X κ a fa) (hb : QV X κ b fb) : QP X κ (.BinOp a op b pos) (f2 g fa fb) := by with_unfolding_all exact L2.zg0 ho ha hb
end
section
variable {X : Cx} {κ : Str -> Addr} {e a b : Expr} {f fa fb : PSt -> Option D}
theorem yg1 {op : CmpOp} {g : D -> D -> Option D} {pos : Pos} (ho : OpR X (compareOp op) (POp X.K κ g)) (ha : QV X κ a fa) (hb : QV X κ b fb) (hm : behindInMarks op b = false) : QP X κ (.Compare a [op] [b] pos) (f2 g fa fb) := by with_unfolding_all exact L2.yg1 ho ha hb hm
end
section
variable {X : Cx} {κ : Str -> Addr} {e a b : Expr} {f fa fb : PSt -> Option D}
theorem zg5 {op : CmpOp} {g : D -> D -> Option D} {pos : Pos} (ho : OpR X (compareOp op) (POp X.K κ g)) (ha : QV X κ a fa) (hb : QV X κ b fb) (hm : behindInMarks op b = false) : QT X κ (.Compare a [op] [b] pos) (fB (f2 g fa fb)) := by with_unfolding_all exact L2.zg5 ho ha hb hm
end
section
variable {X : Cx} {κ : Str -> Addr} {e a b : Expr} {f fa fb : PSt -> Option D}
theorem zs6 (ha : QV X κ a fa) (he : ∀ whole, isTrue a X.env whole = (do let v <- whole; standAt a.pos; holding [v] (truthy v)) := by intro _; rfl) : QT X κ a (fT fa) := by with_unfolding_all exact L2.zs6 ha he
end
section
variable {X : Cx} {κ : Str -> Addr} {e a b : Expr} {f fa fb : PSt -> Option D}
variable {pos : Pos} {zb1 : List Expr} {ta tb : PSt -> Option Bool}
theorem yi3 (ha : QT X κ a ta) : QW X κ (.BoolOp .And [a] pos) ta := by with_unfolding_all exact L2.yi3 ha
end
section
variable {X : Cx} {κ : Str -> Addr} {e a b : Expr} {f fa fb : PSt -> Option D}
variable {pos : Pos} {zb1 : List Expr} {ta tb : PSt -> Option Bool}
theorem yg2 (ha : QT X κ a ta) : QW X κ (.BoolOp .Or [a] pos) ta := by with_unfolding_all exact L2.yg2 ha
end
section
variable {X : Cx} {κ : Str -> Addr} {e a b : Expr} {f fa fb : PSt -> Option D}
variable {pos : Pos} {zb1 : List Expr} {ta tb : PSt -> Option Bool}
theorem yo1 (ha : QT X κ a ta) (hb : QW X κ (.BoolOp .And (b :: zb1) pos) tb) : QW X κ (.BoolOp .And (a :: b :: zb1) pos) (zq7 ta tb) := by with_unfolding_all exact L2.yo1 ha hb
end
section
variable {X : Cx} {κ : Str -> Addr} {e a b : Expr} {f fa fb : PSt -> Option D}
variable {pos : Pos} {zb1 : List Expr} {ta tb : PSt -> Option Bool}
theorem yi4 (ha : QT X κ a ta) (hb : QW X κ (.BoolOp .Or (b :: zb1) pos) tb) : QW X κ (.BoolOp .Or (a :: b :: zb1) pos) (zi9 ta tb) := by with_unfolding_all exact L2.yi4 ha hb
end
section
variable {X : Cx} {κ : Str -> Addr} {e a b : Expr} {f fa fb : PSt -> Option D}
variable {pos : Pos} {zb1 : List Expr} {ta tb : PSt -> Option Bool}
theorem yl5 (h : QW X κ a ta) : QT X κ a ta := by with_unfolding_all exact L2.yl5 h
end
section
variable {X : Cx} {κ : Str -> Addr} {e a b : Expr} {f fa fb : PSt -> Option D}
variable {pos : Pos} {zb1 : List Expr} {ta tb : PSt -> Option Bool}
theorem yc4 (ha : QT X κ a ta) : QT X κ (.UnaryOp .Not a pos) (zo2 ta) := by with_unfolding_all exact L2.yc4 ha
end
section
variable {X : Cx} {κ : Str -> Addr} {e a b : Expr} {f fa fb : PSt -> Option D}
variable {pos : Pos} {zb1 : List Expr} {ta tb : PSt -> Option Bool}
theorem yo2 {op} (h : QP X κ a fa) : QP X κ (.BoolOp op [a] pos) fa := by with_unfolding_all exact L2.yo2 h
end
section
variable {X : Cx} {κ : Str -> Addr} {e a b : Expr} {f fa fb : PSt -> Option D}
variable {pos : Pos} {zb1 : List Expr} {ta tb : PSt -> Option Bool}
theorem yy7 (ha : QP X κ a fa) (hb : QP X κ (.BoolOp .And (b :: zb1) pos) fb) : QP X κ (.BoolOp .And (a :: b :: zb1) pos) (ye4 fa fb) := by with_unfolding_all exact L2.yy7 ha hb
end
section
variable {X : Cx} {κ : Str -> Addr} {e a b : Expr} {f fa fb : PSt -> Option D}
variable {pos : Pos} {zb1 : List Expr} {ta tb : PSt -> Option Bool}
theorem xi7 (ha : QP X κ a fa) (hb : QP X κ (.BoolOp .Or (b :: zb1) pos) fb) : QP X κ (.BoolOp .Or (a :: b :: zb1) pos) (fOr fa fb) := by with_unfolding_all exact L2.xi7 ha hb
end
section
variable {X : Cx} {κ : Str -> Addr} {e a b : Expr} {f fa fb : PSt -> Option D}
variable {pos : Pos} {zb1 : List Expr} {ta tb : PSt -> Option Bool}
theorem zw8 (ha : QV X κ a fa) : QP X κ (.UnaryOp .USub a pos) (zv9 fa) := by with_unfolding_all exact L2.zw8 ha
end
section
variable {X : Cx} {κ : Str -> Addr}
theorem zt0 : OpR X (binaryOp .Add) (POp X.K κ zf0) := by with_unfolding_all exact L2.zt0
end
section
variable {X : Cx} {κ : Str -> Addr}
theorem yx2 : OpR X (binaryOp .Sub) (POp X.K κ zn3) := by with_unfolding_all exact L2.yx2
end
section
variable {X : Cx} {κ : Str -> Addr}
theorem yo3 : OpR X (binaryOp .Mult) (POp X.K κ zx7) := by with_unfolding_all exact L2.yo3
end
section
variable {X : Cx} {κ : Str -> Addr}
theorem zu4 : OpR X (binaryOp .Mod) (POp X.K κ zl4) := by with_unfolding_all exact L2.zu4
end
section
variable {X : Cx} {κ : Str -> Addr}
theorem zy3 : OpR X (binaryOp .FloorDiv) (POp X.K κ zo9) := by with_unfolding_all exact L2.zy3
end
section
variable {X : Cx} {κ : Str -> Addr}
theorem yl6 (hu : X.A.units < cLine) : OpR X (compareOp .Lt) (POp X.K κ dLt) := by with_unfolding_all exact L2.yl6 hu
end
section
variable {X : Cx} {κ : Str -> Addr}
theorem xs0 : OpR X (compareOp .LtE) (POp X.K κ dLe) := by with_unfolding_all exact L2.xs0
end
section
variable {X : Cx} {κ : Str -> Addr}
theorem xs1 : OpR X (compareOp .Gt) (POp X.K κ dGt) := by with_unfolding_all exact L2.xs1
end
section
variable {X : Cx} {κ : Str -> Addr}
theorem xi9 : OpR X (compareOp .GtE) (POp X.K κ dGe) := by with_unfolding_all exact L2.xi9
end
section
variable {X : Cx} {κ : Str -> Addr}
theorem zq4 (hu : X.A.units + 64 < cLine) : OpR X (compareOp .Eq) (POp X.K κ dEq) := by with_unfolding_all exact L2.zq4 hu
end
section
variable {X : Cx} {κ : Str -> Addr}
theorem xs2 (hu : X.A.units + 64 < cLine) : OpR X (compareOp .NotEq) (POp X.K κ dNe) := by with_unfolding_all exact L2.xs2 hu
end
section
variable {X : Cx} {κ : Str -> Addr}
theorem xs4 : OpR X (compareOp .Is) (POp X.K κ dIs) := by with_unfolding_all exact L2.xs4
end
section
variable {X : Cx} {κ : Str -> Addr}
theorem xs5 : OpR X (compareOp .In) (POp X.K κ dIn) := by with_unfolding_all exact L2.xs5
end
section
variable {X : Cx} {κ : Str -> Addr} {e a b : Expr} {es : List Expr} {f fa fb : PSt -> Option D} {g : PSt -> Option (List D)} {pos p2 : Pos}
theorem zd5 : QVA X κ [] za3 := by with_unfolding_all exact L2.zd5
end
section
variable {X : Cx} {κ : Str -> Addr} {e a b : Expr} {es : List Expr} {f fa fb : PSt -> Option D} {g : PSt -> Option (List D)} {pos p2 : Pos}
theorem zb3 (ha : QV X κ e f) (hr : QVA X κ es g) (hs : starEach (e :: es) X.env = (false, eval e X.env) :: starEach es X.env := by rfl) : QVA X κ (e :: es) (za1 f g) := by with_unfolding_all exact L2.zb3 ha hr hs
end
section
variable {X : Cx} {κ : Str -> Addr} {e a b : Expr} {es : List Expr} {f fa fb : PSt -> Option D} {g : PSt -> Option (List D)} {pos p2 : Pos}
theorem zh4 : QPA X κ [] za3 := by with_unfolding_all exact L2.zh4
end
section
variable {X : Cx} {κ : Str -> Addr} {e a b : Expr} {es : List Expr} {f fa fb : PSt -> Option D} {g : PSt -> Option (List D)} {pos p2 : Pos}
theorem zd9 (ha : QP X κ e f) (hr : QPA X κ es g) (hs : starEach (e :: es) X.env = (false, eval e X.env) :: starEach es X.env := by rfl) : QPA X κ (e :: es) (za1 f g) := by with_unfolding_all exact L2.zd9 ha hr hs
end
section
variable {X : Cx} {κ : Str -> Addr} {e a b : Expr} {es : List Expr} {f fa fb : PSt -> Option D} {g : PSt -> Option (List D)} {pos p2 : Pos}
theorem zo7 {x1} (h : QPA X κ es g) : QP X κ (.Tuple es x1 pos) (zj0 g) := by with_unfolding_all exact L2.zo7 h
end
section
variable {X : Cx} {κ : Str -> Addr} {e a b : Expr} {es : List Expr} {f fa fb : PSt -> Option D} {g : PSt -> Option (List D)} {pos p2 : Pos}
theorem zz2 (h : QPA X κ es g) : QP X κ (.List es pos) (zs5 g) := by with_unfolding_all exact L2.zz2 h
end
section
variable {X : Cx} {κ : Str -> Addr} {e a b : Expr} {es : List Expr} {f fa fb : PSt -> Option D} {g : PSt -> Option (List D)} {pos p2 : Pos}
theorem zg1 (ha : QV X κ a fa) (hb : QV X κ b fb) (hs : yt9 b := by exact fun _ _ => rfl) : QV X κ (.Subscript a b pos) (f2 dIx fa fb) := by with_unfolding_all exact L2.zg1 ha hb hs
end
section
variable {X : Cx} {κ : Str -> Addr} {e a b : Expr} {es : List Expr} {f fa fb : PSt -> Option D} {g : PSt -> Option (List D)} {pos p2 : Pos}
theorem zl3 {x : Str} {id : String} {p : Pos} {h : List D -> Option D} (hc : zk0 X (.builtin id) (PCl X.K κ h)) (hg : Gl X x) (hm : X.mg x = none) (hv : bootBuiltins x = some (.builtin id)) (ha : QVA X κ (e :: es) g) (hn : x ≠ "__name__" := by decide) (hdb : (x == ("__debug__" : Str)) = false := by decide)
    (hs : starEach (e :: es) X.env = (false, eval e X.env) :: starEach es X.env := by rfl) (hpl : (backTo pos (starEach es X.env)).any (·.1) = false := by rfl) : QP X κ (.Call (.Name x p) (e :: es) [] pos) (za6 h g) := by with_unfolding_all exact L2.zl3 hc hg hm hv ha hn hdb hs hpl
end
section
variable {X : Cx} {κ : Str -> Addr} {e a b : Expr} {es : List Expr} {f fa fb : PSt -> Option D} {g : PSt -> Option (List D)} {pos p2 : Pos}
theorem yg3 {x : Str} {T : String} {p : Pos} {h : List D -> Option D} (hc : zk0 X (.type T) (PCl X.K κ h)) (hg : Gl X x) (hm : X.mg x = none) (hv : bootBuiltins x = some (.type T)) (ha : QVA X κ (e :: es) g) (hn : x ≠ "__name__" := by decide) (hdb : (x == ("__debug__" : Str)) = false := by decide)
    (hs : starEach (e :: es) X.env = (false, eval e X.env) :: starEach es X.env := by rfl) (hpl : (backTo pos (starEach es X.env)).any (·.1) = false := by rfl) : QP X κ (.Call (.Name x p) (e :: es) [] pos) (za6 h g) := by with_unfolding_all exact L2.yg3 hc hg hm hv ha hn hdb hs hpl
end
section
variable {X : Cx} {κ : Str -> Addr} {e a b : Expr} {es : List Expr} {f fa fb : PSt -> Option D} {g : PSt -> Option (List D)} {pos p2 : Pos}
theorem zu5 : zk0 X (.builtin "len") (PCl X.K κ zg7) := by with_unfolding_all exact L2.zu5
end
section
variable {X : Cx} {κ : Str -> Addr} {e a b : Expr} {es : List Expr} {f fa fb : PSt -> Option D} {g : PSt -> Option (List D)} {pos p2 : Pos}
theorem xj0 : zk0 X (.builtin "isinstance") (PCl X.K κ ym8) := by with_unfolding_all exact L2.xj0
end
section
variable {X : Cx} {κ : Str -> Addr} {e a b : Expr} {es : List Expr} {f fa fb : PSt -> Option D} {g : PSt -> Option (List D)} {pos p2 : Pos}
theorem yr7 : zk0 X (.type "tuple") (PCl X.K κ yh4) := by with_unfolding_all exact L2.yr7
end
section
variable {X : Cx} {κ : Str -> Addr} {e a b : Expr} {es : List Expr} {f fa fb : PSt -> Option D} {g : PSt -> Option (List D)} {pos p2 : Pos}
theorem yo4 {name : Str} {id : String} {apos : Pos} {h : D -> List D -> Option D} (slot : Slot "str" name id) (hty : typeOf (.builtin id) = pure (.type "method_descriptor")) (hm : MtR X id (PMt X.K κ h)) (ho : QV X κ a fa) (ha : QVA X κ (e :: es) g)
    (hbase : attributeBase a name X.env (eval a X.env) = eval a X.env := by rfl)
    (hfew : ((backTo pos (starEach (e :: es) X.env)).all (fun x => !x.1) && (backToKw pos (keywordEach [] X.env)).all (fun x => x.1.isSome)
      && decide ((e :: es).length + ([] : List Keyword).length + (if ([] : List Keyword).isEmpty then 0 else 1) < 30)) = true := by rfl)
    (hline : (apos.endLine == pos.line) = true := by rfl) (hs : starEach (e :: es) X.env = (false, eval e X.env) :: starEach es X.env := by rfl) (hplain : (backTo pos (starEach es X.env)).any (·.1) = false := by rfl) :
    QP X κ (.Call (.Attribute a name apos) (e :: es) [] pos) (fMt h fa g) := by with_unfolding_all exact L2.yo4 slot hty hm ho ha hbase hfew hline hs hplain
end
section
variable {X : Cx} {κ : Str -> Addr} {e a b : Expr} {es : List Expr} {f fa fb : PSt -> Option D} {g : PSt -> Option (List D)} {pos p2 : Pos}
theorem yo5 : MtR X "str.join" (PMt X.K κ zw6) := by with_unfolding_all exact L2.yo5
end
section
variable {X : Cx} {κ : Str -> Addr} {φ : F0} {st : Stmt} {zb1 : List Stmt} {f g : PSt -> Option (Fl × PSt)} {pos : Pos}
theorem zf4 : QSs X κ φ [] zd0 := by with_unfolding_all exact L2.zf4
end
section
variable {X : Cx} {κ : Str -> Addr} {φ : F0} {st : Stmt} {zb1 : List Stmt} {f g : PSt -> Option (Fl × PSt)} {pos : Pos}
theorem zb4 (h : QS X κ φ st f) : QSs X κ φ [st] f := by with_unfolding_all exact L2.zb4 h
end
section
variable {X : Cx} {κ : Str -> Addr} {φ : F0} {st : Stmt} {zb1 : List Stmt} {f g : PSt -> Option (Fl × PSt)} {pos : Pos}
theorem zb0 (h1 : QS X κ φ st f) (h2 : QSs X κ φ zb1 g) : QSs X κ φ (st :: zb1) (zb8 f g) := by with_unfolding_all exact L2.zb0 h1 h2
end
section
variable {X : Cx} {κ : Str -> Addr} {φ : F0} {st : Stmt} {zb1 : List Stmt} {f g : PSt -> Option (Fl × PSt)} {pos : Pos}
theorem zv4 : QS X κ φ st yd2 := by with_unfolding_all exact L2.zv4
end
section
variable {X : Cx} {κ : Str -> Addr} {φ : F0} {st : Stmt} {zb1 : List Stmt} {f g : PSt -> Option (Fl × PSt)} {pos : Pos}
theorem QP.e {e : Expr} {f : PSt -> Option D} (h : PE X e (tP X.K κ f)) : QE X κ φ e (za5 f) := by with_unfolding_all exact L2.QP.e h
end
section
variable {X : Cx} {κ : Str -> Addr} {φ : F0} {st : Stmt} {zb1 : List Stmt} {f g : PSt -> Option (Fl × PSt)} {pos : Pos}
theorem QT.e {e : Expr} {f : PSt -> Option Bool} (h : PT X e (tQ X.K κ f)) : QTE X κ φ e (za8 f) := by with_unfolding_all exact L2.QT.e h
end
section
variable {X : Cx} {κ : Str -> Addr} {φ : F0} {st : Stmt} {zb1 : List Stmt} {f g : PSt -> Option (Fl × PSt)} {pos : Pos}
theorem zh3 (i : Nat) {x : Str} {e : Expr} {pos' : Pos} {f : PSt -> Option (D × PSt)} (hN : X.N.Nodup) (hi : X.N[i]? = some x) (hx : Loc X.env.scope x) (hb : φ.bor i = false) (hm : φ.M i = false) (he : QE X κ φ e f) (hs : swapsWith e (some (.Name x pos')) pos.line X.env = pure false := by rfl) (hf : X.fn x = true \/ X.env.scope.names.lookup x = some .local := by first | exact .inl rfl | exact .inr rfl | assumption) :
    QS X κ φ (.Assign [.Name x pos'] e pos) (zc8 i f) := by with_unfolding_all exact L2.zh3 i hN hi hx hb hm he hs hf
end
section
variable {X : Cx} {κ : Str -> Addr} {φ : F0} {st : Stmt} {zb1 : List Stmt} {f g : PSt -> Option (Fl × PSt)} {pos : Pos}
theorem zq3 {e : Expr} {f : PSt -> Option (D × PSt)} (he : QE X κ φ e f) (hs : swapsWith e none pos.line X.env = pure false := by rfl) : QS X κ φ (.Expr e pos) (zc1 f) := by with_unfolding_all exact L2.zq3 he hs
end
section
variable {X : Cx} {κ : Str -> Addr} {φ : F0} {st : Stmt} {zb1 : List Stmt} {f g : PSt -> Option (Fl × PSt)} {pos : Pos}
theorem zf5 {e : Expr} {f : PSt -> Option (D × PSt)} (he : QE X κ φ e f) : QS X κ φ (.Return (some e) pos) (ze6 f) := by with_unfolding_all exact L2.zf5 he
end
section
variable {X : Cx} {κ : Str -> Addr} {φ : F0} {st : Stmt} {zb1 : List Stmt} {f g : PSt -> Option (Fl × PSt)} {pos : Pos}
theorem yi5 (i : Nat) {x : Str} {p : Pos} (hb : φ.bor i = false) (hN : X.N[i]? = some x := by rfl) (hv : Vis X.env.scope x := by first | exact Or.inl rfl | exact Or.inr (Or.inl rfl) | exact Or.inr (Or.inr rfl)) (hd : (x == ("__debug__" : Str)) = false := by decide)
    (hcd : (x == ("__classdict__" : Str)) = false := by decide) : QS X κ φ (.Return (some (.Name x p)) pos) (zo3 i) := by with_unfolding_all exact L2.yi5 i hb hN hv hd hcd
end
section
variable {X : Cx} {κ : Str -> Addr} {φ : F0} {st : Stmt} {zb1 : List Stmt} {f g : PSt -> Option (Fl × PSt)} {pos : Pos}
theorem zi0 {c : Expr} {a b : List Stmt} {tc : PSt -> Option (Bool × PSt)} (hc : QTE X κ φ c tc) (ha : QSs X κ φ a f) (hb : QSs X κ φ b g) : QS X κ φ (.If c a b pos) (fIf tc f g) := by with_unfolding_all exact L2.zi0 hc ha hb
end
section
variable {X : Cx} {φ : Fx} {pos : Pos} {body : List Stmt} {f : PSt -> Option (Fl × PSt)}
theorem yl8 {κ : Str -> Addr} {φ : F0} (n : Nat) {c : Expr} {tc : PSt -> Option (Bool × PSt)} (hp : PassesOwn (model X.prog X.w) X.A X.env X.xe) (hc : QTE X κ φ c tc) (hb : QSs X κ φ body f) : QS X κ φ (.While c body [] pos) (zp0 tc f n) := by with_unfolding_all exact L2.yl8 n hp hc hb
end
section
theorem QIP.v {X : Cx} {κ : Str -> Addr} {tg iter : Expr} {f : PSt -> Option (List D)} (h : QIP X κ tg iter f) : QIV X κ tg iter f := by with_unfolding_all exact L2.QIP.v h
end
section
variable {X : Cx} {κ : Str -> Addr} {tg l a b : Expr} {f : PSt -> Option D} {g : PSt -> Option (List D)} {p pos : Pos}
theorem zw9 (hg : Gl X "range") (hm : X.mg "range" = none) (ha : QVA X κ [a] g) (hs : starEach [a] X.env = [(false, eval a X.env)] := by rfl) : QIP X κ tg (.Call (.Name "range" p) [a] [] pos) (zt2 g) := by with_unfolding_all exact L2.zw9 hg hm ha hs
end
section
variable {X : Cx} {κ : Str -> Addr} {tg l a b : Expr} {f : PSt -> Option D} {g : PSt -> Option (List D)} {p pos : Pos}
theorem yz0 (h : QV X κ l f) : QIV X κ tg l (zp5 f) := by with_unfolding_all exact L2.yz0 h
end
section
variable {X : Cx} {φ : Fx} {pos : Pos} {body : List Stmt} {f : PSt -> Option (Fl × PSt)}
theorem yo6 {κ : Str -> Addr} {φ : F0} (i : Nat) {x : Str} {px : Pos} {iter : Expr} {fi : PSt -> Option (List D)} (hp : PassesOwn (model X.prog X.w) X.A X.env X.xe) (hc : X.calm = true) (hN : X.N.Nodup) (hi : X.N[i]? = some x) (hx : Loc X.env.scope x) (hb : φ.bor i = false) (hm : φ.M i = false)
    (hit : PI X (.Name x px) iter (tIP X.K κ fi)) (hbd : QSs X κ φ body f) (hs : ∀ x, foldedSetIterable iter X.env x = pure x := by intro _; rfl) (hf : X.fn x = true \/ X.env.scope.names.lookup x = some .local := by first | exact .inl rfl | exact .inr rfl | assumption) :
    QS X κ φ (.For (.Name x px) iter body [] pos) (zw0 i fi f) := by with_unfolding_all exact L2.yo6 i hp hc hN hi hx hb hm hit hbd hs hf
end
section
variable {X : Cx} {φ : Fx} {pos : Pos} {body : List Stmt} {f : PSt -> Option (Fl × PSt)}
theorem yi6 {κ : Str -> Addr} {φ : F0} (i j : Nat) {x y : Str} {px py : Pos} (hp : PassesOwn (model X.prog X.w) X.A X.env X.xe) (hc : X.calm = true) (hN : X.N.Nodup) (hi : X.N[i]? = some x) (hx : Loc X.env.scope x) (hb : φ.bor i = false) (hm : φ.M i = false) (hj : φ.bor j = true)
    (hbd : QSs X κ φ body f) (hNj : X.N[j]? = some y := by rfl) (hv : Vis X.env.scope y := by first | exact Or.inl rfl | exact Or.inr (Or.inl rfl) | exact Or.inr (Or.inr rfl)) (hd : (y == ("__debug__" : Str)) = false := by decide)
    (hcd : (y == ("__classdict__" : Str)) = false := by decide) (hs : ∀ x, foldedSetIterable (.Name y py) X.env x = pure x := by intro _; rfl) (hf : X.fn x = true \/ X.env.scope.names.lookup x = some .local := by first | exact .inl rfl | exact .inr rfl | assumption) :
    QS X κ φ (.For (.Name x px) (.Name y py) body [] pos) (zw0 i (zp5 (za0 j)) f) := by with_unfolding_all exact L2.yi6 i j hp hc hN hi hx hb hm hj hbd hNj hv hd hcd hs hf
end
section
variable {P : Program} {w : World} {K : PySem.W.Frag} {mg : Str -> Option Value} {base : Heap} {κ : Str -> Addr}
theorem zj3 {x qual : Str} {st : Stmt} {f : Addr} {fd : FuncData} {N ps : List Str} {k : Nat} {fb : PSt -> Option (Fl × PSt)} (F : Fun K x qual st f fd) (S : FnScope N ps (za4 st))
    (hbody : ∀ (cdv : Value) (A : Around) (outer : List Env) (s : Shared) (H : Hp) (E : XK) (B : Nat -> Addr -> Prop), Room k (A.deeper (envOfC qual (za4 st) s.heap.objs.size f cdv)) ->
      QSs (zk9 CX0 P w K mg base N qual (za4 st) f cdv A outer s H E).nox κ (f0P ps.length B) (zd1 st) fb) :
    FnOk P w K mg base CX0 (k + 1) f fd ps (SpP ps.length K κ (gP ps.length (N.length - ps.length) fb)) := by with_unfolding_all exact L2.zj3 F S hbody
end
section
variable {X : Cx} {κ : Str -> Addr} {e : Expr} {es : List Expr} {g : PSt -> Option (List D)} {pos p : Pos}
theorem zn5 {x : Str} {st : Stmt} {ps : List Str} {f : Addr} {fd : FuncData} {k np : Nat} {h : List D -> Option D} (Dd : Dn X.K X.mg x st ps f fd) (G : FnOk X.prog X.w X.K X.mg X.base CX0 k f fd ps (SpP np X.K κ h)) (hr : Room k X.A) (hg : Gl X x) (hnp : (e :: es).length = np) (ha : QVA X κ (e :: es) g)
    (hlen : ∀ ps ds, g ps = some ds -> ds.length = (e :: es).length)
    (hdb : (x == ("__debug__" : Str)) = false := by decide) (he : starEach (e :: es) X.env = (false, eval e X.env) :: starEach es X.env := by rfl) (hpl : (backTo pos (starEach es X.env)).any (·.1) = false := by rfl) :
    QP X κ (.Call (.Name x p) (e :: es) [] pos) (za6 h g) := by with_unfolding_all exact L2.zn5 Dd G hr hg hnp ha hlen hdb he hpl
end
section
variable {X : Cx} {κ : Str -> Addr} {e : Expr} {es : List Expr} {g : PSt -> Option (List D)} {pos p : Pos}
theorem yo7 {x : Str} {st : Stmt} {ps : List Str} {f : Addr} {fd : FuncData} {k : Nat} {h : List D -> Option D} (Dd : Dn X.K X.mg x st ps f fd) (G : FnOk X.prog X.w X.K X.mg X.base CX0 k f fd ps (SpP 0 X.K κ h)) (hr : Room k X.A) (hg : Gl X x)
    (hdb : (x == ("__debug__" : Str)) = false := by decide) : QP X κ (.Call (.Name x p) [] [] pos) (za6 h za3) := by with_unfolding_all exact L2.yo7 Dd G hr hg hdb
end
section
variable {X : Cx} {κ : Str -> Addr} {sc : Scope} {NX N : List Str} {pick : List (Option Nat)} {elt iter : Expr} {ifs : List Expr} {scope : Scope} {pos px : Pos} {x : Str} {fi : PSt -> Option (List D)} {ft : PSt -> Option Bool} {fe : PSt -> Option D}
theorem yi7 {X : Cx} : PTs X [] (tQ X.K κ zz9) := by with_unfolding_all exact L2.yi7
end
section
variable {X : Cx} {κ : Str -> Addr} {sc : Scope} {NX N : List Str} {pick : List (Option Nat)} {elt iter : Expr} {ifs : List Expr} {scope : Scope} {pos px : Pos} {x : Str} {fi : PSt -> Option (List D)} {ft : PSt -> Option Bool} {fe : PSt -> Option D}
theorem yi8 (S : CScope sc NX N pick scope) (hsc : X.env.scope = sc) (hNX : X.N = NX) (hc : X.calm = true) (hi : QIV X κ (.Name x px) iter fi)
    (hg : ∀ cl fp s H, PG (cxB X N scope cl fp s H) (.Name x px) (yb1 0)) (ht : ∀ cl fp s H, PTs (cxB X N scope cl fp s H) ifs (tQ X.K κ ft)) (he : ∀ cl fp s H, PE (cxB X N scope cl fp s H) elt (tP X.K κ fe))
    (hs : ∀ x, foldedSetIterable iter X.env x = pure x := by intro _; rfl) : QP X κ (.ListComp elt [⟨.Name x px, iter, ifs, 0⟩] scope pos) (yb2 pick fi ft fe) := by with_unfolding_all exact L2.yi8 S hsc hNX hc hi hg ht he hs
end
section
variable {X : Cx} {φ : F0} {κ : Str -> Addr} {K : PySem.W.Frag} {o e a b : Expr} {f fb fe : PSt -> Option D} {g : PSt -> Option (List D)} {pf : PSt -> Option (List Ps1)} {j : Nat} {pos apos : Pos}
theorem ze4 (j : Nat) {x : Str} (hN : X.N[j]? = some x := by rfl) (hv : Vis X.env.scope x := by first | exact Or.inl rfl | exact Or.inr (Or.inl rfl) | exact Or.inr (Or.inr rfl)) (hd : (x == ("__debug__" : Str)) = false := by decide)
    (hcd : (x == ("__classdict__" : Str)) = false := by decide) : PE X (.Name x pos) (zq9 K κ j zb5) := by with_unfolding_all exact L2.ze4 j hN hv hd hcd
end
section
variable {X : Cx} {φ : F0} {κ : Str -> Addr} {K : PySem.W.Frag} {o e a b : Expr} {f fb fe : PSt -> Option D} {g : PSt -> Option (List D)} {pf : PSt -> Option (List Ps1)} {j : Nat} {pos apos : Pos}
theorem yg4 {C fn : Str} (hc : Cls X.K (κ C)) (hna : zd6 X.K (κ C) fn) (ha : PE X a (zq9 X.K κ j pf)) (hb : attributeBase a fn X.env (eval a X.env) = eval a X.env := by rfl) : PE X (.Attribute a fn pos) (zq9 X.K κ j (zl2 j pf C fn)) := by with_unfolding_all exact L2.yg4 hc hna ha hb
end
section
variable {X : Cx} {φ : F0} {κ : Str -> Addr} {K : PySem.W.Frag} {o e a b : Expr} {f fb fe : PSt -> Option D} {g : PSt -> Option (List D)} {pf : PSt -> Option (List Ps1)} {j : Nat} {pos apos : Pos}
theorem zx0 (hb : φ.bor j = false) (ho : PE X o (zq9 X.K κ j pf)) (ha : PA X [e] (tPA X.K κ g))
    (hbase : attributeBase o "append" X.env (eval o X.env) = eval o X.env := by rfl)
    (hfew : ((backTo pos (starEach [e] X.env)).all (fun x => !x.1) && (backToKw pos (keywordEach [] X.env)).all (fun x => x.1.isSome)
      && decide ([e].length + ([] : List Keyword).length + (if ([] : List Keyword).isEmpty then 0 else 1) < 30)) = true := by rfl)
    (hline : (apos.endLine == pos.line) = true := by rfl) (hs : starEach [e] X.env = (false, eval e X.env) :: starEach [] X.env := by rfl) (hplain : (backTo pos (starEach [] X.env)).any (·.1) = false := by rfl) :
    QE X κ φ (.Call (.Attribute o "append" apos) [e] [] pos) (zc9 j pf g ze3) := by with_unfolding_all exact L2.zx0 hb ho ha hbase hfew hline hs hplain
end
section
variable {X : Cx} {φ : F0} {κ : Str -> Addr} {K : PySem.W.Frag} {o e a b : Expr} {f fi fe : PSt -> Option D} {g : PSt -> Option (List D)} {pf : PSt -> Option (List Ps1)} {j : Nat} {pos apos : Pos}
theorem yd7 {i : Expr} (hb : φ.bor j = false) (he : PE X e (tP X.K κ fe)) (ho : PE X o (zq9 X.K κ j pf)) (hi : PE X i (tV X.K κ fi)) (hs : swapsWithSole [.Subscript o i apos] e pos.line X.env = pure false := by rfl) (hw : swappedStores [.Subscript o i apos] e X.env = pure none := by rfl)
    (h1 : (assignEach [.Subscript o i apos] X.env).map (·.2) = [assign (.Subscript o i apos) X.env] := by rfl)
    (ha : ∀ v, assign (.Subscript o i apos) X.env v = (do
      let ov <- holding [v] (eval o X.env)
      let iv <- holding [v, ov] (eval i X.env)
      standAt apos
      holding [v, ov, iv] (setItem ov iv v)
      release [v, ov, iv] []) := by intro _; rfl) : QS X κ φ (.Assign [.Subscript o i apos] e pos) (zx2 j pf fi fe) := by with_unfolding_all exact L2.yd7 hb he ho hi hs hw h1 ha
end
section
variable {P : Program} {w : World} {K : PySem.W.Frag} {mg : Str -> Option Value} {base : Heap} {κ : Str -> Addr}
theorem ya7 {x qual : Str} {st : Stmt} {f : Addr} {fd : FuncData} {N ps : List Str} {k : Nat} {fb : PSt -> Option (Fl × PSt)} {m : Nat -> Bool} (F : Fun K x qual st f fd) (S : FnScope N ps (za4 st)) (hm : ∀ i, m i = true -> i < ps.length)
    (hbody : ∀ (cdv : Value) (A : Around) (outer : List Env) (s : Shared) (H : Hp) (E : XK), Room k (A.deeper (envOfC qual (za4 st) s.heap.objs.size f cdv)) ->
      QSs (zk9 CX0 P w K mg base N qual (za4 st) f cdv A outer s H E).nox κ (f0E ps.length m) (zd1 st) fb) :
    FnOk P w K mg base CX0 (k + 1) f fd ps (SpE ps.length K κ m (gE ps.length (N.length - ps.length) m fb)) := by with_unfolding_all exact L2.ya7 F S hm hbody
end
section
variable {X : Cx} {φ : F0} {κ : Str -> Addr} {e : Expr} {es : List Expr} {as : List L2.Arg} {f : PSt -> Option D} {pos p : Pos}
theorem zm1 : PA X [] (tIO X.K κ []) := by with_unfolding_all exact L2.zm1
end
section
variable {X : Cx} {φ : F0} {κ : Str -> Addr} {e : Expr} {es : List Expr} {as : List L2.Arg} {f : PSt -> Option D} {pos p : Pos}
theorem zi7 (ha : QV X κ e f) (hr : PA X es (tIO X.K κ as)) (hs : starEach (e :: es) X.env = (false, eval e X.env) :: starEach es X.env := by rfl) : PA X (e :: es) (tIO X.K κ (.im f :: as)) := by with_unfolding_all exact L2.zi7 ha hr hs
end
section
variable {X : Cx} {κ : Str -> Addr} {o e : Expr} {C fn : Str} {fo : PSt -> Option D} {pos : Pos}
theorem zi3 (hc : Cls X.K (κ C)) (hna : zd6 X.K (κ C) fn) (ho : QV X κ o fo) (hb : attributeBase o fn X.env (eval o X.env) = eval o X.env := by rfl) : QV X κ (.Attribute o fn pos) (zf1 C fn fo) := by with_unfolding_all exact L2.zi3 hc hna ho hb
end
section
variable {X : Cx} {κ : Str -> Addr} {φ : F0} {o e : Expr} {C fn : Str} {j : Nat} {pf : PSt -> Option (List Ps1)} {fe : PSt -> Option D} {pos pos' : Pos}
theorem zm0 (hc : Cls X.K (κ C)) (hna : zd6 X.K (κ C) fn) (hb : φ.bor j = false) (he : PE X e (tP X.K κ fe)) (ho : PE X o (zq9 X.K κ j pf)) (hs : swapsWith e (some (.Attribute o fn pos')) pos.line X.env = pure false := by rfl) :
    QS X κ φ (.Assign [.Attribute o fn pos'] e pos) (ze8 j pf C fn fe) := by with_unfolding_all exact L2.zm0 hc hna hb he ho hs
end
section
variable {X : Cx} {κ : Str -> Addr} {o e : Expr} {es : List Expr} {C m qual : Str} {st : Stmt} {ps : List Str} {f : Addr} {fd : FuncData} {k np : Nat} {h : List D -> Option D} {fo : PSt -> Option D} {g : PSt -> Option (List D)} {apos pos p : Pos} {pl : Sem Bool}
theorem ym0 (M : Mn X.K κ C m qual st ps f fd) (G : FnOk X.prog X.w X.K X.mg X.base CX0 k f fd ps (SpP 1 X.K κ h)) (hr : Room k X.A) (ho : QV X κ o fo)
    (ht : eval (.Call (.Attribute o m apos) [] [] pos) X.env = (do
      let ov <- eval o X.env
      standAt apos.atName
      let (f, first) <- holding [ov] (getMethod ov m pl)
      callWith pos f first (backTo pos (starEach [] X.env)) (backToKw pos (keywordEach [] X.env))) := by rfl) :
    QP X κ (.Call (.Attribute o m apos) [] [] pos) (za6 h (za1 (zi2 C m fo) za3)) := by with_unfolding_all exact L2.ym0 M G hr ho ht
end
section
variable {X : Cx} {κ : Str -> Addr} {φ : F0} {o e : Expr} {es : List Expr} {C m qual : Str} {st : Stmt} {ps : List Str} {f : Addr} {fd : FuncData} {k np j : Nat} {mk : Nat -> Bool} {g : List D -> Option (D × List D)} {pf : PSt -> Option (List Ps1)} {as : List L2.Arg} {apos pos p : Pos} {pl : Sem Bool}
theorem zt8 (M : Mn X.K κ C m qual st ps f fd) (G : FnOk X.prog X.w X.K X.mg X.base CX0 k f fd ps (SpE np X.K κ mk g)) (hr : Room k X.A) (hb : φ.bor j = false) (ho : PE X o (zq9 X.K κ j pf)) (ha : PA X (e :: es) (tIO X.K κ as)) (has : yj8 as = true) (hnp : np = as.length + 1) (hm : mk = zs3)
    (hst : starEach (e :: es) X.env = (false, eval e X.env) :: starEach es X.env := by rfl) (hpl : (backTo pos (starEach es X.env)).any (·.1) = false := by rfl)
    (ht : eval (.Call (.Attribute o m apos) (e :: es) [] pos) X.env = (do
      let ov <- eval o X.env
      standAt apos.atName
      let (f, first) <- holding [ov] (getMethod ov m pl)
      callWith pos f first (backTo pos (starEach (e :: es) X.env)) (backToKw pos (keywordEach [] X.env))) := by rfl) :
    QE X κ φ (.Call (.Attribute o m apos) (e :: es) [] pos) (zc9 j pf (zb6 as) (zj5 C m g)) := by with_unfolding_all exact L2.zt8 M G hr hb ho ha has hnp hm hst hpl ht
end
section
variable {X : Cx} {κ : Str -> Addr} {e : Expr} {es : List Expr} {C qual : Str} {st : Stmt} {ps : List Str} {f : Addr} {fd : FuncData} {k np : Nat} {mk : Nat -> Bool} {g : List D -> Option (D × List D)} {as : List L2.Arg} {pos p : Pos}
theorem zv6 (Kd : Kn X.K X.mg κ C qual st ps f fd) (G : FnOk X.prog X.w X.K X.mg X.base CX0 k f fd ps (SpE np X.K κ mk g)) (hr : Room (k + 1) X.A) (hg : Gl X C) (ha : PA X (e :: es) (tIO X.K κ as)) (has : yj8 as = true) (hnp : np = as.length + 1) (hm : mk = zs3)
    (hdb : (C == ("__debug__" : Str)) = false := by decide) (he : starEach (e :: es) X.env = (false, eval e X.env) :: starEach es X.env := by rfl) (hpl : (backTo pos (starEach es X.env)).any (·.1) = false := by rfl) :
    QP X κ (.Call (.Name C p) (e :: es) [] pos) (zg2 C (zb6 as) g) := by with_unfolding_all exact L2.zv6 Kd G hr hg ha has hnp hm hdb he hpl
end
section
variable {X : Cx} {κ : Str -> Addr}
theorem zz5 : MtR X "str.startswith" (PMt X.K κ zs8) := by with_unfolding_all exact L2.zz5
end
section
theorem yg6 {X : Cx} {κ : Str -> Addr} {e : Expr} {f : PSt -> Option D} (h : QP X κ e f) : QP X κ e (zw1 f) := by with_unfolding_all exact L2.yg6 h
end
section
variable {P : Program} {w : World} {K : PySem.W.Frag} {mg : Str -> Option Value} {base : Heap} {κ : Str -> Addr} {C : Addr}
theorem ya8 {x qual : Str} {st : Stmt} {f : Addr} {fd : FuncData} {N ps : List Str} {k : Nat} {fx : PSt -> Bool} (F : Fun K x qual st f fd) (S : FnScope N ps (za4 st))
    (hbody : ∀ (cdv : Value) (A : Around) (outer : List Env) (s : Shared) (H : Hp) (E : XK) (B : Nat -> Addr -> Prop), Room k (A.deeper (envOfC qual (za4 st) s.heap.objs.size f cdv)) ->
      QXs (zk9 (CXn P w base C) P w K mg base N qual (za4 st) f cdv A outer s H E) κ (f0P ps.length B) (E (.ref C) none) (zd1 st) fx) :
    FnOk P w K mg base (CXn P w base C) (k + 1) f fd ps (yb9 ps.length K κ C (gX ps.length (N.length - ps.length) fx)) := by with_unfolding_all exact L2.ya8 F S hbody
end
section
variable {X : Cx} {κ : Str -> Addr} {φ : F0} {Ex : Hp -> Prop} {fx : PSt -> Bool} {st : Stmt} {zb1 : List Stmt} {pos : Pos}
theorem yj0 {f : PSt -> Option (Fl × PSt)} (h1 : QS X.nox κ φ st f) (h2 : QXs X κ φ Ex zb1 fx) : QXs X κ φ Ex (st :: zb1) (ye6 f fx) := by with_unfolding_all exact L2.yj0 h1 h2
end
section
variable {X : Cx} {κ : Str -> Addr} {φ : F0} {Ex : Hp -> Prop} {fx : PSt -> Bool} {st : Stmt} {zb1 : List Stmt} {pos : Pos}
theorem yc6 (h1 : QX X κ φ Ex st fx) : QXs X κ φ Ex (st :: zb1) fx := by with_unfolding_all exact L2.yc6 h1
end
section
variable {X : Cx} {κ : Str -> Addr} {φ : F0} {Ex : Hp -> Prop} {fx : PSt -> Bool} {st : Stmt} {zb1 : List Stmt} {pos : Pos}
theorem xj4 {c : Expr} {a b : List Stmt} {ft : PSt -> Option Bool} (hc : QT X.nox κ c ft) (ha : QXs X κ φ Ex a fx) : QX X κ φ Ex (.If c a b pos) (yu0 ft fx) := by with_unfolding_all exact L2.xj4 hc ha
end
section
variable {P : Program} {w : World} {K : PySem.W.Frag} {mg : Str -> Option Value} {base : Heap} {N : List Str} {qual : Str} {scope : Scope} {f C : Addr} {cd : Value} {A : Around} {outer : List Env} {s : Shared} {H : Hp} {E : XK} {κ : Str -> Addr} {φ : F0}
theorem ym2 {x z : Str} {np cpos pos p1 : Pos} {j : Nat} {B newId initId : String} {bmB : List Value} (O : OwnCls x C bmB newId mg base) (FB : ExcBaseFacts B newId initId bmB) (hg : Gl (zk9 (CXn P w base C) P w K mg base N qual scope f cd A outer s H E) x)
    (hd : (x == ("__debug__" : Str)) = false := by decide) (hs : starEach [.Constant (.str z) j p1] (envOfC qual scope s.heap.objs.size f cd) = [(false, eval (.Constant (.str z) j p1) (envOfC qual scope s.heap.objs.size f cd))] := by rfl) :
    QX (zk9 (CXn P w base C) P w K mg base N qual scope f cd A outer s H E) κ φ (E (.ref C) none) (.Raise (some (.Call (.Name x np) [.Constant (.str z) j p1] [] cpos)) none pos) yx5 := by with_unfolding_all exact L2.ym2 O FB hg hd hs
end
section
variable {P : Program} {w : World} {K : PySem.W.Frag} {mg : Str -> Option Value} {base : Heap} {N : List Str} {qual : Str} {scope : Scope} {f C : Addr} {cd : Value} {A : Around} {outer : List Env} {s : Shared} {H : Hp} {E : XK} {κ : Str -> Addr} {φ : F0}
theorem ys1 {Cn m qual' : Str} {st : Stmt} {ps : List Str} {fm : Addr} {fd : FuncData} {k : Nat} {g : List D -> Bool} {o : Expr} {fo : PSt -> Option D} {apos pos pos' : Pos} {pl : Sem Bool} (M : Mn K κ Cn m qual' st ps fm fd) (G : FnOk P w K mg base (CXn P w base C) k fm fd ps (yb9 1 K κ C g))
    (hr : Room k (A.deeper (envOfC qual scope s.heap.objs.size f cd))) (ho : QV (zk9 (CXn P w base C) P w K mg base N qual scope f cd A outer s H E).nox κ o fo)
    (ht : eval (.Call (.Attribute o m apos) [] [] pos) (envOfC qual scope s.heap.objs.size f cd) = (do
      let ov <- eval o (envOfC qual scope s.heap.objs.size f cd)
      standAt apos.atName
      let (f', first) <- holding [ov] (getMethod ov m pl)
      callWith pos f' first (backTo pos (starEach [] (envOfC qual scope s.heap.objs.size f cd))) (backToKw pos (keywordEach [] (envOfC qual scope s.heap.objs.size f cd)))) := by rfl) :
    QX (zk9 (CXn P w base C) P w K mg base N qual scope f cd A outer s H E) κ φ (E (.ref C) none) (.Return (some (.Call (.Attribute o m apos) [] [] pos)) pos') (yj9 Cn m fo g) := by with_unfolding_all exact L2.ys1 M G hr ho ht
end
section
variable {X : Cx} {C : Addr} {κ : Str -> Addr} {φ : F0}
theorem xa0 {x cx : Str} {st : Stmt} {ps : List Str} {fa : Addr} {fd : FuncData} {k np : Nat} {g : List D -> Bool} {e : Expr} {es : List Expr} {ga : PSt -> Option (List D)} {p pos pos2 np' p3 p4 p5 pos6 : Pos} {j : Nat} {bmB : List Value} {newId : String}
    (Dd : Dn X.K X.mg x st ps fa fd) (G : FnOk X.prog X.w X.K X.mg X.base (CXn X.prog X.w X.base C) k fa fd ps (yb9 np X.K κ C g)) (O : OwnCls cx C bmB newId X.mg X.base) (hbase : bmB.contains (.type "BaseException") = true) (hr : Room k X.A) (hg : Gl X x) (hgc : Gl X cx) (hnp : (e :: es).length = np) (ha : QVA X.nox κ (e :: es) ga) (hlen : ∀ ps ds, ga ps = some ds -> ds.length = (e :: es).length)
    (hstk : X.stack = X.env :: X.outer) (hf : X.env.frame = some X.env.locals)
    (hdb : (x == ("__debug__" : Str)) = false := by decide) (hdc : (cx == ("__debug__" : Str)) = false := by decide) (he : starEach (e :: es) X.env = (false, eval e X.env) :: starEach es X.env := by rfl) (hpl : (backTo pos (starEach es X.env)).any (·.1) = false := by rfl)
    (hs : swapsWith (.Call (.Name x p) (e :: es) [] pos) none pos2.line X.env = pure false := by rfl) :
    QS X.nox κ φ (.Try [.Expr (.Call (.Name x p) (e :: es) [] pos) pos2] [.ExceptHandler (some (.Name cx np')) none [.Return (some (.Constant (.bool true) j p3)) p4] p5] [] [] pos6) (xd1 g ga) := by with_unfolding_all exact L2.xa0 Dd G O hbase hr hg hgc hnp ha hlen hstk hf hdb hdc he hpl hs
end
end L3
namespace L3
open PySem PySem.Spec PyProof.Rows L2
noncomputable def top (i : Nat) : Stmt := PySem.Challenge.pw_linepress_k09_plain_rows_set.main.body.getD i (.Pass ⟨0, 0, 0, 0⟩)
end L3
namespace My
open PySem PySem.Spec PyProof.Rows L2 L3
variable {P : Program} {w : World} {K : PySem.W.Frag} {mg : Str -> Option Value} {base : Heap} {κ : Str -> Addr}
inductive Leaf where
  | word (x : Str) | gap (x : Str) | stop (c : Int) | fin
inductive Tk where
  | leaf (l : Leaf) | opn | cls | hng (n : Int) | bck | eit | orr | don
inductive Pc where
  | leaf (l : Leaf) | group (r : List Pc) | hang (n : Int) (r : List Pc) | either (rs : List (List Pc))
mutual
noncomputable def zn6 : Pc -> List Tk
  | .leaf l => [.leaf l]
  | .group r => .opn :: (zf2 r ++ [.cls])
  | .hang n r => .hng n :: (zf2 r ++ [.bck])
  | .either rs => .eit :: (yn0 rs ++ [.don])
noncomputable def zf2 : List Pc -> List Tk
  | [] => []
  | p :: r => zn6 p ++ zf2 r
noncomputable def yn0 : List (List Pc) -> List Tk
  | [] => []
  | r :: rs => zf2 r ++ zj1 rs
noncomputable def zj1 : List (List Pc) -> List Tk
  | [] => []
  | r :: rs => .orr :: (zf2 r ++ zj1 rs)
end
theorem yg7 : ∀ r s : List Pc, zf2 (r ++ s) = zf2 r ++ zf2 s
  | [], s => rfl
  | p :: r, s => by
    show zn6 p ++ zf2 (r ++ s) = (zn6 p ++ zf2 r) ++ zf2 s
    rw [yg7 r s, List.append_assoc]
noncomputable def xw2 : List (List Pc) -> List Tk
  | [] => []
  | r :: rs => zf2 r ++ .orr :: xw2 rs
structure Fm where
  op : Option Tk
  full : List (List Pc)
  parts : List Pc
noncomputable def opT : Option Tk -> List Tk
  | none => []
  | some t => [t]
noncomputable def flat : List Fm -> List Tk
  | [] => []
  | f :: fs => flat fs ++ (opT f.op ++ (xw2 f.full ++ zf2 f.parts))
noncomputable def put (f : Fm) (p : Pc) : Fm := { f with parts := f.parts ++ [p] }
noncomputable def step : List Fm -> Tk -> Option (List Fm)
  | f :: fs, .leaf l => some (put f (.leaf l) :: fs)
  | fs, .opn => some (⟨some .opn, [], []⟩ :: fs)
  | fs, .hng n => some (⟨some (.hng n), [], []⟩ :: fs)
  | fs, .eit => some (⟨some .eit, [], []⟩ :: fs)
  | ⟨some .eit, full, parts⟩ :: fs, .orr => some (⟨some .eit, full ++ [parts], []⟩ :: fs)
  | ⟨some .opn, _, parts⟩ :: g :: fs, .cls => some (put g (.group parts) :: fs)
  | ⟨some (.hng n), _, parts⟩ :: g :: fs, .bck => some (put g (.hang n parts) :: fs)
  | ⟨some .eit, full, parts⟩ :: g :: fs, .don => if full = [] then none else some (put g (.either (full ++ [parts])) :: fs)
  | _, _ => none
noncomputable def Fm.ok (f : Fm) : Prop := f.op ≠ some .eit -> f.full = []
noncomputable def run (fs : List Fm) : List Tk -> Option (List Fm)
  | [] => some fs
  | t :: ts => (step fs t).bind fun fs' => run fs' ts
mutual
noncomputable def zx9 : Pc -> Nat
  | .leaf _ => 0
  | .group r => zj2 r + 1
  | .hang _ r => zj2 r + 1
  | .either rs => zu8 rs + 1
noncomputable def zj2 : List Pc -> Nat
  | [] => 0
  | p :: r => max (zx9 p) (zj2 r)
noncomputable def zu8 : List (List Pc) -> Nat
  | [] => 0
  | r :: rs => max (zj2 r) (zu8 rs)
end
theorem yv6 : ∀ (r : List Pc) (p : Pc), zj2 (r ++ [p]) = max (zj2 r) (zx9 p)
  | [], p => by
    exact Nat.max_comm (zx9 p) 0
  | q :: r, p => by
    show max (zx9 q) (zj2 (r ++ [p])) = max (max (zx9 q) (zj2 r)) (zx9 p)
    rw [yv6 r p, Nat.max_assoc]
theorem yp3 : ∀ (rs : List (List Pc)) (r : List Pc), zu8 (rs ++ [r]) = max (zu8 rs) (zj2 r)
  | [], r => by
    exact Nat.max_comm (zj2 r) 0
  | q :: rs, r => by
    show max (zj2 q) (zu8 (rs ++ [r])) = max (max (zj2 q) (zu8 rs)) (zj2 r)
    rw [yp3 rs r, Nat.max_assoc]
noncomputable def yk0 (c : Nat) : Bool := decide (33 <= c) && decide (c <= 126)
noncomputable def xd2 (z : Str) : Prop := 1 <= z.length /\ z.length <= 12 /\ z.cps.toList.all yk0 = true
noncomputable def zp1 : Leaf -> Prop
  | .word x => xd2 x
  | .gap x => x = "" \/ x = " "
  | .stop c => 0 <= c /\ c <= 40
  | .fin => True
end My
namespace My
open PySem PySem.Spec PyProof.Rows L2 L3
variable {P : Program} {w : World} {K : PySem.W.Frag} {mg : Str -> Option Value} {base : Heap} {κ : Str -> Addr}
noncomputable def yh6 (ns : List Int) (k : Int) : Int := ns.getD (k % (ns.length : Int)).toNat 0
noncomputable def yq7 (ns : List Int) (k : Int) : Int := k / (if (ns.length : Int) > 1 then (ns.length : Int) else 1)
noncomputable def wf7 (ns : List Int) (k salt : Int) : Int := PySem.Builtin.bitAnd (yh6 ns k) 2147483647 + 1009 * k * k + 7919 * salt * salt + 12
noncomputable def yk1 (ns : List Int) (k salt : Int) : Int := wf7 ns k salt * 48271 % 2147483647
noncomputable def xw3 (ns : List Int) (k salt : Int) : Int := yk1 ns k salt * yk1 ns k salt % 2147483629
noncomputable def ye7 (ns : List Int) (k salt : Int) : Int := PySem.Builtin.bitAnd (yh6 ns k / 2 ^ (31 * (salt + 128 * yq7 ns k)).toNat + xw3 ns k salt) 2147483647
theorem xd9 (ns : List Int) (k salt : Int) : 0 <= ye7 ns k salt /\ ye7 ns k salt < 2147483648 := by
  have e : ye7 ns k salt = (yh6 ns k / 2 ^ (31 * (salt + 128 * yq7 ns k)).toNat + xw3 ns k salt) % 2147483648 := PySem.W.kbt_mask _ 31
  rw [e]
  exact ⟨Int.emod_nonneg _ (by decide), Int.emod_lt_of_pos _ (by decide)⟩
noncomputable def xq3 (K : PySem.W.Frag) : Sp := fun vs H Q _ => ∃ (a : Addr) (ns : List Int) (k : Int), vs = [.ref a, .int k] /\ SqL K H a (ns.map V.int) /\ Q (.int (yh6 ns k)) H
noncomputable def xg7 (K : PySem.W.Frag) : Sp := fun vs H Q _ => ∃ (a : Addr) (ns : List Int) (k salt : Int), vs = [.ref a, .int k, .int salt] /\ SqL K H a (ns.map V.int) /\ ns.length <= 63 /\ (0 <= k /\ k < 1000000) /\ (0 <= salt /\ salt < 1000000) /\ Q (.int (ye7 ns k salt)) H
noncomputable abbrev zm7 : Stmt := top 18
theorem xa1 : FnScope ["_law_script", "_law_k"] ["_law_script", "_law_k"] (za4 zm7) := ⟨rfl, rfl, rfl, by decide +kernel, rfl, by decide +kernel, by decide +kernel⟩
theorem xa2 {n : Nat} {f : Addr} {fd : FuncData} (D : Dn K mg "_law_cell_at" zm7 ["_law_script", "_law_k"] f fd) (z_len : mg "len" = none) :
    FnOk P w K mg base CX0 (n + 1) f fd ["_law_script", "_law_k"] (xq3 K) := by
  refine D.F.ok xa1 (fun vs H Q E h => ?_) (fun cdv A outer s H vs Q E hr h => ?_)
  . obtain ⟨a, ns, k, rfl, _⟩ := h
    rfl
  obtain ⟨a, ns, k, rfl, hS, q⟩ := h
  refine ⟨_, (zp4 (xg8 (xe9 xh4 (zz1 zo6 rfl z_len boot_len (zq2 (pv 0) zw7)) zn4 (zf9 _)) (yi1 (yc1 zn4)) xe4)
    (yi1 (yc1 (xv2 xf2 (pv 0) (zk6 yn3 (pv 1) (zz1 zo6 rfl z_len boot_len (zq2 (pv 0) zw7))) (fun _ _ => rfl))))), ?_⟩
  have hl : (ns.map V.int).length = ns.length := List.length_map _
  refine ⟨_, rfl, a, _, rfl, .inl hS, rfl, _, rfl, ?_⟩
  refine wi4 (fun c => ?_) (fun c => ?_)
  . have e : (((ns.map V.int).length : Nat) : Int) = 0 := by simpa using c
    have e' : ns = [] := by
      rw [hl] at e
      exact List.eq_nil_of_length_eq_zero (by omega)
    subst e'
    exact q
  . have e : ¬ (((ns.map V.int).length : Nat) : Int) = 0 := by simpa using c
    rw [hl] at e
    have hp : (0 : Int) < ((ns.map V.int).length : Nat) := by rw [hl]; omega
    refine ⟨_, rfl, _, rfl, _, rfl, a, _, rfl, .inl hS, _, _, rfl, rfl, hp, a, _, _, _, rfl, rfl, hS, ?_, q⟩
    rw [hl]
    have h0 := Int.emod_nonneg k e
    have h1 := Int.emod_lt_of_pos k (show (0 : Int) < ns.length by omega)
    have ek : k % (ns.length : Int) = (((k % (ns.length : Int)).toNat : Nat) : Int) := by omega
    rw [ek]
    refine yr4 ?_
    rw [List.getElem?_map, List.getElem?_eq_getElem (by omega)]
    unfold yh6
    rw [List.getD_eq_getElem?_getD, List.getElem?_eq_getElem (by omega)]
    rfl
noncomputable abbrev zp6 : Stmt := top 19
theorem zr9 : FnScope ["_law_script", "_law_k", "_law_salt", "_law_cell", "_law_lap", "_law_near"] ["_law_script", "_law_k", "_law_salt"] (za4 zp6) := ⟨rfl, rfl, rfl, by decide +kernel, rfl, by decide +kernel, by decide +kernel⟩
theorem xj5 {n : Nat} {f f1 : Addr} {fd fd1 : FuncData} (D : Dn K mg "_law_mixed" zp6 ["_law_script", "_law_k", "_law_salt"] f fd) (D_l_cell_at : Dn K mg "_law_cell_at" zm7 ["_law_script", "_law_k"] f1 fd1)
    (G_l_cell_at : FnOk P w K mg base CX0 n f1 fd1 ["_law_script", "_law_k"] (xq3 K)) (z_len : mg "len" = none) (z_max : mg "max" = none) :
    FnOk P w K mg base CX0 (n + 1) f fd ["_law_script", "_law_k", "_law_salt"] (xg7 K) := by
  refine D.F.ok zr9 (fun vs H Q E h => ?_) (fun cdv A outer s H vs Q E hr h => ?_)
  . obtain ⟨a, ns, k, salt, rfl, _⟩ := h
    rfl
  obtain ⟨a, ns, k, salt, rfl, hS, h63, ⟨hk0, hk1⟩, ⟨hs0, hs1⟩, q⟩ := h
  refine ⟨_, (zp4 (yc2 (i := 3) zr9.nd rfl (by first | exact Or.inl rfl | exact Or.inr rfl) (xv4 D_l_cell_at G_l_cell_at hr rfl (zq2 (pv 0) (zq2 (pv 1) zw7))))
    (zp4 (yc2 (i := 4) zr9.nd rfl (by first | exact Or.inl rfl | exact Or.inr rfl) (zk6 xe5 (pv 1) (zz1 (xm6 rfl) rfl z_max boot_max (zq2 zn4 (zq2 (zz1 zo6 rfl z_len boot_len (zq2 (pv 0) zw7)) zw7)))))
    (zp4 (yc2 (i := 5) zr9.nd rfl (by first | exact Or.inl rfl | exact Or.inr rfl) (zk6 yc3 (zk6 yc3 (zk6 yc3 (zk6 xm4 (pv 3) zn4) (zk6 zu2 (zk6 zu2 zn4 (pv 1)) (pv 1))) (zk6 zu2 (zk6 zu2 zn4 (pv 2)) (pv 2))) zn4))
    (zp4 (yc2 (i := 5) zr9.nd rfl (by first | exact Or.inl rfl | exact Or.inr rfl) (zk6 yn3 (zk6 zu2 (pv 5) zn4) zn4))
    (zp4 (yc2 (i := 5) zr9.nd rfl (by first | exact Or.inl rfl | exact Or.inr rfl) (zk6 yn3 (zk6 zu2 (pv 5) (pv 5)) zn4))
    (yi1 (yc1 (zk6 xm4 (zk6 yc3 (zk6 wb2 (pv 3) (zk6 zu2 zn4 (zk6 yc3 (pv 2) (zk6 zu2 zn4 (pv 4))))) (pv 5)) zn4)))))))), ?_⟩
  have hl : (ns.map V.int).length = ns.length := List.length_map _
  have hlap : 0 <= yq7 ns k := by unfold yq7; exact Int.ediv_nonneg hk0 (by split <;> omega)
  have hn1 : 0 <= yk1 ns k salt /\ yk1 ns k salt < 2147483647 := ⟨Int.emod_nonneg _ (by decide), Int.emod_lt_of_pos _ (by decide)⟩
  refine ⟨_, rfl, _, rfl, a, ns, k, rfl, hS, ?_⟩
  refine ⟨_, rfl, _, rfl, a, _, rfl, .inl hS, _, _, rfl, _, _, rfl, rfl, ?_, ?_⟩
  . rw [hl]; constructor
    . split <;> omega
    . split <;> omega
  rw [hl]
  refine ⟨_, rfl, _, _, rfl, rfl, _, rfl, _, _, rfl, rfl, .inl ⟨by decide, by decide⟩, _, rfl, _, _, rfl, rfl, .inr ⟨by omega, by omega⟩, _, _, rfl, rfl, _, rfl, _, _, rfl, rfl, .inl ⟨by decide, by decide⟩, _, rfl, _, _, rfl, rfl, .inr ⟨by omega, by omega⟩, _, _, rfl, rfl, _, _, rfl, rfl, ?_⟩
  refine ⟨_, rfl, _, _, rfl, rfl, .inr ⟨by decide, by decide⟩, _, _, rfl, rfl, (by show (0 : Int) < 2147483647; decide), ?_⟩
  refine ⟨_, rfl, _, rfl, _, _, rfl, rfl, .inl ⟨by show -(2 ^ 64) < yk1 ns k salt; omega, by show yk1 ns k salt < 2 ^ 64; omega⟩, _, _, rfl, rfl, (by show (0 : Int) < 2147483629; decide), ?_⟩
  refine ⟨_, rfl, _, rfl, _, rfl, _, _, rfl, rfl, .inl ⟨by decide, by decide⟩, _, _, rfl, rfl, _, _, rfl, rfl, .inl ⟨by decide, by decide⟩, _, _, rfl, rfl, ?_, _, rfl, _, _, rfl, rfl, _, _, rfl, rfl, q⟩
  show 0 <= 31 * (salt + 128 * yq7 ns k)
  omega
end My
namespace L3
open PySem PySem.Spec PyProof.Rows L2 My
variable {P : Program} {w : World} {K : PySem.W.Frag} {mg : Str -> Option Value} {base : Heap} {κ : Str -> Addr}
noncomputable def ya0 (g_Place_init : (List D -> Option (D × List D))) : PSt -> Option (Fl × PSt) :=
  (ze6 (za5 (zw1 (zg2 "Place" (zb6 [.im (fC (.bl true)), .im (fC (.int 0))]) g_Place_init))))
noncomputable abbrev zh8 : Stmt := top 6
theorem ym3 : FnScope [] [] (za4 zh8) := ⟨rfl, rfl, rfl, by decide +kernel, rfl, by decide +kernel, by decide +kernel⟩
theorem ym4 {n : Nat} {f : Addr} {fd : FuncData} {g_Place_init : (List D -> Option (D × List D))} {f_Place_init : Addr} {fd_Place_init : FuncData} (D_p_first_place : Dn K mg "first_place" zh8 [] f fd)
    (K_Place : Kn K mg κ "Place" "Place.__init__" zk3 ["self", "broken", "margin"] f_Place_init fd_Place_init) (G_Place_init : FnOk P w K mg base CX0 n f_Place_init fd_Place_init ["self", "broken", "margin"] (SpE 3 K κ (zd3 [true, false, false]) g_Place_init)) :
    FnOk P w K mg base CX0 ((n + 1) + 1) f fd [] (SpP 0 K κ (gP 0 0 (ya0 g_Place_init))) :=
  zj3 D_p_first_place.F ym3 fun cdv A outer s H E B hr =>
  (zb4 (zf5 (QP.e (yg6 (zv6 K_Place G_Place_init hr rfl (zi7 (QP.v yd4) (zi7 (QP.v zb2) zm1)) rfl rfl (zj6 2))))))
noncomputable def yb4  : PSt -> Option (Fl × PSt) :=
  (ze6 (za5 (f2 dIn (f2 dIx (za0 0) (fC (.int 0))) (fC (.tup [(.str "group"), (.str "hang"), (.str "either")])))))
noncomputable abbrev zk1 : Stmt := top 7
theorem yp4 : FnScope ["piece"] ["piece"] (za4 zk1) := ⟨rfl, rfl, rfl, by decide +kernel, rfl, by decide +kernel, by decide +kernel⟩
theorem yp5 {n : Nat} {f : Addr} {fd : FuncData} {a_HOLDERS : Addr} (D_p_holds_rows : Dn K mg "holds_rows" zk1 ["piece"] f fd)
    (g_HOLDERS : mg "HOLDERS" = some (.ref a_HOLDERS)) (k_HOLDERS : ∀ H, Rep K κ H (.ref a_HOLDERS) (.tup [(.str "group"), (.str "hang"), (.str "either")]) []) :
    FnOk P w K mg base CX0 (n + 1) f fd ["piece"] (SpP 1 K κ (gP 1 0 (yb4 ))) :=
  zj3 D_p_holds_rows.F yp4 fun cdv A outer s H E B hr =>
  (zb4 (zf5 (QP.e (yg1 xs5 (zg1 (za2 0) (QP.v zb2)) (QP.v (yr6 (v := .ref a_HOLDERS) (d := (.tup [(.str "group"), (.str "hang"), (.str "either")])) rfl g_HOLDERS rfl k_HOLDERS)) (by with_unfolding_all rfl)))))
noncomputable def zy1  : PSt -> Option (Fl × PSt) :=
  (ze6 (za5 (fOr (f2 dEq (f2 dIx (za0 0) (fC (.int 0))) (fC (.str "either"))) (ye4 (f2 dEq (f2 dIx (za0 0) (fC (.int 0))) (fC (.str "group"))) (zb9 (zf1 "Place" "broken" (za0 1)))))))
noncomputable abbrev zi4 : Stmt := top 8
theorem yk6 : FnScope ["piece", "place"] ["piece", "place"] (za4 zi4) := ⟨rfl, rfl, rfl, by decide +kernel, rfl, by decide +kernel, by decide +kernel⟩
theorem yk7 {n : Nat} {f : Addr} {fd : FuncData}  (D_p_takes_choice : Dn K mg "takes_choice" zi4 ["piece", "place"] f fd)
    (cl_Place : Cls K (κ "Place"))
    (na_broken : zd6 K (κ "Place") "broken") :
    FnOk P w K mg base CX0 (n + 1) f fd ["piece", "place"] (SpP 2 K κ (gP 2 0 (zy1 ))) :=
  zj3 D_p_takes_choice.F yk6 fun cdv A outer s H E B hr =>
  (zb4 (zf5 (QP.e (xi7 (yg1 (zq4 (Room.units hr)) (zg1 (za2 0) (QP.v zb2)) (QP.v ze7) (zf9 _)) (yo2 (yy7 (yg1 (zq4 (Room.units hr)) (zg1 (za2 0) (QP.v zb2)) (QP.v ze7) (zf9 _)) (yo2 (QV.p (zi3 (C := "Place") cl_Place na_broken (za2 1))))))))))
noncomputable def zr6 (g_Place_init : (List D -> Option (D × List D))) : PSt -> Option (Fl × PSt) :=
  (zb8 (zc8 2 (za5 (zb9 (f2 dIx (za0 0) (fC (.int 0))))))
  (zb8 (fIf (za8 (fB (f2 dEq (za0 2) (fC (.str "hang")))))
   (ze6 (za5 (zs5 (za1 (zj0 (za1 (zb9 (f2 dIx (za0 0) (fC (.int 2)))) (za1 (zw1 (zg2 "Place" (zb6 [.im (zf1 "Place" "broken" (za0 1)), .im (f2 zf0 (zf1 "Place" "margin" (za0 1)) (f2 dIx (za0 0) (fC (.int 1))))]) g_Place_init)) za3))) za3))))
   zd0)
  (zb8 (fIf (za8 (fB (f2 dEq (za0 2) (fC (.str "either")))))
   (ze6 (za5 (yb2 [none, some 1] (zp5 (f2 dIx (za0 0) (fC (.int 1)))) zz9 (zj0 (za1 (zb9 (za0 0)) (za1 (zb9 (za0 1)) za3))))))
   zd0)
  (zb8 (zc8 3 (za5 (zj0 (za1 (zb9 (f2 dIx (za0 0) (fC (.int 1)))) (za1 (zw1 (zg2 "Place" (zb6 [.im (fC (.bl false)), .im (zf1 "Place" "margin" (za0 1))]) g_Place_init)) za3)))))
  (zb8 (fIf (za8 (fT (zf1 "Place" "broken" (za0 1))))
   (ze6 (za5 (zs5 (za1 (zb9 (za0 3)) (za1 (zj0 (za1 (zb9 (f2 dIx (za0 0) (fC (.int 1)))) (za1 (zb9 (za0 1)) za3))) za3)))))
   zd0)
  (ze6 (za5 (zs5 (za1 (zb9 (za0 3)) za3)))))))))
noncomputable abbrev zp3 : Stmt := top 9
theorem yg8 : FnScope ["piece", "place", "kind", "on_one_line"] ["piece", "place"] (za4 zp3) := ⟨rfl, rfl, rfl, by decide +kernel, rfl, by decide +kernel, by decide +kernel⟩
theorem xo7 {n : Nat} {f : Addr} {fd : FuncData} {g_Place_init : (List D -> Option (D × List D))} {f_Place_init : Addr} {fd_Place_init : FuncData} (D_p_ways : Dn K mg "ways" zp3 ["piece", "place"] f fd)
    (K_Place : Kn K mg κ "Place" "Place.__init__" zk3 ["self", "broken", "margin"] f_Place_init fd_Place_init) (G_Place_init : FnOk P w K mg base CX0 n f_Place_init fd_Place_init ["self", "broken", "margin"] (SpE 3 K κ (zd3 [true, false, false]) g_Place_init))
    (cl_Place : Cls K (κ "Place"))
    (na_broken : zd6 K (κ "Place") "broken")
    (na_margin : zd6 K (κ "Place") "margin") :
    FnOk P w K mg base CX0 ((n + 1) + 1) f fd ["piece", "place"] (SpP 2 K κ (gP 2 2 (zr6 g_Place_init))) :=
  zj3 D_p_ways.F yg8 fun cdv A outer s H E B hr =>
  (zb0 (zh3 2 yg8.nd rfl (by first | exact Or.inl rfl | exact Or.inr rfl) rfl rfl (QP.e (QV.p (zg1 (za2 0) (QP.v zb2)))))
  (zb0 (zi0 (QT.e (zg5 (zq4 (Room.units hr)) (za2 2) (QP.v ze7) (zf9 _)))
   (zb4 (zf5 (QP.e (zz2 (zd9 (zo7 (zd9 (QV.p (zg1 (za2 0) (QP.v zb2))) (zd9 (yg6 (zv6 K_Place G_Place_init hr rfl (zi7 (zi3 (C := "Place") cl_Place na_broken (za2 1)) (zi7 (QP.v (zg0 zt0 (zi3 (C := "Place") cl_Place na_margin (za2 1)) (zg1 (za2 0) (QP.v zb2)))) zm1)) rfl rfl (zj6 2))) zh4))) zh4)))))
   zf4)
  (zb0 (zi0 (QT.e (zg5 (zq4 (Room.units hr)) (za2 2) (QP.v ze7) (zf9 _)))
   (zb4 (zf5 (QP.e (yi8 (sc := za4 zp3) (NX := ["piece", "place", "kind", "on_one_line"]) (N := ["row", "place"]) (pick := [none, some 1]) ⟨rfl, by decide +kernel, by decide +kernel, by decide +kernel, by decide +kernel, by decide, rfl⟩ rfl rfl rfl (yz0 (zg1 (za2 0) (QP.v zb2))) (fun _ _ _ _ => (zy7 (i := 0) (show (["row", "place"] : List Str).Nodup by decide) rfl (by first | exact Or.inl rfl | exact Or.inr rfl))) (fun _ _ _ _ => yi7) (fun _ _ _ _ => (zo7 (zd9 (QV.p (za2 0)) (zd9 (QV.p (za2 1)) zh4))))))))
   zf4)
  (zb0 (zh3 3 yg8.nd rfl (by first | exact Or.inl rfl | exact Or.inr rfl) rfl rfl (QP.e (zo7 (zd9 (QV.p (zg1 (za2 0) (QP.v zb2))) (zd9 (yg6 (zv6 K_Place G_Place_init hr rfl (zi7 (QP.v yd4) (zi7 (zi3 (C := "Place") cl_Place na_margin (za2 1)) zm1)) rfl rfl (zj6 2))) zh4)))))
  (zb0 (zi0 (QT.e (zs6 (zi3 (C := "Place") cl_Place na_broken (za2 1))))
   (zb4 (zf5 (QP.e (zz2 (zd9 (QV.p (za2 3)) (zd9 (zo7 (zd9 (QV.p (zg1 (za2 0) (QP.v zb2))) (zd9 (QV.p (za2 1)) zh4))) zh4))))))
   zf4)
  (zb4 (zf5 (QP.e (zz2 (zd9 (QV.p (za2 3)) zh4))))))))))
noncomputable def yf5  : PSt -> Option (Fl × PSt) :=
  (ze6 (za5 (f2 zf0 (fC (.str "\n")) (f2 zx7 (fC (.str " ")) (za0 0)))))
noncomputable abbrev zl5 : Stmt := top 10
theorem yw7 : FnScope ["blanks"] ["blanks"] (za4 zl5) := ⟨rfl, rfl, rfl, by decide +kernel, rfl, by decide +kernel, by decide +kernel⟩
theorem yw8 {n : Nat} {f : Addr} {fd : FuncData}  (D_p_new_line : Dn K mg "new_line" zl5 ["blanks"] f fd)
     :
    FnOk P w K mg base CX0 (n + 1) f fd ["blanks"] (SpP 1 K κ (gP 1 0 (yf5 ))) :=
  zj3 D_p_new_line.F yw7 fun cdv A outer s H E B hr =>
  (zb4 (zf5 (QP.e (zg0 zt0 (QP.v ze7) (QP.v (zg0 yo3 (QP.v ze7) (za2 0)))))))
noncomputable def zu9 (g_p_new_line : (List D -> Option D)) : PSt -> Option (Fl × PSt) :=
  (zb8 (zc8 3 (za5 (zb9 (f2 dIx (za0 0) (fC (.int 0))))))
  (zb8 (fIf (za8 (fB (f2 dEq (za0 3) (fC (.str "word")))))
   (ze6 (za5 (zb9 (f2 dIx (za0 0) (fC (.int 1))))))
   zd0)
  (zb8 (fIf (za8 (zq7 (fB (f2 dEq (za0 3) (fC (.str "gap")))) (zo2 (fT (zf1 "Place" "broken" (za0 1))))))
   (ze6 (za5 (zb9 (f2 dIx (za0 0) (fC (.int 1))))))
   zd0)
  (zb8 (fIf (za8 (zq7 (fB (f2 dEq (za0 3) (fC (.str "stop")))) (fB (f2 dLe (za0 2) (f2 dIx (za0 0) (fC (.int 1)))))))
   (ze6 (za5 (f2 zx7 (fC (.str " ")) (f2 zn3 (f2 dIx (za0 0) (fC (.int 1))) (za0 2)))))
   zd0)
  (zb8 (fIf (za8 (zo2 (fT (zf1 "Place" "broken" (za0 1)))))
   (ze6 (za5 (fC .non)))
   zd0)
  (zb8 (fIf (za8 (fB (f2 dEq (za0 3) (fC (.str "stop")))))
   (ze6 (za5 (za6 g_p_new_line (za1 (f2 dIx (za0 0) (fC (.int 1))) za3))))
   zd0)
  (ze6 (za5 (za6 g_p_new_line (za1 (zf1 "Place" "margin" (za0 1)) za3))))))))))
noncomputable abbrev zm8 : Stmt := top 11
theorem yg9 : FnScope ["piece", "place", "column", "kind"] ["piece", "place", "column"] (za4 zm8) := ⟨rfl, rfl, rfl, by decide +kernel, rfl, by decide +kernel, by decide +kernel⟩
theorem xa3 {n : Nat} {f : Addr} {fd : FuncData} {g_p_new_line : (List D -> Option D)} {f_p_new_line : Addr} {fd_p_new_line : FuncData} (D_p_writing : Dn K mg "writing" zm8 ["piece", "place", "column"] f fd)
    (D_p_new_line : Dn K mg "new_line" zl5 ["blanks"] f_p_new_line fd_p_new_line) (G_p_new_line : FnOk P w K mg base CX0 n f_p_new_line fd_p_new_line ["blanks"] (SpP 1 K κ g_p_new_line))
    (cl_Place : Cls K (κ "Place"))
    (na_broken : zd6 K (κ "Place") "broken")
    (na_margin : zd6 K (κ "Place") "margin") :
    FnOk P w K mg base CX0 (n + 1) f fd ["piece", "place", "column"] (SpP 3 K κ (gP 3 1 (zu9 g_p_new_line))) :=
  zj3 D_p_writing.F yg9 fun cdv A outer s H E B hr =>
  (zb0 (zh3 3 yg9.nd rfl (by first | exact Or.inl rfl | exact Or.inr rfl) rfl rfl (QP.e (QV.p (zg1 (za2 0) (QP.v zb2)))))
  (zb0 (zi0 (QT.e (zg5 (zq4 (Room.units hr)) (za2 3) (QP.v ze7) (zf9 _)))
   (zb4 (zf5 (QP.e (QV.p (zg1 (za2 0) (QP.v zb2))))))
   zf4)
  (zb0 (zi0 (QT.e (yl5 (yo1 (zg5 (zq4 (Room.units hr)) (za2 3) (QP.v ze7) (zf9 _)) (yi3 (yc4 (zs6 (zi3 (C := "Place") cl_Place na_broken (za2 1))))))))
   (zb4 (zf5 (QP.e (QV.p (zg1 (za2 0) (QP.v zb2))))))
   zf4)
  (zb0 (zi0 (QT.e (yl5 (yo1 (zg5 (zq4 (Room.units hr)) (za2 3) (QP.v ze7) (zf9 _)) (yi3 (zg5 xs0 (za2 2) (zg1 (za2 0) (QP.v zb2)) (zf9 _))))))
   (zb4 (zf5 (QP.e (zg0 yo3 (QP.v ze7) (QP.v (zg0 yx2 (zg1 (za2 0) (QP.v zb2)) (za2 2)))))))
   zf4)
  (zb0 (zi0 (QT.e (yc4 (zs6 (zi3 (C := "Place") cl_Place na_broken (za2 1)))))
   (zb4 (zf5 (QP.e yo0)))
   zf4)
  (zb0 (zi0 (QT.e (zg5 (zq4 (Room.units hr)) (za2 3) (QP.v ze7) (zf9 _)))
   (zb4 (zf5 (QP.e (zn5 D_p_new_line G_p_new_line hr rfl rfl (zb3 (zg1 (za2 0) (QP.v zb2)) zd5) (ze0 zk2)))))
   zf4)
  (zb4 (zf5 (QP.e (zn5 D_p_new_line G_p_new_line hr rfl rfl (zb3 (zi3 (C := "Place") cl_Place na_margin (za2 1)) zd5) (ze0 zk2)))))))))))
noncomputable def zw2  : PSt -> Option (Fl × PSt) :=
  (ze6 (za5 (fMt zs8 (za0 0) (za1 (fC (.str "\n")) za3))))
noncomputable abbrev zk4 : Stmt := top 12
theorem ys2 : FnScope ["wrote"] ["wrote"] (za4 zk4) := ⟨rfl, rfl, rfl, by decide +kernel, rfl, by decide +kernel, by decide +kernel⟩
theorem ys3 {n : Nat} {f : Addr} {fd : FuncData}  (D_p_ends_line : Dn K mg "ends_line" zk4 ["wrote"] f fd)
     :
    FnOk P w K mg base CX0 (n + 1) f fd ["wrote"] (SpP 1 K κ (gP 1 0 (zw2 ))) :=
  zj3 D_p_ends_line.F ys2 fun cdv A outer s H E B hr =>
  (zb4 (zf5 (QP.e (yo4 PySem.F.slot_str_startswith PySem.F.type_str_startswith zz5 (za2 0) (zb3 (QP.v ze7) zd5)))))
noncomputable def zl0 (g_p_ends_line : (List D -> Option D)) : PSt -> Option (Fl × PSt) :=
  (zb8 (fIf (za8 (fT (za6 g_p_ends_line (za1 (za0 1) za3))))
   (ze6 (za5 (f2 zn3 (za6 zg7 (za1 (za0 1) za3)) (fC (.int 1)))))
   zd0)
  (ze6 (za5 (f2 zf0 (za0 0) (za6 zg7 (za1 (za0 1) za3))))))
noncomputable abbrev zh9 : Stmt := top 13
theorem yh0 : FnScope ["column", "wrote"] ["column", "wrote"] (za4 zh9) := ⟨rfl, rfl, rfl, by decide +kernel, rfl, by decide +kernel, by decide +kernel⟩
theorem yh1 {n : Nat} {f : Addr} {fd : FuncData} {g_p_ends_line : (List D -> Option D)} {f_p_ends_line : Addr} {fd_p_ends_line : FuncData} (D_p_column_behind : Dn K mg "column_behind" zh9 ["column", "wrote"] f fd)
    (D_p_ends_line : Dn K mg "ends_line" zk4 ["wrote"] f_p_ends_line fd_p_ends_line) (G_p_ends_line : FnOk P w K mg base CX0 n f_p_ends_line fd_p_ends_line ["wrote"] (SpP 1 K κ g_p_ends_line))
    (z_len : mg "len" = none) :
    FnOk P w K mg base CX0 (n + 1) f fd ["column", "wrote"] (SpP 2 K κ (gP 2 0 (zl0 g_p_ends_line))) :=
  zj3 D_p_column_behind.F yh0 fun cdv A outer s H E B hr =>
  (zb0 (zi0 (QT.e (zs6 (QP.v (zn5 D_p_ends_line G_p_ends_line hr rfl rfl (zb3 (za2 1) zd5) (ze0 zk2)))))
   (zb4 (zf5 (QP.e (zg0 yx2 (QP.v (zl3 zu5 rfl z_len boot_len (zb3 (za2 1) zd5))) (QP.v zb2)))))
   zf4)
  (zb4 (zf5 (QP.e (zg0 zt0 (za2 0) (QP.v (zl3 zu5 rfl z_len boot_len (zb3 (za2 1) zd5))))))))
noncomputable def yc0 (g_Setter_init : (List D -> Option (D × List D))) (g_Setter_set_row : (List D -> Option (D × List D))) (g_p_first_place : (List D -> Option D)) (g_Setter_whole_text : (List D -> Option D)) : PSt -> Option (Fl × PSt) :=
  (zb8 (zc8 2 (za5 (zg2 "Setter" (zb6 [.im (za0 1)]) g_Setter_init)))
  (zb8 (zc1 (zc9 2 zb5 (zb6 [.im (za0 0), .im (za6 g_p_first_place za3)]) (zj5 "Setter" "set_row" g_Setter_set_row)))
  (ze6 (za5 (za6 g_Setter_whole_text (za1 (zi2 "Setter" "whole_text" (za0 2)) za3))))))
noncomputable abbrev zk7 : Stmt := top 16
theorem zw5 : FnScope ["row", "choices", "setter"] ["row", "choices"] (za4 zk7) := ⟨rfl, rfl, rfl, by decide +kernel, rfl, by decide +kernel, by decide +kernel⟩
theorem xe0 {n : Nat} {f : Addr} {fd : FuncData} {g_Setter_init : (List D -> Option (D × List D))} {f_Setter_init : Addr} {fd_Setter_init : FuncData} {g_Setter_set_row : (List D -> Option (D × List D))} {f_Setter_set_row : Addr} {fd_Setter_set_row : FuncData} {g_p_first_place : (List D -> Option D)} {f_p_first_place : Addr} {fd_p_first_place : FuncData} {g_Setter_whole_text : (List D -> Option D)} {f_Setter_whole_text : Addr} {fd_Setter_whole_text : FuncData} (D_p_set_by : Dn K mg "set_by" zk7 ["row", "choices"] f fd)
    (K_Setter : Kn K mg κ "Setter" "Setter.__init__" zj4 ["self", "choices"] f_Setter_init fd_Setter_init) (G_Setter_init : FnOk P w K mg base CX0 n f_Setter_init fd_Setter_init ["self", "choices"] (SpE 2 K κ (zd3 [true, false]) g_Setter_init))
    (M_Setter_set_row : Mn K κ "Setter" "set_row" "Setter.set_row" zg3 ["self", "row", "place"] f_Setter_set_row fd_Setter_set_row) (G_Setter_set_row : FnOk P w K mg base CX0 (n + 1) f_Setter_set_row fd_Setter_set_row ["self", "row", "place"] (SpE 3 K κ (zd3 [true, false, false]) g_Setter_set_row))
    (D_p_first_place : Dn K mg "first_place" zh8 [] f_p_first_place fd_p_first_place) (G_p_first_place : FnOk P w K mg base CX0 (n + 1) f_p_first_place fd_p_first_place [] (SpP 0 K κ g_p_first_place))
    (M_Setter_whole_text : Mn K κ "Setter" "whole_text" "Setter.whole_text" ze9 ["self"] f_Setter_whole_text fd_Setter_whole_text) (G_Setter_whole_text : FnOk P w K mg base CX0 (n + 1) f_Setter_whole_text fd_Setter_whole_text ["self"] (SpP 1 K κ g_Setter_whole_text)) :
    FnOk P w K mg base CX0 ((n + 1) + 1) f fd ["row", "choices"] (SpP 2 K κ (gP 2 1 (yc0 g_Setter_init g_Setter_set_row g_p_first_place g_Setter_whole_text))) :=
  zj3 D_p_set_by.F zw5 fun cdv A outer s H E B hr =>
  (zb0 (zh3 2 zw5.nd rfl (by first | exact Or.inl rfl | exact Or.inr rfl) rfl rfl (QP.e (zv6 K_Setter G_Setter_init hr rfl (zi7 (za2 1) zm1) rfl rfl (zj6 1))))
  (zb0 (zq3 (zt8 M_Setter_set_row G_Setter_set_row hr rfl (ze4 2) (zi7 (za2 0) (zi7 (QP.v (yo7 D_p_first_place G_p_first_place hr rfl)) zm1)) rfl rfl (zj6 2)))
  (zb4 (zf5 (QP.e (ym0 M_Setter_whole_text G_Setter_whole_text hr (za2 2)))))))
noncomputable def zv0 (g_Setter_init : (List D -> Option (D × List D))) (g_Setter_set_row : (List D -> Option (D × List D))) (g_p_first_place : (List D -> Option D)) (gx_Setter_whole_text : (List D -> Bool)) : PSt -> Bool :=
  (ye6 (zc8 2 (za5 (zg2 "Setter" (zb6 [.im (za0 1)]) g_Setter_init)))
  (ye6 (zc1 (zc9 2 zb5 (zb6 [.im (za0 0), .im (za6 g_p_first_place za3)]) (zj5 "Setter" "set_row" g_Setter_set_row)))
  (yj9 "Setter" "whole_text" (za0 2) gx_Setter_whole_text)))
theorem xa4 {n : Nat} {f : Addr} {fd : FuncData} {g_Setter_init : (List D -> Option (D × List D))} {f_Setter_init : Addr} {fd_Setter_init : FuncData} {g_Setter_set_row : (List D -> Option (D × List D))} {f_Setter_set_row : Addr} {fd_Setter_set_row : FuncData} {g_p_first_place : (List D -> Option D)} {f_p_first_place : Addr} {fd_p_first_place : FuncData} {gx_Setter_whole_text : (List D -> Bool)} {f_Setter_whole_text : Addr} {fd_Setter_whole_text : FuncData} {C_NoChoice : Addr} (D_p_set_by : Dn K mg "set_by" zk7 ["row", "choices"] f fd)
    (K_Setter : Kn K mg κ "Setter" "Setter.__init__" zj4 ["self", "choices"] f_Setter_init fd_Setter_init) (G_Setter_init : FnOk P w K mg base CX0 n f_Setter_init fd_Setter_init ["self", "choices"] (SpE 2 K κ (zd3 [true, false]) g_Setter_init))
    (M_Setter_set_row : Mn K κ "Setter" "set_row" "Setter.set_row" zg3 ["self", "row", "place"] f_Setter_set_row fd_Setter_set_row) (G_Setter_set_row : FnOk P w K mg base CX0 (n + 1) f_Setter_set_row fd_Setter_set_row ["self", "row", "place"] (SpE 3 K κ (zd3 [true, false, false]) g_Setter_set_row))
    (D_p_first_place : Dn K mg "first_place" zh8 [] f_p_first_place fd_p_first_place) (G_p_first_place : FnOk P w K mg base CX0 (n + 1) f_p_first_place fd_p_first_place [] (SpP 0 K κ g_p_first_place))
    (M_Setter_whole_text : Mn K κ "Setter" "whole_text" "Setter.whole_text" ze9 ["self"] f_Setter_whole_text fd_Setter_whole_text) (GX_Setter_whole_text : FnOk P w K mg base (CXn P w base C_NoChoice) (n + 1) f_Setter_whole_text fd_Setter_whole_text ["self"] (yb9 1 K κ C_NoChoice gx_Setter_whole_text))
    (O_NoChoice : OwnCls "NoChoice" C_NoChoice bmV "ValueError.__new__" mg base) :
    FnOk P w K mg base (CXn P w base C_NoChoice) ((n + 1) + 1) f fd ["row", "choices"] (yb9 2 K κ C_NoChoice (gX 2 1 (zv0 g_Setter_init g_Setter_set_row g_p_first_place gx_Setter_whole_text))) :=
  ya8 D_p_set_by.F zw5 fun cdv A outer s H E B hr =>
  (yj0 (zh3 2 zw5.nd rfl (by first | exact Or.inl rfl | exact Or.inr rfl) rfl rfl (QP.e (zv6 K_Setter G_Setter_init hr rfl (zi7 (za2 1) zm1) rfl rfl (zj6 1))))
  (yj0 (zq3 (zt8 M_Setter_set_row G_Setter_set_row hr rfl (ze4 2) (zi7 (za2 0) (zi7 (QP.v (yo7 D_p_first_place G_p_first_place hr rfl)) zm1)) rfl rfl (zj6 2)))
  (yc6 (ys1 M_Setter_whole_text GX_Setter_whole_text hr (za2 2)))))
noncomputable def yw6  : PSt -> Option (Fl × PSt) :=
  (zb8 (zc8 1 (za5 (fC (.str "~}|{zyxwvutsrqponmlkjihgfedcba`_^]\\[ZYXWVUTSRQPONMLKJIHGFEDCBA\x40?>=<;:9876543210/.-,+*)('&$#\"!"))))
  (zb8 (zc8 2 (za5 (fC (.str ""))))
  (zb8 (zw0 3 (zt2 (za1 (f2 zf0 (fC (.int 1)) (f2 zl4 (za0 0) (fC (.int 12)))) za3))
   (zb8 (zc8 4 (za5 (f2 zf0 (f2 zo9 (za0 0) (fC (.int 12))) (f2 zx7 (za0 3) (f2 zl4 (f2 zo9 (za0 0) (fC (.int 7))) (fC (.int 89)))))))
  (zc8 2 (za5 (f2 zf0 (za0 2) (f2 dIx (za0 1) (f2 zl4 (za0 4) (za6 zg7 (za1 (za0 1) za3)))))))))
  (zo3 2))))
noncomputable abbrev zr7 : Stmt := top 20
theorem zt9 : FnScope ["_law_number", "_law_signs", "_law_word_here", "_law_j", "_law_at"] ["_law_number"] (za4 zr7) := ⟨rfl, rfl, rfl, by decide +kernel, rfl, by decide +kernel, by decide +kernel⟩
theorem xo8 {n : Nat} {f : Addr} {fd : FuncData}  (D_l_word : Dn K mg "_law_word" zr7 ["_law_number"] f fd)
    (z_range : mg "range" = none)
    (z_len : mg "len" = none) :
    FnOk P w K mg base CX0 (n + 1) f fd ["_law_number"] (SpP 1 K κ (gP 1 4 (yw6 ))) :=
  zj3 D_l_word.F zt9 fun cdv A outer s H E B hr =>
  (zb0 (zh3 1 zt9.nd rfl (by first | exact Or.inl rfl | exact Or.inr rfl) rfl rfl (QP.e ze7))
  (zb0 (zh3 2 zt9.nd rfl (by first | exact Or.inl rfl | exact Or.inr rfl) rfl rfl (QP.e ze7))
  (zb0 (yo6 3 PassesOwn.never rfl zt9.nd rfl (by first | exact Or.inl rfl | exact Or.inr rfl) rfl rfl (zw9 rfl z_range (zb3 (QP.v (zg0 zt0 (QP.v zb2) (QP.v (zg0 zu4 (za2 0) (QP.v zb2))))) zd5))
   (zb0 (zh3 4 zt9.nd rfl (by first | exact Or.inl rfl | exact Or.inr rfl) rfl rfl (QP.e (zg0 zt0 (QP.v (zg0 zy3 (za2 0) (QP.v zb2))) (QP.v (zg0 yo3 (za2 3) (QP.v (zg0 zu4 (QP.v (zg0 zy3 (za2 0) (QP.v zb2))) (QP.v zb2))))))))
  (zb4 (zh3 2 zt9.nd rfl (by first | exact Or.inl rfl | exact Or.inr rfl) rfl rfl (QP.e (zg0 zt0 (za2 2) (zg1 (za2 1) (QP.v (zg0 zu4 (za2 4) (QP.v (zl3 zu5 rfl z_len boot_len (zb3 (za2 1) zd5))))))))))))
  (zb4 (yi5 2 rfl)))))
noncomputable def ye8 (g_l_word : (List D -> Option D)) : PSt -> Option (Fl × PSt) :=
  (zb8 (zc8 1 (za5 (f2 zl4 (za0 0) (fC (.int 9)))))
  (zb8 (fIf (za8 (fB (f2 dLt (za0 1) (fC (.int 4)))))
   (ze6 (za5 (zj0 (za1 (fC (.str "word")) (za1 (za6 g_l_word (za1 (f2 zo9 (za0 0) (fC (.int 9))) za3)) za3)))))
   zd0)
  (zb8 (fIf (za8 (fB (f2 dEq (za0 1) (fC (.int 4)))))
   (ze6 (za5 (zj0 (za1 (fC (.str "gap")) (za1 (fC (.str "")) za3)))))
   zd0)
  (zb8 (fIf (za8 (fB (f2 dEq (za0 1) (fC (.int 5)))))
   (ze6 (za5 (zj0 (za1 (fC (.str "gap")) (za1 (fC (.str " ")) za3)))))
   zd0)
  (zb8 (fIf (za8 (fB (f2 dEq (za0 1) (fC (.int 6)))))
   (ze6 (za5 (zj0 (za1 (fC (.str "end")) za3))))
   zd0)
  (ze6 (za5 (zj0 (za1 (fC (.str "stop")) (za1 (f2 zl4 (f2 zo9 (za0 0) (fC (.int 9))) (fC (.int 41))) za3))))))))))
noncomputable abbrev zp7 : Stmt := top 21
theorem yp6 : FnScope ["_law_number", "_law_way"] ["_law_number"] (za4 zp7) := ⟨rfl, rfl, rfl, by decide +kernel, rfl, by decide +kernel, by decide +kernel⟩
theorem xj6 {n : Nat} {f : Addr} {fd : FuncData} {g_l_word : (List D -> Option D)} {f_l_word : Addr} {fd_l_word : FuncData} (D_l_piece : Dn K mg "_law_piece" zp7 ["_law_number"] f fd)
    (D_l_word : Dn K mg "_law_word" zr7 ["_law_number"] f_l_word fd_l_word) (G_l_word : FnOk P w K mg base CX0 n f_l_word fd_l_word ["_law_number"] (SpP 1 K κ g_l_word)) :
    FnOk P w K mg base CX0 (n + 1) f fd ["_law_number"] (SpP 1 K κ (gP 1 1 (ye8 g_l_word))) :=
  zj3 D_l_piece.F yp6 fun cdv A outer s H E B hr =>
  (zb0 (zh3 1 yp6.nd rfl (by first | exact Or.inl rfl | exact Or.inr rfl) rfl rfl (QP.e (zg0 zu4 (za2 0) (QP.v zb2))))
  (zb0 (zi0 (QT.e (zg5 (yl6 (Room.units0 hr)) (za2 1) (QP.v zb2) (zf9 _)))
   (zb4 (zf5 (QP.e (zo7 (zd9 ze7 (zd9 (zn5 D_l_word G_l_word hr rfl rfl (zb3 (QP.v (zg0 zy3 (za2 0) (QP.v zb2))) zd5) (ze0 zk2)) zh4))))))
   zf4)
  (zb0 (zi0 (QT.e (zg5 (zq4 (Room.units hr)) (za2 1) (QP.v zb2) (zf9 _)))
   (zb4 (zf5 (QP.e (zo7 (zd9 ze7 (zd9 ze7 zh4))))))
   zf4)
  (zb0 (zi0 (QT.e (zg5 (zq4 (Room.units hr)) (za2 1) (QP.v zb2) (zf9 _)))
   (zb4 (zf5 (QP.e (zo7 (zd9 ze7 (zd9 ze7 zh4))))))
   zf4)
  (zb0 (zi0 (QT.e (zg5 (zq4 (Room.units hr)) (za2 1) (QP.v zb2) (zf9 _)))
   (zb4 (zf5 (QP.e (zo7 (zd9 ze7 zh4)))))
   zf4)
  (zb4 (zf5 (QP.e (zo7 (zd9 ze7 (zd9 (zg0 zu4 (QP.v (zg0 zy3 (za2 0) (QP.v zb2))) (QP.v zb2)) zh4)))))))))))
noncomputable def xd3  : PSt -> Option (Fl × PSt) :=
  (zb8 (zc8 1 (za5 (zs5 (za1 (fC (.str "")) za3))))
  (zb8 (zw0 2 (zp5 (za0 0))
   (zb8 (fIf (za8 (fB (f2 dEq (f2 dIx (za0 2) (fC (.int 0))) (fC (.str "word")))))
   (zx2 1 zb5 (zv9 (fC (.int 1))) (f2 zf0 (f2 dIx (za0 1) (zv9 (fC (.int 1)))) (f2 dIx (za0 2) (fC (.int 1)))))
   zd0)
  (zb8 (fIf (za8 (zi9 (fB (f2 dEq (f2 dIx (za0 2) (fC (.int 0))) (fC (.str "gap")))) (fB (f2 dEq (f2 dIx (za0 2) (fC (.int 0))) (fC (.str "end"))))))
   (zc1 (zc9 1 zb5 (za1 (fC (.str "")) za3) ze3))
   zd0)
  (fIf (za8 (fB (f2 dEq (f2 dIx (za0 2) (fC (.int 0))) (fC (.str "stop")))))
   (zb8 (fIf (za8 (fB (f2 dGt (za6 zg7 (za1 (f2 dIx (za0 1) (zv9 (fC (.int 1)))) za3)) (f2 dIx (za0 2) (fC (.int 1))))))
   (zc1 (zc9 1 zb5 (za1 (fC (.str "")) za3) ze3))
   zd0)
  (zp0 (za8 (fB (f2 dLt (za6 zg7 (za1 (f2 dIx (za0 1) (zv9 (fC (.int 1)))) za3)) (f2 dIx (za0 2) (fC (.int 1))))))
   (zx2 1 zb5 (zv9 (fC (.int 1))) (f2 zf0 (f2 dIx (za0 1) (zv9 (fC (.int 1)))) (fC (.str " ")))) 400))
   zd0))))
  (ze6 (za5 (fMt zw6 (fC (.str "\n")) (za1 (za0 1) za3))))))
noncomputable abbrev zt5 : Stmt := top 22
theorem ym5 : FnScope ["_law_row", "_law_lines", "_law_piece_here"] ["_law_row"] (za4 zt5) := ⟨rfl, rfl, rfl, by decide +kernel, rfl, by decide +kernel, by decide +kernel⟩
theorem xt2 {n : Nat} {f : Addr} {fd : FuncData}  (D_l_due : Dn K mg "_law_due" zt5 ["_law_row"] f fd)
    (z_len : mg "len" = none) :
    FnOk P w K mg base CX0 (n + 1) f fd ["_law_row"] (SpP 1 K κ (gP 1 2 (xd3 ))) :=
  zj3 D_l_due.F ym5 fun cdv A outer s H E B hr =>
  (zb0 (zh3 1 ym5.nd rfl (by first | exact Or.inl rfl | exact Or.inr rfl) rfl rfl (QP.e (zz2 (zd9 ze7 zh4))))
  (zb0 (yi6 2 0 PassesOwn.never rfl ym5.nd rfl (by first | exact Or.inl rfl | exact Or.inr rfl) rfl rfl rfl
   (zb0 (zi0 (QT.e (zg5 (zq4 (Room.units hr)) (zg1 (za2 2) (QP.v zb2)) (QP.v ze7) (zf9 _)))
   (zb4 (yd7 (j := 1) rfl (zg0 zt0 (zg1 (za2 1) (QP.v (zw8 (QP.v zb2)))) (zg1 (za2 2) (QP.v zb2))) (ze4 1) (QP.v (zw8 (QP.v zb2)))))
   zf4)
  (zb0 (zi0 (QT.e (yl5 (yi4 (zg5 (zq4 (Room.units hr)) (zg1 (za2 2) (QP.v zb2)) (QP.v ze7) (zf9 _)) (yg2 (zg5 (zq4 (Room.units hr)) (zg1 (za2 2) (QP.v zb2)) (QP.v ze7) (zf9 _))))))
   (zb4 (zq3 (zx0 (j := 1) rfl (ze4 1) (zd9 ze7 zh4))))
   zf4)
  (zb4 (zi0 (QT.e (zg5 (zq4 (Room.units hr)) (zg1 (za2 2) (QP.v zb2)) (QP.v ze7) (zf9 _)))
   (zb0 (zi0 (QT.e (zg5 xs1 (QP.v (zl3 zu5 rfl z_len boot_len (zb3 (zg1 (za2 1) (QP.v (zw8 (QP.v zb2)))) zd5))) (zg1 (za2 2) (QP.v zb2)) (zf9 _)))
   (zb4 (zq3 (zx0 (j := 1) rfl (ze4 1) (zd9 ze7 zh4))))
   zf4)
  (zb4 (yl8 400 PassesOwn.never (QT.e (zg5 (yl6 (Room.units0 hr)) (QP.v (zl3 zu5 rfl z_len boot_len (zb3 (zg1 (za2 1) (QP.v (zw8 (QP.v zb2)))) zd5))) (zg1 (za2 2) (QP.v zb2)) (zf9 _)))
   (zb4 (yd7 (j := 1) rfl (zg0 zt0 (zg1 (za2 1) (QP.v (zw8 (QP.v zb2)))) (QP.v ze7)) (ze4 1) (QP.v (zw8 (QP.v zb2))))))))
   zf4)))))
  (zb4 (zf5 (QP.e (yo4 PySem.F.slot_str_join PySem.F.type_str_join yo5 (QP.v ze7) (zb3 (za2 1) zd5)))))))
noncomputable def yh7 (gx_p_set_by : (List D -> Bool)) : PSt -> Option (Fl × PSt) :=
  (zb8 (xd1 gx_p_set_by (za1 (za0 0) (za1 (za0 1) za3)))
  (ze6 (za5 (fC (.bl false)))))
noncomputable abbrev zm9 : Stmt := top 23
theorem xa5 : FnScope ["_law_row", "_law_choices"] ["_law_row", "_law_choices"] (za4 zm9) := ⟨rfl, rfl, rfl, by decide +kernel, rfl, by decide +kernel, by decide +kernel⟩
theorem xa6 {n : Nat} {f : Addr} {fd : FuncData} {gx_p_set_by : (List D -> Bool)} {f_p_set_by : Addr} {fd_p_set_by : FuncData} {C_NoChoice : Addr} (D_l_refused : Dn K mg "_law_refused" zm9 ["_law_row", "_law_choices"] f fd)
    (D_p_set_by : Dn K mg "set_by" zk7 ["row", "choices"] f_p_set_by fd_p_set_by) (GX_p_set_by : FnOk P w K mg base (CXn P w base C_NoChoice) n f_p_set_by fd_p_set_by ["row", "choices"] (yb9 2 K κ C_NoChoice gx_p_set_by))
    (O_NoChoice : OwnCls "NoChoice" C_NoChoice bmV "ValueError.__new__" mg base) :
    FnOk P w K mg base CX0 (n + 1) f fd ["_law_row", "_law_choices"] (SpP 2 K κ (gP 2 0 (yh7 gx_p_set_by))) :=
  zj3 D_l_refused.F xa5 fun cdv A outer s H E B hr =>
  (zb0 (xa0 D_p_set_by GX_p_set_by O_NoChoice rfl hr rfl rfl rfl (zb3 (za2 0) (zb3 (za2 1) zd5)) (ze0 (ze0 zk2)) rfl rfl)
  (zb4 (zf5 (QP.e yd4))))
noncomputable def xd4 (g_l_mixed : (List D -> Option D)) (g_l_piece : (List D -> Option D)) (g_l_due : (List D -> Option D)) (g_p_set_by : (List D -> Option D)) (g_l_refused : (List D -> Option D)) : PSt -> Option (Fl × PSt) :=
  (zb8 (zc8 1 (za5 (za6 g_l_mixed (za1 (za0 0) (za1 (fC (.int 0)) (za1 (fC (.int 1)) za3))))))
  (zb8 (zc8 2 (za5 (f2 zl4 (za0 1) (fC (.int 31)))))
  (zb8 (fIf (za8 (fB (f2 dEq (f2 zl4 (f2 zo9 (za0 1) (fC (.int 31))) (fC (.int 4))) (fC (.int 0)))))
   (zc8 2 (za5 (f2 zl4 (f2 zo9 (za0 1) (fC (.int 124))) (fC (.int 200)))))
   zd0)
  (zb8 (zc8 3 (za5 (za6 yh4 (za1 (yb2 [none, some 0] (zt2 (za1 (za0 2) za3)) zz9 (za6 g_l_piece (za1 (za6 g_l_mixed (za1 (za0 1) (za1 (f2 zf0 (fC (.int 1)) (za0 0)) (za1 (fC (.int 2)) za3)))) za3))) za3))))
  (zb8 (zc8 4 (za5 (za6 g_l_due (za1 (za0 3) za3))))
  (zb8 (zw0 5 (zt2 (za1 (fC (.int 2)) za3))
   (zb8 (zc8 6 (za5 (za6 g_p_set_by (za1 (za0 3) (za1 (zj0 za3) za3)))))
  (fIf (za8 (zi9 (zo2 (fT (za6 ym8 (za1 (za0 6) (za1 (fC (.ty "str")) za3))))) (zi9 (fB (f2 dNe (za0 6) (za0 4))) (zo2 (fT (za6 g_l_refused (za1 (za0 3) (za1 (zj0 (za1 (f2 zl4 (f2 zo9 (za0 1) (fC (.int 3))) (fC (.int 3))) za3)) za3))))))))
   (ze6 (za5 (fC (.bl false))))
   zd0)))
  (ze6 (za5 (fC (.bl true))))))))))
noncomputable abbrev zs9 : Stmt := top 24
theorem zx1 : FnScope ["_law_script", "_law_number", "_law_many", "_law_row", "_law_due_here", "_law_again", "_law_found"] ["_law_script"] (za4 zs9) := ⟨rfl, rfl, rfl, by decide +kernel, rfl, by decide +kernel, by decide +kernel⟩
theorem wd3 {n : Nat} {f : Addr} {fd : FuncData} {g_l_mixed : (List D -> Option D)} {f_l_mixed : Addr} {fd_l_mixed : FuncData} {g_l_piece : (List D -> Option D)} {f_l_piece : Addr} {fd_l_piece : FuncData} {g_l_due : (List D -> Option D)} {f_l_due : Addr} {fd_l_due : FuncData} {g_p_set_by : (List D -> Option D)} {f_p_set_by : Addr} {fd_p_set_by : FuncData} {g_l_refused : (List D -> Option D)} {f_l_refused : Addr} {fd_l_refused : FuncData} (D_law : Dn K mg "law" zs9 ["_law_script"] f fd)
    (D_l_mixed : Dn K mg "_law_mixed" zp6 ["_law_script", "_law_k", "_law_salt"] f_l_mixed fd_l_mixed) (G_l_mixed : FnOk P w K mg base CX0 n f_l_mixed fd_l_mixed ["_law_script", "_law_k", "_law_salt"] (SpP 3 K κ g_l_mixed))
    (D_l_piece : Dn K mg "_law_piece" zp7 ["_law_number"] f_l_piece fd_l_piece) (G_l_piece : FnOk P w K mg base CX0 n f_l_piece fd_l_piece ["_law_number"] (SpP 1 K κ g_l_piece))
    (D_l_due : Dn K mg "_law_due" zt5 ["_law_row"] f_l_due fd_l_due) (G_l_due : FnOk P w K mg base CX0 n f_l_due fd_l_due ["_law_row"] (SpP 1 K κ g_l_due))
    (D_p_set_by : Dn K mg "set_by" zk7 ["row", "choices"] f_p_set_by fd_p_set_by) (G_p_set_by : FnOk P w K mg base CX0 n f_p_set_by fd_p_set_by ["row", "choices"] (SpP 2 K κ g_p_set_by))
    (D_l_refused : Dn K mg "_law_refused" zm9 ["_law_row", "_law_choices"] f_l_refused fd_l_refused) (G_l_refused : FnOk P w K mg base CX0 n f_l_refused fd_l_refused ["_law_row", "_law_choices"] (SpP 2 K κ g_l_refused))
    (z_tuple : mg "tuple" = none)
    (z_range : mg "range" = none)
    (z_isinstance : mg "isinstance" = none)
    (z_str : mg "str" = none) :
    FnOk P w K mg base CX0 (n + 1) f fd ["_law_script"] (SpP 1 K κ (gP 1 6 (xd4 g_l_mixed g_l_piece g_l_due g_p_set_by g_l_refused))) :=
  zj3 D_law.F zx1 fun cdv A outer s H E B hr =>
  (zb0 (zh3 1 zx1.nd rfl (by first | exact Or.inl rfl | exact Or.inr rfl) rfl rfl (QP.e (zn5 D_l_mixed G_l_mixed hr rfl rfl (zb3 (za2 0) (zb3 (QP.v zb2) (zb3 (QP.v zb2) zd5))) (ze0 (ze0 (ze0 zk2))))))
  (zb0 (zh3 2 zx1.nd rfl (by first | exact Or.inl rfl | exact Or.inr rfl) rfl rfl (QP.e (zg0 zu4 (za2 1) (QP.v zb2))))
  (zb0 (zi0 (QT.e (zg5 (zq4 (Room.units hr)) (QP.v (zg0 zu4 (QP.v (zg0 zy3 (za2 1) (QP.v zb2))) (QP.v zb2))) (QP.v zb2) (zf9 _)))
   (zb4 (zh3 2 zx1.nd rfl (by first | exact Or.inl rfl | exact Or.inr rfl) rfl rfl (QP.e (zg0 zu4 (QP.v (zg0 zy3 (za2 1) (QP.v zb2))) (QP.v zb2)))))
   zf4)
  (zb0 (zh3 3 zx1.nd rfl (by first | exact Or.inl rfl | exact Or.inr rfl) rfl rfl (QP.e (yg3 yr7 rfl z_tuple boot_tuple (zb3 (QP.v (yi8 (sc := za4 zs9) (NX := ["_law_script", "_law_number", "_law_many", "_law_row", "_law_due_here", "_law_again", "_law_found"]) (N := ["_law_k", "_law_script"]) (pick := [none, some 0]) ⟨rfl, by decide +kernel, by decide +kernel, by decide +kernel, by decide +kernel, by decide, rfl⟩ rfl rfl rfl (QIP.v (zw9 rfl z_range (zb3 (za2 2) zd5))) (fun _ _ _ _ => (zy7 (i := 0) (show (["_law_k", "_law_script"] : List Str).Nodup by decide) rfl (by first | exact Or.inl rfl | exact Or.inr rfl))) (fun _ _ _ _ => yi7) (fun _ _ _ _ => (zn5 D_l_piece G_l_piece hr rfl rfl (zb3 (QP.v (zn5 D_l_mixed G_l_mixed hr rfl rfl (zb3 (za2 1) (zb3 (QP.v (zg0 zt0 (QP.v zb2) (za2 0))) (zb3 (QP.v zb2) zd5))) (ze0 (ze0 (ze0 zk2))))) zd5) (ze0 zk2))))) zd5))))
  (zb0 (zh3 4 zx1.nd rfl (by first | exact Or.inl rfl | exact Or.inr rfl) rfl rfl (QP.e (zn5 D_l_due G_l_due hr rfl rfl (zb3 (za2 3) zd5) (ze0 zk2))))
  (zb0 (yo6 5 PassesOwn.never rfl zx1.nd rfl (by first | exact Or.inl rfl | exact Or.inr rfl) rfl rfl (zw9 rfl z_range (zb3 (QP.v zb2) zd5))
   (zb0 (zh3 6 zx1.nd rfl (by first | exact Or.inl rfl | exact Or.inr rfl) rfl rfl (QP.e (zn5 D_p_set_by G_p_set_by hr rfl rfl (zb3 (za2 3) (zb3 (QP.v (zo7 zh4)) zd5)) (ze0 (ze0 zk2)))))
  (zb4 (zi0 (QT.e (yl5 (yi4 (yc4 (zs6 (QP.v (zl3 xj0 rfl z_isinstance boot_isinstance (zb3 (za2 6) (zb3 (QP.v (xi6 rfl z_str boot_str)) zd5)))))) (yi4 (zg5 (xs2 (Room.units hr)) (za2 6) (za2 4) (zf9 _)) (yg2 (yc4 (zs6 (QP.v (zn5 D_l_refused G_l_refused hr rfl rfl (zb3 (za2 3) (zb3 (QP.v (zo7 (zd9 (zg0 zu4 (QP.v (zg0 zy3 (za2 1) (QP.v zb2))) (QP.v zb2)) zh4))) zd5)) (ze0 (ze0 zk2)))))))))))
   (zb4 (zf5 (QP.e yd4)))
   zf4))))
  (zb4 (zf5 (QP.e yd4)))))))))
noncomputable def yf6  : PSt -> Option (Fl × PSt) :=
  (zb8 (ze8 0 zb5 "Place" "broken" (zb9 (za0 1)))
  (ze8 0 zb5 "Place" "margin" (zb9 (za0 2))))
noncomputable abbrev zk3 : Stmt := zv8 (top 5) 0
theorem yw9 : FnScope ["self", "broken", "margin"] ["self", "broken", "margin"] (za4 zk3) := ⟨rfl, rfl, rfl, by decide +kernel, rfl, by decide +kernel, by decide +kernel⟩
theorem yx0 {n : Nat} {f : Addr} {fd : FuncData}  (K_Place : Kn K mg κ "Place" "Place.__init__" zk3 ["self", "broken", "margin"] f fd)
    (cl_Place : Cls K (κ "Place"))
    (na_broken : zd6 K (κ "Place") "broken")
    (na_margin : zd6 K (κ "Place") "margin") :
    FnOk P w K mg base CX0 (n + 1) f fd ["self", "broken", "margin"] (SpE 3 K κ (zd3 [true, false, false]) (gE 3 0 (zd3 [true, false, false]) (yf6 ))) :=
  ya7 K_Place.F yw9 (fun i hi => zv5 hi) fun cdv A outer s H E hr =>
  (zb0 (zm0 (C := "Place") cl_Place na_broken rfl (QV.p (za2 1)) (ze4 0))
  (zb4 (zm0 (C := "Place") cl_Place na_margin rfl (QV.p (za2 2)) (ze4 0))))
noncomputable def zw3  : PSt -> Option (Fl × PSt) :=
  (zb8 (ze8 0 zb5 "Setter" "choices" (zb9 (za0 1)))
  (zb8 (ze8 0 zb5 "Setter" "used" (fC (.int 0)))
  (zb8 (ze8 0 zb5 "Setter" "column" (fC (.int 0)))
  (ze8 0 zb5 "Setter" "parts" (zs5 za3)))))
noncomputable abbrev zj4 : Stmt := zv8 (top 15) 0
theorem ys4 : FnScope ["self", "choices"] ["self", "choices"] (za4 zj4) := ⟨rfl, rfl, rfl, by decide +kernel, rfl, by decide +kernel, by decide +kernel⟩
theorem ys5 {n : Nat} {f : Addr} {fd : FuncData}  (K_Setter : Kn K mg κ "Setter" "Setter.__init__" zj4 ["self", "choices"] f fd)
    (cl_Setter : Cls K (κ "Setter"))
    (na_choices : zd6 K (κ "Setter") "choices")
    (na_used : zd6 K (κ "Setter") "used")
    (na_column : zd6 K (κ "Setter") "column")
    (na_parts : zd6 K (κ "Setter") "parts") :
    FnOk P w K mg base CX0 (n + 1) f fd ["self", "choices"] (SpE 2 K κ (zd3 [true, false]) (gE 2 0 (zd3 [true, false]) (zw3 ))) :=
  ya7 K_Setter.F ys4 (fun i hi => zv5 hi) fun cdv A outer s H E hr =>
  (zb0 (zm0 (C := "Setter") cl_Setter na_choices rfl (QV.p (za2 1)) (ze4 0))
  (zb0 (zm0 (C := "Setter") cl_Setter na_used rfl zb2 (ze4 0))
  (zb0 (zm0 (C := "Setter") cl_Setter na_column rfl zb2 (ze4 0))
  (zb4 (zm0 (C := "Setter") cl_Setter na_parts rfl (zz2 zh4) (ze4 0))))))
noncomputable def zn9  : PSt -> Option (Fl × PSt) :=
  (zb8 (fIf (za8 (fB (f2 dGe (zf1 "Setter" "used" (za0 0)) (za6 zg7 (za1 (zf1 "Setter" "choices" (za0 0)) za3)))))
   yd2
   zd0)
  (zb8 (zc8 2 (za5 (zb9 (f2 dIx (zf1 "Setter" "choices" (za0 0)) (zf1 "Setter" "used" (za0 0))))))
  (zb8 (fIf (za8 (zi9 (fB (f2 dLt (za0 2) (fC (.int 0)))) (fB (f2 dGe (za0 2) (za0 1)))))
   yd2
   zd0)
  (zb8 (ze8 0 zb5 "Setter" "used" (f2 zf0 (zf1 "Setter" "used" (za0 0)) (fC (.int 1))))
  (zo3 2)))))
noncomputable abbrev zf7 : Stmt := zv8 (top 15) 1
theorem zs7 : FnScope ["self", "count", "number"] ["self", "count"] (za4 zf7) := ⟨rfl, rfl, rfl, by decide +kernel, rfl, by decide +kernel, by decide +kernel⟩
theorem yb7 {n : Nat} {f : Addr} {fd : FuncData}  (M_Setter_choice_below : Mn K κ "Setter" "choice_below" "Setter.choice_below" zf7 ["self", "count"] f fd)
    (cl_Setter : Cls K (κ "Setter"))
    (na_used : zd6 K (κ "Setter") "used")
    (na_choices : zd6 K (κ "Setter") "choices")
    (z_len : mg "len" = none) :
    FnOk P w K mg base CX0 (n + 1) f fd ["self", "count"] (SpE 2 K κ (zd3 [true, false]) (gE 2 1 (zd3 [true, false]) (zn9 ))) :=
  ya7 M_Setter_choice_below.F zs7 (fun i hi => zv5 hi) fun cdv A outer s H E hr =>
  (zb0 (zi0 (QT.e (zg5 xi9 (zi3 (C := "Setter") cl_Setter na_used (za2 0)) (QP.v (zl3 zu5 rfl z_len boot_len (zb3 (zi3 (C := "Setter") cl_Setter na_choices (za2 0)) zd5))) (zf9 _)))
   (zb4 zv4)
   zf4)
  (zb0 (zh3 2 zs7.nd rfl (by first | exact Or.inl rfl | exact Or.inr rfl) rfl rfl (QP.e (QV.p (zg1 (zi3 (C := "Setter") cl_Setter na_choices (za2 0)) (zi3 (C := "Setter") cl_Setter na_used (za2 0))))))
  (zb0 (zi0 (QT.e (yl5 (yi4 (zg5 (yl6 (Room.units0 hr)) (za2 2) (QP.v zb2) (zf9 _)) (yg2 (zg5 xi9 (za2 2) (za2 1) (zf9 _))))))
   (zb4 zv4)
   zf4)
  (zb0 (zm0 (C := "Setter") cl_Setter na_used rfl (zg0 zt0 (zi3 (C := "Setter") cl_Setter na_used (za2 0)) (QP.v zb2)) (ze4 0))
  (zb4 (yi5 2 rfl))))))
noncomputable def zn2 (g_p_writing : (List D -> Option D)) (g_p_column_behind : (List D -> Option D)) : PSt -> Option (Fl × PSt) :=
  (zb8 (zc8 3 (za5 (za6 g_p_writing (za1 (za0 1) (za1 (za0 2) (za1 (zf1 "Setter" "column" (za0 0)) za3))))))
  (zb8 (fIf (za8 (fB (f2 dIs (za0 3) (fC .non))))
   yd2
   zd0)
  (zb8 (zc1 (zc9 0 (zl2 0 zb5 "Setter" "parts") (za1 (zb9 (za0 3)) za3) ze3))
  (ze8 0 zb5 "Setter" "column" (za6 g_p_column_behind (za1 (zf1 "Setter" "column" (za0 0)) (za1 (za0 3) za3)))))))
noncomputable abbrev zh7 : Stmt := zv8 (top 15) 2
theorem zv2 : FnScope ["self", "piece", "place", "wrote"] ["self", "piece", "place"] (za4 zh7) := ⟨rfl, rfl, rfl, by decide +kernel, rfl, by decide +kernel, by decide +kernel⟩
theorem yf7 {n : Nat} {f : Addr} {fd : FuncData} {g_p_writing : (List D -> Option D)} {f_p_writing : Addr} {fd_p_writing : FuncData} {g_p_column_behind : (List D -> Option D)} {f_p_column_behind : Addr} {fd_p_column_behind : FuncData} (M_Setter_set_plain : Mn K κ "Setter" "set_plain" "Setter.set_plain" zh7 ["self", "piece", "place"] f fd)
    (D_p_writing : Dn K mg "writing" zm8 ["piece", "place", "column"] f_p_writing fd_p_writing) (G_p_writing : FnOk P w K mg base CX0 n f_p_writing fd_p_writing ["piece", "place", "column"] (SpP 3 K κ g_p_writing))
    (D_p_column_behind : Dn K mg "column_behind" zh9 ["column", "wrote"] f_p_column_behind fd_p_column_behind) (G_p_column_behind : FnOk P w K mg base CX0 n f_p_column_behind fd_p_column_behind ["column", "wrote"] (SpP 2 K κ g_p_column_behind))
    (cl_Setter : Cls K (κ "Setter"))
    (na_column : zd6 K (κ "Setter") "column")
    (na_parts : zd6 K (κ "Setter") "parts") :
    FnOk P w K mg base CX0 (n + 1) f fd ["self", "piece", "place"] (SpE 3 K κ (zd3 [true, false, false]) (gE 3 1 (zd3 [true, false, false]) (zn2 g_p_writing g_p_column_behind))) :=
  ya7 M_Setter_set_plain.F zv2 (fun i hi => zv5 hi) fun cdv A outer s H E hr =>
  (zb0 (zh3 3 zv2.nd rfl (by first | exact Or.inl rfl | exact Or.inr rfl) rfl rfl (QP.e (zn5 D_p_writing G_p_writing hr rfl rfl (zb3 (za2 1) (zb3 (za2 2) (zb3 (zi3 (C := "Setter") cl_Setter na_column (za2 0)) zd5))) (ze0 (ze0 (ze0 zk2))))))
  (zb0 (zi0 (QT.e (zg5 xs4 (za2 3) (QP.v yo0) (zf9 _)))
   (zb4 zv4)
   zf4)
  (zb0 (zq3 (zx0 (j := 0) rfl (yg4 (C := "Setter") cl_Setter na_parts (ze4 0)) (zd9 (QV.p (za2 3)) zh4)))
  (zb4 (zm0 (C := "Setter") cl_Setter na_column rfl (zn5 D_p_column_behind G_p_column_behind hr rfl rfl (zb3 (zi3 (C := "Setter") cl_Setter na_column (za2 0)) (zb3 (za2 3) zd5)) (ze0 (ze0 zk2))) (ze4 0))))))
noncomputable def zl8 (g_p_ways : (List D -> Option D)) (g_p_takes_choice : (List D -> Option D)) (g_Setter_choice_below : (List D -> Option (D × List D))) (g_Setter_set_row : (List D -> Option (D × List D))) : PSt -> Option (Fl × PSt) :=
  (zb8 (zc8 3 (za5 (za6 g_p_ways (za1 (za0 1) (za1 (za0 2) za3)))))
  (zb8 (zc8 4 (za5 (fC (.int 0))))
  (zb8 (fIf (za8 (fT (za6 g_p_takes_choice (za1 (za0 1) (za1 (za0 2) za3)))))
   (zc8 4 (zc9 0 zb5 (zb6 [.im (za6 zg7 (za1 (za0 3) za3))]) (zj5 "Setter" "choice_below" g_Setter_choice_below)))
   zd0)
  (zb8 (zc8 5 (za5 (zb9 (f2 dIx (za0 3) (za0 4)))))
  (zc1 (zc9 0 zb5 (zb6 [.im (f2 dIx (za0 5) (fC (.int 0))), .im (f2 dIx (za0 5) (fC (.int 1)))]) (zj5 "Setter" "set_row" g_Setter_set_row)))))))
noncomputable abbrev zh1 : Stmt := zv8 (top 15) 3
theorem zj7 : FnScope ["self", "piece", "place", "found", "number", "way"] ["self", "piece", "place"] (za4 zh1) := ⟨rfl, rfl, rfl, by decide +kernel, rfl, by decide +kernel, by decide +kernel⟩
theorem yd8 {n : Nat} {f : Addr} {fd : FuncData} {g_p_ways : (List D -> Option D)} {f_p_ways : Addr} {fd_p_ways : FuncData} {g_p_takes_choice : (List D -> Option D)} {f_p_takes_choice : Addr} {fd_p_takes_choice : FuncData} {g_Setter_choice_below : (List D -> Option (D × List D))} {f_Setter_choice_below : Addr} {fd_Setter_choice_below : FuncData} {g_Setter_set_row : (List D -> Option (D × List D))} {f_Setter_set_row : Addr} {fd_Setter_set_row : FuncData} (M_Setter_set_holder : Mn K κ "Setter" "set_holder" "Setter.set_holder" zh1 ["self", "piece", "place"] f fd)
    (D_p_ways : Dn K mg "ways" zp3 ["piece", "place"] f_p_ways fd_p_ways) (G_p_ways : FnOk P w K mg base CX0 n f_p_ways fd_p_ways ["piece", "place"] (SpP 2 K κ g_p_ways))
    (D_p_takes_choice : Dn K mg "takes_choice" zi4 ["piece", "place"] f_p_takes_choice fd_p_takes_choice) (G_p_takes_choice : FnOk P w K mg base CX0 n f_p_takes_choice fd_p_takes_choice ["piece", "place"] (SpP 2 K κ g_p_takes_choice))
    (M_Setter_choice_below : Mn K κ "Setter" "choice_below" "Setter.choice_below" zf7 ["self", "count"] f_Setter_choice_below fd_Setter_choice_below) (G_Setter_choice_below : FnOk P w K mg base CX0 n f_Setter_choice_below fd_Setter_choice_below ["self", "count"] (SpE 2 K κ (zd3 [true, false]) g_Setter_choice_below))
    (M_Setter_set_row : Mn K κ "Setter" "set_row" "Setter.set_row" zg3 ["self", "row", "place"] f_Setter_set_row fd_Setter_set_row) (G_Setter_set_row : FnOk P w K mg base CX0 n f_Setter_set_row fd_Setter_set_row ["self", "row", "place"] (SpE 3 K κ (zd3 [true, false, false]) g_Setter_set_row))
    (z_len : mg "len" = none) :
    FnOk P w K mg base CX0 (n + 1) f fd ["self", "piece", "place"] (SpE 3 K κ (zd3 [true, false, false]) (gE 3 3 (zd3 [true, false, false]) (zl8 g_p_ways g_p_takes_choice g_Setter_choice_below g_Setter_set_row))) :=
  ya7 M_Setter_set_holder.F zj7 (fun i hi => zv5 hi) fun cdv A outer s H E hr =>
  (zb0 (zh3 3 zj7.nd rfl (by first | exact Or.inl rfl | exact Or.inr rfl) rfl rfl (QP.e (zn5 D_p_ways G_p_ways hr rfl rfl (zb3 (za2 1) (zb3 (za2 2) zd5)) (ze0 (ze0 zk2)))))
  (zb0 (zh3 4 zj7.nd rfl (by first | exact Or.inl rfl | exact Or.inr rfl) rfl rfl (QP.e zb2))
  (zb0 (zi0 (QT.e (zs6 (QP.v (zn5 D_p_takes_choice G_p_takes_choice hr rfl rfl (zb3 (za2 1) (zb3 (za2 2) zd5)) (ze0 (ze0 zk2))))))
   (zb4 (zh3 4 zj7.nd rfl (by first | exact Or.inl rfl | exact Or.inr rfl) rfl rfl (zt8 M_Setter_choice_below G_Setter_choice_below hr rfl (ze4 0) (zi7 (QP.v (zl3 zu5 rfl z_len boot_len (zb3 (za2 3) zd5))) zm1) rfl rfl (zj6 1))))
   zf4)
  (zb0 (zh3 5 zj7.nd rfl (by first | exact Or.inl rfl | exact Or.inr rfl) rfl rfl (QP.e (QV.p (zg1 (za2 3) (za2 4)))))
  (zb4 (zq3 (zt8 M_Setter_set_row G_Setter_set_row hr rfl (ze4 0) (zi7 (zg1 (za2 5) (QP.v zb2)) (zi7 (zg1 (za2 5) (QP.v zb2)) zm1)) rfl rfl (zj6 2))))))))
noncomputable def zo5 (g_p_holds_rows : (List D -> Option D)) (g_Setter_set_holder : (List D -> Option (D × List D))) (g_Setter_set_plain : (List D -> Option (D × List D))) : PSt -> Option (Fl × PSt) :=
  (zw0 3 (zp5 (za0 1))
   (fIf (za8 (fT (za6 g_p_holds_rows (za1 (za0 3) za3))))
   (zc1 (zc9 0 zb5 (zb6 [.im (za0 3), .im (za0 2)]) (zj5 "Setter" "set_holder" g_Setter_set_holder)))
   (zc1 (zc9 0 zb5 (zb6 [.im (za0 3), .im (za0 2)]) (zj5 "Setter" "set_plain" g_Setter_set_plain)))))
noncomputable abbrev zg3 : Stmt := zv8 (top 15) 4
theorem zy0 : FnScope ["self", "row", "place", "piece"] ["self", "row", "place"] (za4 zg3) := ⟨rfl, rfl, rfl, by decide +kernel, rfl, by decide +kernel, by decide +kernel⟩
theorem yk8 {n : Nat} {f : Addr} {fd : FuncData} {g_p_holds_rows : (List D -> Option D)} {f_p_holds_rows : Addr} {fd_p_holds_rows : FuncData} {g_Setter_set_holder : (List D -> Option (D × List D))} {f_Setter_set_holder : Addr} {fd_Setter_set_holder : FuncData} {g_Setter_set_plain : (List D -> Option (D × List D))} {f_Setter_set_plain : Addr} {fd_Setter_set_plain : FuncData} (M_Setter_set_row : Mn K κ "Setter" "set_row" "Setter.set_row" zg3 ["self", "row", "place"] f fd)
    (D_p_holds_rows : Dn K mg "holds_rows" zk1 ["piece"] f_p_holds_rows fd_p_holds_rows) (G_p_holds_rows : FnOk P w K mg base CX0 n f_p_holds_rows fd_p_holds_rows ["piece"] (SpP 1 K κ g_p_holds_rows))
    (M_Setter_set_holder : Mn K κ "Setter" "set_holder" "Setter.set_holder" zh1 ["self", "piece", "place"] f_Setter_set_holder fd_Setter_set_holder) (G_Setter_set_holder : FnOk P w K mg base CX0 n f_Setter_set_holder fd_Setter_set_holder ["self", "piece", "place"] (SpE 3 K κ (zd3 [true, false, false]) g_Setter_set_holder))
    (M_Setter_set_plain : Mn K κ "Setter" "set_plain" "Setter.set_plain" zh7 ["self", "piece", "place"] f_Setter_set_plain fd_Setter_set_plain) (G_Setter_set_plain : FnOk P w K mg base CX0 n f_Setter_set_plain fd_Setter_set_plain ["self", "piece", "place"] (SpE 3 K κ (zd3 [true, false, false]) g_Setter_set_plain)) :
    FnOk P w K mg base CX0 (n + 1) f fd ["self", "row", "place"] (SpE 3 K κ (zd3 [true, false, false]) (gE 3 1 (zd3 [true, false, false]) (zo5 g_p_holds_rows g_Setter_set_holder g_Setter_set_plain))) :=
  ya7 M_Setter_set_row.F zy0 (fun i hi => zv5 hi) fun cdv A outer s H E hr =>
  (zb4 (yi6 3 1 PassesOwn.never rfl zy0.nd rfl (by first | exact Or.inl rfl | exact Or.inr rfl) rfl rfl rfl
   (zb4 (zi0 (QT.e (zs6 (QP.v (zn5 D_p_holds_rows G_p_holds_rows hr rfl rfl (zb3 (za2 3) zd5) (ze0 zk2)))))
   (zb4 (zq3 (zt8 M_Setter_set_holder G_Setter_set_holder hr rfl (ze4 0) (zi7 (za2 3) (zi7 (za2 2) zm1)) rfl rfl (zj6 2))))
   (zb4 (zq3 (zt8 M_Setter_set_plain G_Setter_set_plain hr rfl (ze4 0) (zi7 (za2 3) (zi7 (za2 2) zm1)) rfl rfl (zj6 2))))))))
noncomputable def zp8  : PSt -> Option (Fl × PSt) :=
  (zb8 (fIf (za8 (fB (f2 dLt (zf1 "Setter" "used" (za0 0)) (za6 zg7 (za1 (zf1 "Setter" "choices" (za0 0)) za3)))))
   yd2
   zd0)
  (ze6 (za5 (fMt zw6 (fC (.str "")) (za1 (zf1 "Setter" "parts" (za0 0)) za3)))))
noncomputable abbrev ze9 : Stmt := zv8 (top 15) 5
theorem zu6 : FnScope ["self"] ["self"] (za4 ze9) := ⟨rfl, rfl, rfl, by decide +kernel, rfl, by decide +kernel, by decide +kernel⟩
theorem yd9 {n : Nat} {f : Addr} {fd : FuncData}  (M_Setter_whole_text : Mn K κ "Setter" "whole_text" "Setter.whole_text" ze9 ["self"] f fd)
    (cl_Setter : Cls K (κ "Setter"))
    (na_used : zd6 K (κ "Setter") "used")
    (na_parts : zd6 K (κ "Setter") "parts")
    (na_choices : zd6 K (κ "Setter") "choices")
    (z_len : mg "len" = none) :
    FnOk P w K mg base CX0 (n + 1) f fd ["self"] (SpP 1 K κ (gP 1 0 (zp8 ))) :=
  zj3 M_Setter_whole_text.F zu6 fun cdv A outer s H E B hr =>
  (zb0 (zi0 (QT.e (zg5 (yl6 (Room.units0 hr)) (zi3 (C := "Setter") cl_Setter na_used (za2 0)) (QP.v (zl3 zu5 rfl z_len boot_len (zb3 (zi3 (C := "Setter") cl_Setter na_choices (za2 0)) zd5))) (zf9 _)))
   (zb4 zv4)
   zf4)
  (zb4 (zf5 (QP.e (yo4 PySem.F.slot_str_join PySem.F.type_str_join yo5 (QP.v ze7) (zb3 (zi3 (C := "Setter") cl_Setter na_parts (za2 0)) zd5))))))
noncomputable def zu1  : PSt -> Bool :=
  (yu0 (fB (f2 dLt (zf1 "Setter" "used" (za0 0)) (za6 zg7 (za1 (zf1 "Setter" "choices" (za0 0)) za3)))) yx5)
theorem yc7 {n : Nat} {f : Addr} {fd : FuncData} {C_NoChoice : Addr} (M_Setter_whole_text : Mn K κ "Setter" "whole_text" "Setter.whole_text" ze9 ["self"] f fd)
    (O_NoChoice : OwnCls "NoChoice" C_NoChoice bmV "ValueError.__new__" mg base)
    (cl_Setter : Cls K (κ "Setter"))
    (na_used : zd6 K (κ "Setter") "used")
    (na_parts : zd6 K (κ "Setter") "parts")
    (na_choices : zd6 K (κ "Setter") "choices")
    (z_len : mg "len" = none) :
    FnOk P w K mg base (CXn P w base C_NoChoice) (n + 1) f fd ["self"] (yb9 1 K κ C_NoChoice (gX 1 0 (zu1 ))) :=
  ya8 M_Setter_whole_text.F zu6 fun cdv A outer s H E B hr =>
  (yc6 (xj4 (zg5 (yl6 (Room.units0 hr)) (zi3 (C := "Setter") cl_Setter na_used (za2 0)) (QP.v (zl3 zu5 rfl z_len boot_len (zb3 (zi3 (C := "Setter") cl_Setter na_choices (za2 0)) zd5))) (zf9 _)) (yc6 (ym2 O_NoChoice PySem.F.excBase_ValueError rfl))))
end L3
namespace My
open PySem PySem.Spec PyProof.Rows L2 L3
noncomputable def zh2 : Leaf -> D
  | .word x => .tup [.str "word", .str x]
  | .gap x => .tup [.str "gap", .str x]
  | .stop c => .tup [.str "stop", .int c]
  | .fin => .tup [.str "end"]
mutual
noncomputable def pcD : Pc -> D
  | .leaf l => zh2 l
  | .group r => .tup [.str "group", .tup (zc6 r)]
  | .hang n r => .tup [.str "hang", .int n, .tup (zc6 r)]
  | .either rs => .tup [.str "either", .tup (zr0 rs)]
noncomputable def zc6 : List Pc -> List D
  | [] => []
  | p :: r => pcD p :: zc6 r
noncomputable def zr0 : List (List Pc) -> List D
  | [] => []
  | r :: rs => .tup (zc6 r) :: zr0 rs
end
theorem xa7 (l : Leaf) : (zh2 l).imm = true := by cases l <;> rfl
mutual
theorem xo9 : ∀ p : Pc, (pcD p).imm = true
  | .leaf l => xa7 l
  | .group r => by show (D.imm (.str "group") && (D.imm (.tup (zc6 r)) && D.imms [])) = true; rw [show D.imm (.tup (zc6 r)) = D.imms (zc6 r) from rfl, zm2 r]; rfl
  | .hang n r => by show (D.imm (.str "hang") && (D.imm (.int n) && (D.imm (.tup (zc6 r)) && D.imms []))) = true; rw [show D.imm (.tup (zc6 r)) = D.imms (zc6 r) from rfl, zm2 r]; rfl
  | .either rs => by show (D.imm (.str "either") && (D.imm (.tup (zr0 rs)) && D.imms [])) = true; rw [show D.imm (.tup (zr0 rs)) = D.imms (zr0 rs) from rfl, xa8 rs]; rfl
theorem zm2 : ∀ r : List Pc, D.imms (zc6 r) = true
  | [] => rfl
  | p :: r => by show (D.imm (pcD p) && D.imms (zc6 r)) = true; rw [xo9 p, zm2 r]; rfl
theorem xa8 : ∀ rs : List (List Pc), D.imms (zr0 rs) = true
  | [] => rfl
  | r :: rs => by show (D.imm (.tup (zc6 r)) && D.imms (zr0 rs)) = true; rw [show D.imm (.tup (zc6 r)) = D.imms (zc6 r) from rfl, zm2 r, xa8 rs]; rfl
end
theorem yv7 : ∀ a : List (List Pc), (zr0 a).length = a.length
  | [] => rfl
  | p :: a => by show (zr0 a).length + 1 = a.length + 1; rw [yv7 a]
theorem xg2 {α β : Type} (f : α -> β) (hf : ∀ a b, f a = f b -> a = b) : ∀ {l m : List α}, l.map f = m.map f -> l = m
  | [], [], _ => rfl
  | [], _ :: _, h => by simp at h
  | _ :: _, [], h => by simp at h
  | a :: l, b :: m, h => by
    simp only [List.map_cons, List.cons.injEq] at h
    rw [hf a b h.1, xg2 f hf h.2]
theorem ze1 (a b : String) : (Str.ofString a = Str.ofString b) = (a = b) := by
  refine propext ⟨fun h => ?_, fun h => by rw [h]⟩
  rw [Str.ofString_eq_toList, Str.ofString_eq_toList] at h
  have h1 : (a.toList.map Char.toNat).toArray = (b.toList.map Char.toNat).toArray := (Str.mk.inj h)
  have h2 : a.toList.map Char.toNat = b.toList.map Char.toNat := by simpa using congrArg Array.toList h1
  have h3 : a.toList = b.toList := xg2 _ (fun x y e => by
    have : Char.ofNat x.toNat = Char.ofNat y.toNat := by rw [e]
    simpa using this) h2
  exact String.toList_inj.mp h3
theorem zn7 {α : Type} (a : α) (l : List α) : atI (a :: l) 0 = some a := by simp [atI, ixN]
theorem zj8 {α : Type} (a b : α) (l : List α) : atI (a :: b :: l) 1 = some b := by
  have h : ixN (a :: b :: l).length 1 = some 1 := by unfold ixN; rw [if_pos (by decide), if_pos (by simp only [List.length_cons]; omega)]; rfl
  simp only [atI, h]; rfl
theorem ys6 {α : Type} (a b c : α) (l : List α) : atI (a :: b :: c :: l) 2 = some c := by
  have h : ixN (a :: b :: c :: l).length 2 = some 2 := by unfold ixN; rw [if_pos (by decide), if_pos (by simp only [List.length_cons]; omega)]; rfl
  simp only [atI, h]; rfl
theorem sz {n : Nat} (h : n <= 1000) : n <= sizeLine := yx1 h
theorem sz1 {n : Nat} (h : n <= 1000) : n < sizeLine := yg0 h
theorem xe1 {rs : List (List Pc)} {r : List Pc} (h : r ∈ rs) : (zf2 r).length <= (zj1 rs).length := by
  induction rs with
  | nil => simp at h
  | cons q rs ih =>
    show _ <= (Tk.orr :: (zf2 q ++ zj1 rs)).length
    rw [List.length_cons, List.length_append]
    rcases List.mem_cons.mp h with e | e
    . subst e; omega
    . have := ih e; omega
theorem xe2 {rs : List (List Pc)} {r : List Pc} (h : r ∈ rs) : (zf2 r).length <= (yn0 rs).length := by
  cases rs with
  | nil => simp at h
  | cons q rs =>
    show _ <= (zf2 q ++ zj1 rs).length
    rw [List.length_append]
    rcases List.mem_cons.mp h with e | e
    . subst e; omega
    . have := xe1 e; omega
end My
namespace My
open PySem PySem.Spec PyProof.Rows L2 L3
theorem xa9 (n : Nat) : ixN (n + 1) (-1) = some n := by
  unfold ixN
  rw [if_neg (by decide), if_pos (by omega)]
  congr 1
  omega
theorem xt3 {α : Type} (l : List α) (a b : α) : (l ++ [a]).set l.length b = l ++ [b] := by
  induction l with
  | nil => rfl
  | cons x l ih => show x :: (l ++ [a]).set l.length b = _; rw [ih]; rfl
theorem zs0 (i j : Int) : zl4 (.int i) (.int j) = if 0 < j then some (.int (i % j)) else none := by simp [zl4, dII]
theorem zy9 (i j : Int) : zo9 (.int i) (.int j) = if 0 < j /\ j < 1073741824 then some (.int (i / j)) else none := by simp [zo9, dII]
theorem zc7 (x y : Str) : (x ++ y).cps.toList = x.cps.toList ++ y.cps.toList := by
  show (x.cps ++ y.cps).toList = _
  simp
theorem zg4 (x y : Str) : (x ++ y).length = x.length + y.length := by
  show (x.cps ++ y.cps).size = x.cps.size + y.cps.size
  simp
theorem xy7 {α : Type} (xs : List α) (i : Int) (h0 : 0 <= i) (h1 : i < xs.length) : ∃ v ∈ xs, atI xs i = some v := by
  have hn : i.toNat < xs.length := by omega
  obtain ⟨v, hv⟩ : ∃ v, xs[i.toNat]? = some v := ⟨_, List.getElem?_eq_getElem hn⟩
  refine ⟨v, List.mem_of_getElem? hv, ?_⟩
  have e : i = ((i.toNat : Nat) : Int) := by omega
  rw [e]
  exact yr4 hv
theorem wd4 (n : Nat) : zo4 0 n = ((List.range n).map fun (k : Nat) => (k : Int)).map .int := by
  unfold zo4
  rw [List.map_map]
  refine List.map_congr_left fun k _ => ?_
  show D.int (0 + (k : Int)) = D.int (k : Int)
  rw [Int.zero_add]
theorem xy8 {j : Int} (h3 : -1000000 <= j) (h4 : j <= 1000000) : yq6 [.int j] = some (zo4 0 j.toNat) := by
  rw [yq6]
  exact if_pos ⟨by omega, by omega⟩
theorem za9 {f g : PSt -> Option (Fl × PSt)} {p p' : PSt} (h : f p = some (.nx, p')) : zb8 f g p = g p' := by unfold zb8; rw [h]; rfl
theorem zj9 {f g : PSt -> Option (Fl × PSt)} {p p' : PSt} {d : D} (h : f p = some (.ret d, p')) : zb8 f g p = some (.ret d, p') := by unfold zb8; rw [h]; rfl
theorem xj7 {c : PSt -> Option (Bool × PSt)} {f g : PSt -> Option (Fl × PSt)} {p p' : PSt} (h : c p = some (true, p')) : fIf c f g p = f p' := by unfold fIf; rw [h]; rfl
theorem xj8 {c : PSt -> Option (Bool × PSt)} {f g : PSt -> Option (Fl × PSt)} {p p' : PSt} (h : c p = some (false, p')) : fIf c f g p = g p' := by unfold fIf; rw [h]; rfl
theorem zi1 {i : Nat} {f : PSt -> Option D} {p : PSt} {d : D} (h : f p = some d) : zc8 i (za5 f) p = some (.nx, p.set i (some d)) := by unfold zc8 za5; rw [h]; rfl
theorem zg8 {f : PSt -> Option D} {p : PSt} {d : D} (h : f p = some d) : ze6 (za5 f) p = some (.ret d, p) := by unfold ze6 za5; rw [h]; rfl
theorem zq0 {np n : Nat} {f : PSt -> Option (Fl × PSt)} {ds : List D} {d : D} {p : PSt} (hl : ds.length = np) (h : f (ds.map some ++ List.replicate n none) = some (.ret d, p)) : gP np n f ds = some d := by
  unfold gP; rw [if_pos hl, h]; rfl
theorem zc5 {g : D -> D -> Option D} {fa fb : PSt -> Option D} {p : PSt} {x y d : D} (h1 : fa p = some x) (h2 : fb p = some y) (h3 : g x y = some d) : f2 g fa fb p = some d := by unfold f2; rw [h1, h2]; exact h3
theorem zg6 {h : List D -> Option D} {g : PSt -> Option (List D)} {p : PSt} {ds : List D} {d : D} (h1 : g p = some ds) (h2 : h ds = some d) : za6 h g p = some d := by unfold za6; rw [h1]; exact h2
theorem zb7 {f : PSt -> Option D} {g : PSt -> Option (List D)} {p : PSt} {d : D} {ds : List D} (h1 : f p = some d) (h2 : g p = some ds) : za1 f g p = some (d :: ds) := by unfold za1; rw [h1, h2]; rfl
noncomputable def zc4 (ws : List Str) : List D := ws.map .str
theorem yv8 (a b : List Str) : zc4 (a ++ b) = zc4 a ++ zc4 b := by simp [zc4]
theorem ya9 (a : List Str) : (zc4 a).length = a.length := by simp [zc4]
theorem ys7 {g : PSt -> Option (List D)} {p : PSt} {ds : List D} (h : g p = some ds) (hl : ds.length <= 1000) : zs5 g p = some (.lst true ds) := by unfold zs5; rw [h]; exact if_pos hl
theorem ys8 (a : Int) (b c : Nat) (hc : 0 < c) : ∃ n : Nat, (b : Int) + a % (c : Int) = (n : Int) /\ n < b + c := by
  have h1 := Int.emod_nonneg a (show (c : Int) ≠ 0 by omega)
  have h2 := Int.emod_lt_of_pos a (show (0 : Int) < c by omega)
  exact ⟨(b + a % c).toNat, by omega, by omega⟩
theorem xj9 (k : Nat) (n : Nat) : zo4 (k : Int) (n + 1) = .int k :: zo4 ((k + 1 : Nat) : Int) n := by
  unfold zo4
  rw [List.range_succ_eq_map, List.map_cons, List.map_map]
  congr 1
  . simp
    intro j _
    omega
theorem wd5 {n : Nat} (h : n <= 1000) : yq6 [.int (n : Int)] = some (zo4 ((0 : Nat) : Int) n) := xy8 (j := (n : Int)) (by omega) (by omega)
theorem ys9 {g : PSt -> Option (List D)} {p : PSt} {ds : List D} (h : g p = some ds) (hi : D.imms ds = true) (hl : ds.length <= 1000) : zj0 g p = some (.tup ds) := by
  unfold zj0
  rw [h]
  exact if_pos (by rw [hi]; simpa using hl)
end My
namespace My
open PySem PySem.Spec PyProof.Rows L2 L3
theorem yt0 {i : Nat} {p : PSt} {d : D} (h : p[i]? = some (some d)) : za0 i p = some d := by unfold za0; rw [h]; rfl
theorem ye0 {f : PSt -> Option Bool} {p : PSt} {b : Bool} (h : f p = some b) : za8 f p = some (b, p) := by unfold za8; rw [h]; rfl
theorem zt1 {f : PSt -> Option D} {p : PSt} {b : Bool} (h : f p = some (.bl b)) : fB f p = some b := by unfold fB; rw [h]; rfl
theorem yx3 {f : PSt -> Option D} {p : PSt} {b : Bool} (h : f p = some (.bl b)) : fT f p = some b := by unfold fT; rw [h]; rfl
theorem yp7 {f g : PSt -> Option Bool} {p : PSt} (h : f p = some false) : zq7 f g p = some false := by unfold zq7; rw [h]; rfl
theorem yp8 {f g : PSt -> Option Bool} {p : PSt} {b : Bool} (h : f p = some true) (h2 : g p = some b) : zq7 f g p = some b := by unfold zq7; rw [h]; exact h2
theorem wg7 {f g : PSt -> Option Bool} {p : PSt} (h : f p = some true) : zi9 f g p = some true := by unfold zi9; rw [h]; rfl
theorem yp9 {f g : PSt -> Option Bool} {p : PSt} {b : Bool} (h : f p = some false) (h2 : g p = some b) : zi9 f g p = some b := by unfold zi9; rw [h]; exact h2
theorem zs1 {f : PSt -> Option Bool} {p : PSt} {b : Bool} (h : f p = some b) : zo2 f p = some (!b) := by unfold zo2; rw [h]; rfl
theorem zc3 {c : PSt -> Option Bool} {F : PSt -> Option (Fl × PSt)} {p : PSt} (h : c p = some false) : fIf (za8 c) F zd0 p = some (.nx, p) := (xj8 (ye0 h)).trans rfl
theorem zh6 {c : PSt -> Option Bool} {F G : PSt -> Option (Fl × PSt)} {p : PSt} (h : c p = some true) : fIf (za8 c) F G p = F p := xj7 (ye0 h)
noncomputable def kdT (i : Nat) (w : String) : PSt -> Option Bool := fB (f2 dEq (f2 dIx (za0 i) (fC (.int 0))) (fC (.str w)))
theorem zm3 {i : Nat} {p : PSt} {k w : String} {ds : List D} {b : Bool} (hp : p[i]? = some (some (.tup (.str k :: ds)))) (h : decide (k = w) = b) : kdT i w p = some b := by
  refine zt1 (zc5 (zc5 (yt0 hp) rfl (zn7 _ _)) rfl ?_)
  show some (D.bl (decide ((k : Str) = (w : Str)))) = _
  rw [<- h]
  congr 2
  exact decide_eq_decide.mpr (by rw [ze1])
theorem xb0 {f : PSt -> Option (D × PSt)} {p p' : PSt} {d : D} (h : f p = some (d, p')) : zc1 f p = some (.nx, p') := by unfold zc1; rw [h]; rfl
theorem zo8 {f : PSt -> Option D} {p : PSt} {d : D} (h : f p = some d) (hi : d.imm = true) : zb9 f p = some d := by unfold zb9; rw [h]; exact if_pos hi
theorem ym6 {p : PSt} : zb6 [] p = some [] := rfl
theorem yc8 {f : PSt -> Option D} {as : List L2.Arg} {p : PSt} {d : D} {ds : List D} (h : f p = some d) (hi : d.imm = true) (h2 : zb6 as p = some ds) : zb6 (.im f :: as) p = some (d :: ds) := by
  show (zb9 f p).bind _ = _
  rw [zo8 h hi, Option.bind_some, h2]; rfl
theorem wg8 (t : Str) : ym8 [.str t, .ty "str"] = some (.bl true) := by
  unfold ym8
  show (if "str" ∈ ["bool", "int", "str", "list", "tuple", "dict"] then some (D.bl (yq5 "str" "str")) else none) = _
  rw [if_pos (by simp)]
  rfl
end My
namespace My
open PySem PySem.Spec PyProof.Rows L2 L3
section
variable {c : Nat}
theorem zm4 (x y : Str) (r : List Str) : (Str.join ⟨#[c]⟩ (x :: y :: r)).cps.toList = x.cps.toList ++ c :: (Str.join ⟨#[c]⟩ (y :: r)).cps.toList := by
  show ((x ++ ⟨#[c]⟩) ++ Str.join ⟨#[c]⟩ (y :: r)).cps.toList = _
  rw [zc7, zc7]
  show (x.cps.toList ++ [c]) ++ _ = _
  simp
end
end My
namespace My
open PySem PySem.Spec PyProof.Rows L2 L3
structure Gm where
  kd : Nat
  n : Int
  full : List (List Pc)
  parts : List Pc
noncomputable def wl1 (g : Gm) (p : Pc) : Gm := { g with parts := g.parts ++ [p] }
mutual
noncomputable def okP : Pc -> Prop
  | .leaf l => zp1 l
  | .group r => okR r
  | .hang n r => (0 <= n /\ n <= 12) /\ okR r
  | .either rs => (2 <= rs.length /\ rs.length <= 4) /\ zt6 rs
noncomputable def okR : List Pc -> Prop
  | [] => True
  | p :: r => okP p /\ okR r
noncomputable def zt6 : List (List Pc) -> Prop
  | [] => True
  | r :: rs => okR r /\ zt6 rs
end
theorem xg3 : ∀ a b : List Pc, okR (a ++ b) ↔ okR a /\ okR b
  | [], b => by simp [okR]
  | p :: a, b => by rw [List.cons_append, okR, okR, xg3 a b, and_assoc]
theorem xb1 : ∀ a b : List (List Pc), zt6 (a ++ b) ↔ zt6 a /\ zt6 b
  | [], b => by simp [zt6]
  | p :: a, b => by rw [List.cons_append, zt6, zt6, xb1 a b, and_assoc]
theorem xy9 (p : Pc) : okR [p] ↔ okP p := by simp [okR]
theorem xt4 (r : List Pc) : zt6 [r] ↔ okR r := by simp [zt6]
theorem yh2 : ∀ a b : List (List Pc), zj1 (a ++ b) = zj1 a ++ zj1 b
  | [], b => rfl
  | r :: a, b => by
    show Tk.orr :: (zf2 r ++ zj1 (a ++ b)) = (Tk.orr :: (zf2 r ++ zj1 a)) ++ zj1 b
    rw [yh2 a b]; simp
noncomputable def wF (f : Gm) : Nat := (zj1 f.full).length + (zf2 f.parts).length + 4
noncomputable def wG : List Gm -> Nat
  | [] => 0
  | f :: fs => wF f + wG fs
noncomputable def wl2 (f : Gm) : Prop := zt6 f.full /\ okR f.parts /\ f.full.length <= 3 /\ (f.kd ≠ 3 -> f.full = []) /\ 0 <= f.n /\ f.n <= 12
noncomputable def xq4 : List Gm -> Prop
  | [] => False
  | [f] => f.kd = 0
  | f :: g :: fs => (1 <= f.kd /\ f.kd <= 3) /\ xq4 (g :: fs)
noncomputable def xw4 (m : Nat) : List Gm -> Prop
  | [] => True
  | f :: fs => zj2 f.parts + fs.length <= m /\ zu8 f.full + fs.length <= m /\ xw4 m fs
structure GInv (nest k : Nat) (fs : List Gm) : Prop where
  len : fs.length <= nest + 1
  wt : wG fs <= 4 * k + 4
  each : ∀ f ∈ fs, wl2 f
  kinds : xq4 fs
  deep : xw4 nest fs
theorem GInv.leaf {nest k : Nat} {f : Gm} {fs : List Gm} {l : Leaf} (h : GInv nest k (f :: fs)) (hl : zp1 l) : GInv nest (k + 1) (wl1 f (.leaf l) :: fs) := by
  obtain ⟨h1, h2, h3, h4, h5⟩ := h
  have hf := h3 f List.mem_cons_self
  refine ⟨h1, ?_, ?_, ?_, ?_⟩
  . have h2' : wF f + wG fs <= 4 * k + 4 := h2
    show (zj1 f.full).length + (zf2 (f.parts ++ [.leaf l])).length + 4 + wG fs <= _
    rw [yg7, List.length_append]
    unfold wF at h2'
    show _ + (_ + 1) + 4 + _ <= _
    omega
  . intro x hx
    rcases List.mem_cons.mp hx with rfl | hx
    . obtain ⟨a1, a2, a3, a4, a5⟩ := hf
      exact ⟨a1, (xg3 _ _).mpr ⟨a2, (xy9 _).mpr hl⟩, a3, a4, a5⟩
    . exact h3 x (List.mem_cons_of_mem _ hx)
  . cases fs with
    | nil => exact h4
    | cons g fs => exact ⟨h4.1, h4.2⟩
  . refine ⟨?_, h5.2.1, h5.2.2⟩
    show zj2 (f.parts ++ [.leaf l]) + fs.length <= nest
    rw [yv6]
    have := h5.1
    show max _ 0 + _ <= _
    omega
theorem GInv.orr {nest k : Nat} {f : Gm} {fs : List Gm} (h : GInv nest k (f :: fs)) (hf3 : f.full.length < 3) (hk : f.kd = 3) : GInv nest (k + 1) ({ f with full := f.full ++ [f.parts], parts := [] } :: fs) := by
  obtain ⟨h1, h2, h3, h4, h5⟩ := h
  have hf := h3 f List.mem_cons_self
  refine ⟨h1, ?_, ?_, ?_, ?_⟩
  . have h2' : wF f + wG fs <= 4 * k + 4 := h2
    show (zj1 (f.full ++ [f.parts])).length + 0 + 4 + wG fs <= _
    rw [yh2, List.length_append]
    unfold wF at h2'
    simp [zj1]; omega
  . intro x hx
    rcases List.mem_cons.mp hx with rfl | hx
    . obtain ⟨a1, a2, a3, a4, a5⟩ := hf
      exact ⟨(xb1 _ _).mpr ⟨a1, (xt4 _).mpr a2⟩, trivial, by show (f.full ++ [f.parts]).length <= 3; rw [List.length_append]; simp; omega, fun z => absurd hk z, a5⟩
    . exact h3 x (List.mem_cons_of_mem _ hx)
  . cases fs with
    | nil => exact h4
    | cons g fs => exact ⟨h4.1, h4.2⟩
  . refine ⟨?_, ?_, h5.2.2⟩
    . show 0 + _ <= _
      have := h5.1; omega
    . show zu8 (f.full ++ [f.parts]) + fs.length <= nest
      rw [yp3]
      have a1 := h5.1; have a2 := h5.2.1
      omega
theorem GInv.more {nest k k' : Nat} {fs : List Gm} (h : GInv nest k fs) (hk : k <= k') : GInv nest k' fs := ⟨h.len, by have := h.wt; omega, h.each, h.kinds, h.deep⟩
theorem xp0 : ∀ {fs : List Gm} {f : Gm}, f ∈ fs -> wF f <= wG fs
  | [], _, h => by simp at h
  | g :: fs, f, h => by
    show wF f <= wF g + wG fs
    rcases List.mem_cons.mp h with rfl | h
    . omega
    . have := xp0 h; omega
theorem xk0 (p : Pc) : 1 <= (zn6 p).length := by cases p <;> simp [zn6]
theorem yq0 : ∀ r : List Pc, r.length <= (zf2 r).length
  | [] => Nat.le_refl _
  | p :: r => by
    show r.length + 1 <= (zn6 p ++ zf2 r).length
    rw [List.length_append]
    have := yq0 r; have := xk0 p; omega
theorem GInv.parts {nest k : Nat} {fs : List Gm} {f : Gm} (h : GInv nest k fs) (hf : f ∈ fs) : f.parts.length <= 4 * k + 4 := by
  have h1 := xp0 hf; have h2 := h.wt; have h3 := yq0 f.parts
  unfold wF at h1; omega
end My
namespace My
open PySem PySem.Spec PyProof.Rows L2 L3
theorem xk1 : ("\n" : Str) = ⟨#[10]⟩ := by decide +kernel
theorem xk2 : (" " : Str) = ⟨#[32]⟩ := by decide +kernel
theorem xb2 : ("" : Str) = ⟨#[]⟩ := by decide +kernel
theorem zm5 {x y : Str} (h : x.cps.toList = y.cps.toList) : x = y := by
  cases x; cases y
  simp only at h
  rw [Array.toList_inj.mp h]
theorem zr3 (x : Str) : x.length = x.cps.toList.length := by simp [Str.length]
theorem yv9 : ∀ (n : Nat) (a b : Array Nat), ((List.replicate n a).foldl (· ++ ·) b).toList = b.toList ++ (List.replicate n a.toList).flatten
  | 0, a, b => by simp
  | n + 1, a, b => by
    rw [List.replicate_succ, List.foldl_cons, yv9 n a (b ++ a), List.replicate_succ, List.flatten_cons]
    simp
theorem zz6 (n : Int) : (Txt.mul " " n).cps.toList = List.replicate n.toNat 32 := by
  rw [xk2]
  unfold Txt.mul
  by_cases h : n < 1
  . rw [if_pos h, show n.toNat = 0 by omega]; rfl
  . rw [if_neg h]
    by_cases h1 : n = 1
    . subst h1; rfl
    . rw [if_neg]
      . show ((List.replicate n.toNat #[32]).foldl (· ++ ·) #[]).toList = _
        rw [yv9]
        simp
      . simp [h1, Str.length]
theorem zv7 (n : Int) : (Txt.mul " " n).length = n.toNat := by rw [zr3, zz6, List.length_replicate]
theorem yq1 (n : Int) : (10 : Nat) ∉ (Txt.mul " " n).cps.toList := by rw [zz6]; simp
noncomputable def col (t : Str) : Nat := (t.cps.toList.reverse.takeWhile (· != 10)).length
theorem xp1 {l : List Nat} (h : (10 : Nat) ∉ l) : ∀ a ∈ l, (a != 10) = true := fun a ha => by
  simp only [bne_iff_ne, ne_eq]
  intro e; subst e; exact h ha
theorem yt1 {t w : Str} (h : (10 : Nat) ∉ w.cps.toList) : col (t ++ w) = col t + w.length := by
  unfold col
  rw [zc7, List.reverse_append, List.takeWhile_append_of_pos (xp1 (by simpa using h)), List.length_append, List.length_reverse, zr3]
  omega
theorem xp2 {t w : Str} (h : (10 : Nat) ∉ w.cps.toList) : col (t ++ ((⟨#[10]⟩ : Str) ++ w)) = w.length := by
  unfold col
  rw [zc7, zc7, List.reverse_append, List.reverse_append, List.append_assoc, List.takeWhile_append_of_pos (xp1 (by simpa using h)), List.length_append, List.length_reverse, zr3]
  simp
theorem wd6 (t : Str) : col t <= t.length := by
  unfold col
  rw [zr3, <- List.length_reverse (as := t.cps.toList)]
  exact (List.takeWhile_sublist _).length_le
theorem wg9 {t : Str} {i : Nat} : StrLaws.At t ⟨#[10]⟩ t.length i ↔ t.cps.toList[i]? = some 10 := by
  unfold StrLaws.At Builtin.Str.subAt
  show i + 1 <= t.length /\ (t.cps.extract i (i + 1) == #[10]) = true ↔ _
  rw [beq_iff_eq, <- Array.toList_inj]
  have e : (t.cps.extract i (i + 1)).toList = (t.cps.toList.drop i).take 1 := by simp [Array.toList_extract, List.extract]
  rw [e, zr3]
  constructor
  . intro ⟨h1, h2⟩
    rw [List.getElem?_eq_getElem (by omega)]
    rw [List.drop_eq_getElem_cons (by omega)] at h2
    simpa using h2
  . intro h
    obtain ⟨hi, h2⟩ := List.getElem?_eq_some_iff.mp h
    refine ⟨by omega, ?_⟩
    rw [List.drop_eq_getElem_cons hi, h2]
    rfl
noncomputable def nlw (m : Int) : Str := (⟨#[10]⟩ : Str) ++ Txt.mul " " m
noncomputable def wr (b : Bool) (m : Int) (k : Nat) : Leaf -> Option Str
  | .word x => some x
  | .gap x => if b then some (nlw m) else some x
  | .stop c => if (k : Int) <= c then some (Txt.mul " " (c - k)) else if b then some (nlw c) else none
  | .fin => if b then some (nlw m) else none
noncomputable def Wr (w : Str) : Prop := (10 : Nat) ∉ w.cps.toList \/ ∃ m : Int, w = nlw m
theorem xg4 {x : Str} (h : xd2 x) : (10 : Nat) ∉ x.cps.toList := fun hm => by
  have := List.all_eq_true.mp h.2.2 _ hm
  simp [yk0] at this
theorem wd7 {x : Str} (h : x = "" \/ x = " ") : (10 : Nat) ∉ x.cps.toList := by
  rcases h with rfl | rfl
  . simp [show ("" : Str) = ⟨#[]⟩ from by decide +kernel]
  . simp [xk2]
theorem xk3 {b : Bool} {m : Int} {k : Nat} {l : Leaf} {w : Str} (hl : zp1 l) (h0 : 0 <= m) (h1 : m <= 200) (h : wr b m k l = some w) : Wr w /\ w.length <= 201 := by
  have nl : ∀ c : Int, 0 <= c -> c <= 200 -> Wr (nlw c) /\ (nlw c).length <= 201 := fun c c0 c1 => ⟨.inr ⟨c, rfl⟩, by unfold nlw; rw [zg4, zv7]; show 1 + _ <= _; omega⟩
  cases l with
  | word x => cases h; exact ⟨.inl (xg4 hl), by have := hl.2.1; omega⟩
  | gap x =>
    cases b with
    | true => cases h; exact nl m h0 h1
    | false =>
      have e : x = w := by simpa [wr] using h
      subst e
      have hl' : x = "" \/ x = " " := hl
      refine ⟨.inl (wd7 hl'), ?_⟩
      rcases hl' with e | e <;> subst e
      . show (0 : Nat) <= 201; decide
      . show (1 : Nat) <= 201; decide
  | stop c =>
    have hc : 0 <= c /\ c <= 40 := hl
    change (if (k : Int) <= c then some (Txt.mul " " (c - k)) else if b = true then some (nlw c) else none) = some w at h
    by_cases hk : (k : Int) <= c
    . rw [if_pos hk] at h; cases h
      exact ⟨.inl (yq1 _), by rw [zv7]; omega⟩
    . rw [if_neg hk] at h
      cases b with
      | true => cases h; exact nl c hc.1 (by omega)
      | false => cases h
  | fin =>
    cases b with
    | true => cases h; exact nl m h0 h1
    | false => cases h
mutual
noncomputable def ya1 : Bool -> Int -> Pc -> List Int -> Str -> Option (List Int × Str)
  | b, m, .leaf l, cs, t => (wr b m (col t) l).map fun w => (cs, t ++ w)
  | b, m, .group r, cs, t => if b = true then (match cs with
      | [] => none
      | c :: cs => if c = 0 then zp9 false m r cs t else if c = 1 then zp9 true m r cs t else none) else zp9 false m r cs t
  | b, m, .hang n r, cs, t => zp9 b (m + n) r cs t
  | b, m, .either rs, cs, t => match cs with
      | [] => none
      | c :: cs => if 0 <= c then yb5 b m rs c.toNat cs t else none
noncomputable def zp9 : Bool -> Int -> List Pc -> List Int -> Str -> Option (List Int × Str)
  | _, _, [], cs, t => some (cs, t)
  | b, m, p :: r, cs, t => (ya1 b m p cs t).bind fun s => zp9 b m r s.1 s.2
noncomputable def yb5 : Bool -> Int -> List (List Pc) -> Nat -> List Int -> Str -> Option (List Int × Str)
  | _, _, [], _, _, _ => none
  | b, m, r :: _, 0, cs, t => zp9 b m r cs t
  | b, m, _ :: rs, i + 1, cs, t => yb5 b m rs i cs t
end
theorem yw0 : ∀ {rs : List (List Pc)} {i : Nat} {b : Bool} {m : Int} {cs : List Int} {t : Str} {r : List Pc}, rs[i]? = some r -> yb5 b m rs i cs t = zp9 b m r cs t
  | [], i, _, _, _, _, _, h => by simp at h
  | q :: rs, 0, _, _, _, _, _, h => by simp at h; subst h; rw [yb5]
  | q :: rs, i + 1, _, _, _, _, _, h => by rw [yb5]; exact yw0 (by simpa using h)
theorem yq2 : ∀ {rs : List (List Pc)} {i : Nat} {b : Bool} {m : Int} {cs : List Int} {t : Str}, rs[i]? = none -> yb5 b m rs i cs t = none
  | [], i, _, _, _, _, h => by rw [yb5]
  | q :: rs, 0, _, _, _, _, h => by simp at h
  | q :: rs, i + 1, _, _, _, _, h => by rw [yb5]; exact yq2 (by simpa using h)
end My
namespace My
open PySem PySem.Spec PyProof.Rows L2 L3
noncomputable abbrev nsP : List Str := ["broken", "margin"]
noncomputable def za7 (b : Bool) (m : Int) : D := .obj false "Place" nsP [.bl b, .int m]
noncomputable abbrev zl9 : List D -> Option (D × List D) := gE 3 0 (zd3 [true, false, false]) yf6
theorem xk4 (b : Bool) (m : Int) : zl9 [.obj true "Place" [] [], .bl b, .int m] = some (.non, [.obj true "Place" nsP [.bl b, .int m], .bl b, .int m]) := by
  kernel_rfl
noncomputable abbrev ya2 : List D -> Option D := gP 0 0 (ya0 zl9)
noncomputable abbrev zx3 : List D -> Option D := gP 1 0 yb4
noncomputable def yh8 : Pc -> Bool
  | .leaf _ => false
  | _ => true
theorem xb3 (p : Pc) : zx3 [pcD p] = some (.bl (yh8 p)) := by
  cases p with
  | leaf l => cases l <;> kernel_rfl
  | _ => kernel_rfl
noncomputable abbrev ya3 : List D -> Option D := gP 2 0 zy1
noncomputable def yq8 (b : Bool) : Pc -> Bool
  | .either _ => true
  | .group _ => b
  | _ => false
theorem xt5 (p : Pc) (b : Bool) (m : Int) (hp : yh8 p = true) : ya3 [pcD p, za7 b m] = some (.bl (yq8 b p)) := by
  cases p with
  | leaf l => cases hp
  | group r => cases b <;> kernel_rfl
  | _ => kernel_rfl
noncomputable def yb6 (b : Bool) (m : Int) : Pc -> List (List Pc × Bool × Int)
  | .leaf _ => []
  | .group r => if b = true then [(r, false, m), (r, true, m)] else [(r, false, m)]
  | .hang n r => [(r, b, m + n)]
  | .either rs => rs.map fun r => (r, b, m)
noncomputable def zo0 (x : List Pc × Bool × Int) : D := .tup [.tup (zc6 x.1), za7 x.2.1 x.2.2]
noncomputable abbrev yq9 : List D -> Option D := gP 2 2 (zr6 zl9)
theorem zu0 (b : Bool) (m : Int) : (za7 b m).imm = true := rfl
theorem yt2 (x : List Pc × Bool × Int) : (zo0 x).imm = true := by
  show (D.imm (.tup (zc6 x.1)) && (D.imm (za7 x.2.1 x.2.2) && D.imms [])) = true
  rw [show D.imm (.tup (zc6 x.1)) = D.imms (zc6 x.1) from rfl, zm2]; rfl
theorem yw1 (b : Bool) (m : Int) : ∀ (rs : List (List Pc)) (x : Option D), zq8 [x, some (za7 b m)] zz9 (zj0 (za1 (zb9 (za0 0)) (za1 (zb9 (za0 1)) za3))) (zr0 rs) = some ((rs.map fun r => (r, b, m)).map zo0)
  | [], _ => rfl
  | r :: rs, x => by
    have ih := yw1 b m rs x
    have hi := zu0 b m
    have hp := zm2 r
    show zq8 _ _ _ (.tup (zc6 r) :: zr0 rs) = _
    rw [zq8]
    show (zz9 [some (.tup (zc6 r)), some (za7 b m)]).bind _ = _
    rw [List.map_cons, List.map_cons]
    have e : zj0 (za1 (zb9 (za0 0)) (za1 (zb9 (za0 1)) za3)) [some (.tup (zc6 r)), some (za7 b m)] = some (zo0 (r, b, m)) := by
      unfold zo0
      generalize za7 b m = q at hi |-
      simp [gP, gE, zb8, zd0, zc8, za5, fIf, za8, fB, f2, za0, fC, zb9, ze6, zc1, zc9, zb5, zd7, zd8, za1, za3, zs5, zj0, za6, dEq, dNe, eqB, dB, dIx, zg7, ze3, D.imm, D.imms, zf0, zn3, fT, zf6, ze1, zn7, zj8, ys6, xc9, dIn, inB, zy5, D.flat, D.flats, inV, eqV, zo2, zq7, zi9, ye4, fOr, zb6, zl2, ze8, zh5, zc2, zn8, zf1, zi2, zg2, zw1, zm6, zd3, dLe, dLt, dGe, dIs, zl1, fMt, zp5, ym9, hp, hi]
    show ((zj0 (za1 (zb9 (za0 0)) (za1 (zb9 (za0 1)) za3)) [some (.tup (zc6 r)), some (za7 b m)]).bind _) = _
    rw [e, Option.bind_some, ih]; rfl
noncomputable def yr0 : Pc -> Nat
  | .either rs => rs.length
  | _ => 0
theorem kd2 {p : PSt} {k w : String} {b : Bool} (hp : p[2]? = some (some (.str k))) (h : decide (k = w) = b) : fB (f2 dEq (za0 2) (fC (.str w))) p = some b := by
  refine zt1 (zc5 (yt0 hp) rfl ?_)
  show some (D.bl (decide ((k : Str) = (w : Str)))) = _
  rw [<- h]
  congr 2
  exact decide_eq_decide.mpr (by rw [ze1])
theorem ym7 {p : PSt} {f g : PSt -> Option D} {b : Bool} {m : Int} (h1 : f p = some (.bl b)) (h2 : g p = some (.int m)) : zw1 (zg2 "Place" (zb6 [.im f, .im g]) zl9) p = some (za7 b m) := by
  have q := xk4 b m
  have e : zg2 "Place" (zb6 [.im f, .im g]) zl9 p = some (.obj true "Place" nsP [.bl b, .int m]) := by
    unfold zg2
    rw [yc8 h1 rfl (yc8 h2 rfl ym6), Option.bind_some, q]; rfl
  unfold zw1
  rw [e]; rfl
theorem xb4 : ya2 [] = some (za7 true 0) := zq0 (p := []) rfl (zg8 (ym7 rfl rfl))
theorem yt3 {p : PSt} {f g : PSt -> Option D} {r : List Pc} {b : Bool} {m : Int} (h1 : f p = some (.tup (zc6 r))) (h2 : g p = some (za7 b m)) : zj0 (za1 f (za1 g za3)) p = some (zo0 (r, b, m)) := by
  unfold zj0
  rw [zb7 h1 (zb7 h2 rfl)]
  refine (if_pos ?_).trans rfl
  have := yt2 (r, b, m)
  rw [show D.imms [.tup (zc6 r), za7 b m] = true from this]; rfl
theorem xz0 (p : Pc) (b : Bool) (m : Int) (hp : yh8 p = true) (hl : yr0 p <= 1000) : yq9 [pcD p, za7 b m] = some (.lst true ((yb6 b m p).map zo0)) := by
  show gP 2 2 (zr6 zl9) _ = _
  cases p with
  | leaf l => cases hp
  | group r =>
    have s1 : zc8 2 (za5 (zb9 (f2 dIx (za0 0) (fC (.int 0))))) [some (pcD (.group r)), some (za7 b m), none, none] = some (.nx, [some (pcD (.group r)), some (za7 b m), some (.str "group"), none]) := zi1 (zo8 (zc5 rfl rfl (zn7 _ _)) rfl)
    have s4 : zc8 3 (za5 (zj0 (za1 (zb9 (f2 dIx (za0 0) (fC (.int 1)))) (za1 (zw1 (zg2 "Place" (zb6 [.im (fC (.bl false)), .im (zf1 "Place" "margin" (za0 1))]) zl9)) za3)))) [some (pcD (.group r)), some (za7 b m), some (.str "group"), none] = some (.nx, [some (pcD (.group r)), some (za7 b m), some (.str "group"), some (zo0 (r, false, m))]) := zi1 (yt3 (zo8 (zc5 rfl rfl (zj8 _ _ _)) (zm2 r)) (ym7 rfl (by kernel_rfl)))
    have w3 : zb9 (za0 3) [some (pcD (.group r)), some (za7 b m), some (.str "group"), some (zo0 (r, false, m))] = some (zo0 (r, false, m)) := zo8 rfl (yt2 _)
    have br : fT (zf1 "Place" "broken" (za0 1)) [some (pcD (.group r)), some (za7 b m), some (.str "group"), some (zo0 (r, false, m))] = some b := yx3 (by kernel_rfl)
    suffices h : ∃ q, zr6 zl9 [some (pcD (.group r)), some (za7 b m), none, none] = some (.ret (.lst true ((yb6 b m (.group r)).map zo0)), q) from by
      obtain ⟨q, hq⟩ := h; exact zq0 rfl hq
    unfold zr6
    rw [za9 s1, za9 (zc3 (kd2 rfl (by decide))), za9 (zc3 (kd2 rfl (by decide))), za9 s4]
    cases b with
    | true => exact ⟨_, zj9 ((zh6 br).trans (zg8 (ys7 (zb7 w3 (zb7 (yt3 (zo8 (zc5 rfl rfl (zj8 _ _ _)) (zm2 r)) (zo8 rfl rfl)) rfl)) (Nat.le_of_ble_eq_true rfl))))⟩
    | false => exact ⟨_, (za9 (zc3 br)).trans (zg8 (ys7 (zb7 w3 rfl) (Nat.le_of_ble_eq_true rfl)))⟩
  | hang n r =>
    have s1 : zc8 2 (za5 (zb9 (f2 dIx (za0 0) (fC (.int 0))))) [some (pcD (.hang n r)), some (za7 b m), none, none] = some (.nx, [some (pcD (.hang n r)), some (za7 b m), some (.str "hang"), none]) := zi1 (zo8 (zc5 rfl rfl (zn7 _ _)) rfl)
    refine zq0 (p := [some (pcD (.hang n r)), some (za7 b m), some (.str "hang"), none]) rfl ?_
    unfold zr6
    exact (za9 s1).trans (zj9 ((zh6 (kd2 rfl (by decide))).trans (zg8 (ys7 (zb7 (yt3 (zo8 (zc5 rfl rfl (ys6 _ _ _ _)) (zm2 r)) (ym7 (by kernel_rfl) (zc5 (x := .int m) (by kernel_rfl) (zc5 rfl rfl (zj8 _ _ _)) rfl))) rfl) (Nat.le_of_ble_eq_true rfl)))))
  | either rs =>
    generalize zl9 = G
    have hz : (zr0 rs).length <= sizeLine := by rw [yv7]; exact sz hl
    have e := yw1 b m rs none
    have e2 : yb2 [none, some 1] (zp5 (f2 dIx (za0 0) (fC (.int 1)))) zz9 (zj0 (za1 (zb9 (za0 0)) (za1 (zb9 (za0 1)) za3))) [some (pcD (.either rs)), some (za7 b m), some (.str "either"), none] = some (.lst true ((yb6 b m (.either rs)).map zo0)) := by
      unfold yb2
      have e3 : zp5 (f2 dIx (za0 0) (fC (.int 1))) [some (pcD (.either rs)), some (za7 b m), some (.str "either"), none] = some (zr0 rs) := by simp [gP, gE, zb8, zd0, zc8, za5, fIf, za8, fB, f2, za0, fC, zb9, ze6, zc1, zc9, zb5, zd7, zd8, za1, za3, zs5, zj0, za6, dEq, dNe, eqB, dB, dIx, zg7, ze3, D.imm, D.imms, zf0, zn3, fT, zf6, ze1, zn7, zj8, ys6, xc9, dIn, inB, zy5, D.flat, D.flats, inV, eqV, zo2, zq7, zi9, ye4, fOr, zb6, zl2, ze8, zh5, zc2, zn8, zf1, zi2, zg2, zw1, zm6, zd3, dLe, dLt, dGe, dIs, zl1, fMt, zp5, ym9, pcD]
      rw [e3, Option.bind_some, if_pos hz]
      have e4 : zq8 (zx8 [none, some 1] [some (pcD (.either rs)), some (za7 b m), some (.str "either"), none]) zz9 (zj0 (za1 (zb9 (za0 0)) (za1 (zb9 (za0 1)) za3))) (zr0 rs) = some ((rs.map fun r => (r, b, m)).map zo0) := e
      rw [e4]; rfl
    have s1 : zc8 2 (za5 (zb9 (f2 dIx (za0 0) (fC (.int 0))))) [some (pcD (.either rs)), some (za7 b m), none, none] = some (.nx, [some (pcD (.either rs)), some (za7 b m), some (.str "either"), none]) := by simp [gP, gE, zb8, zd0, zc8, za5, fIf, za8, fB, f2, za0, fC, zb9, ze6, zc1, zc9, zb5, zd7, zd8, za1, za3, zs5, zj0, za6, dEq, dNe, eqB, dB, dIx, zg7, ze3, D.imm, D.imms, zf0, zn3, fT, zf6, ze1, zn7, zj8, ys6, xc9, dIn, inB, zy5, D.flat, D.flats, inV, eqV, zo2, zq7, zi9, ye4, fOr, zb6, zl2, ze8, zh5, zc2, zn8, zf1, zi2, zg2, zw1, zm6, zd3, dLe, dLt, dGe, dIs, zl1, fMt, zp5, ym9, pcD]
    have s2 : ∀ F : PSt -> Option (Fl × PSt), fIf (za8 (fB (f2 dEq (za0 2) (fC (.str "hang"))))) F zd0 [some (pcD (.either rs)), some (za7 b m), some (.str "either"), none] = some (.nx, [some (pcD (.either rs)), some (za7 b m), some (.str "either"), none]) := fun F => by simp [gP, gE, zb8, zd0, zc8, za5, fIf, za8, fB, f2, za0, fC, zb9, ze6, zc1, zc9, zb5, zd7, zd8, za1, za3, zs5, zj0, za6, dEq, dNe, eqB, dB, dIx, zg7, ze3, D.imm, D.imms, zf0, zn3, fT, zf6, ze1, zn7, zj8, ys6, xc9, dIn, inB, zy5, D.flat, D.flats, inV, eqV, zo2, zq7, zi9, ye4, fOr, zb6, zl2, ze8, zh5, zc2, zn8, zf1, zi2, zg2, zw1, zm6, zd3, dLe, dLt, dGe, dIs, zl1, fMt, zp5, ym9]
    have s3 : ∀ F : PSt -> Option (Fl × PSt), fIf (za8 (fB (f2 dEq (za0 2) (fC (.str "either"))))) F zd0 [some (pcD (.either rs)), some (za7 b m), some (.str "either"), none] = F [some (pcD (.either rs)), some (za7 b m), some (.str "either"), none] := fun F => by simp [gP, gE, zb8, zd0, zc8, za5, fIf, za8, fB, f2, za0, fC, zb9, ze6, zc1, zc9, zb5, zd7, zd8, za1, za3, zs5, zj0, za6, dEq, dNe, eqB, dB, dIx, zg7, ze3, D.imm, D.imms, zf0, zn3, fT, zf6, ze1, zn7, zj8, ys6, xc9, dIn, inB, zy5, D.flat, D.flats, inV, eqV, zo2, zq7, zi9, ye4, fOr, zb6, zl2, ze8, zh5, zc2, zn8, zf1, zi2, zg2, zw1, zm6, zd3, dLe, dLt, dGe, dIs, zl1, fMt, zp5, ym9]
    refine zq0 rfl ?_ (p := [some (pcD (.either rs)), some (za7 b m), some (.str "either"), none])
    unfold zr6
    exact (za9 s1).trans ((za9 (s2 _)).trans (zj9 ((s3 _).trans (zg8 e2))))
noncomputable abbrev gNl : List D -> Option D := gP 1 0 yf5
theorem xv6 (m : Int) (h0 : -1000 <= m) (h1 : m <= 1000) : zx7 (.str " ") (.int m) = some (.str (Txt.mul " " m)) := by
  rw [zx7, if_pos]
  simp only [Bool.and_eq_true, decide_eq_true_eq]
  exact ⟨⟨by decide +kernel, by omega⟩, by omega⟩
theorem xv7 (m : Int) (h0 : 0 <= m) (h1 : m <= 200) : gNl [.int m] = some (.str (nlw m)) := by
  have q := xv6 m (by omega) (by omega)
  have hl : 1 + (Txt.mul " " m).length <= sizeLine := by rw [zv7]; exact sz (by omega)
  have e : ((⟨#[10]⟩ : Str) ++ Txt.mul " " m) = nlw m := rfl
  have e1 : zf0 (.str "\n") (.str (Txt.mul " " m)) = some (.str (nlw m)) := by
    rw [xk1, zf0, if_pos (by exact hl)]; rfl
  exact zq0 rfl (zg8 (zc5 rfl (zc5 rfl rfl q) e1))
noncomputable abbrev ye9 : List D -> Option D := gP 3 1 (zu9 gNl)
noncomputable def wrD : Option Str -> D
  | some w => .str w
  | none => .non
theorem kd3 {p : PSt} {k w : String} {b : Bool} (hp : p[3]? = some (some (.str k))) (h : decide (k = w) = b) : fB (f2 dEq (za0 3) (fC (.str w))) p = some b := by
  refine zt1 (zc5 (yt0 hp) rfl ?_)
  show some (D.bl (decide ((k : Str) = (w : Str)))) = _
  rw [<- h]
  congr 2
  exact decide_eq_decide.mpr (by rw [ze1])
theorem xk5 (l : Leaf) (b : Bool) (m : Int) (k : Nat) (hl : zp1 l) (h0 : 0 <= m) (h1 : m <= 200) (hk : k <= 1000000) : ye9 [zh2 l, za7 b m, .int k] = some (wrD (wr b m k l)) := by
  suffices h : ∃ q, zu9 gNl [some (zh2 l), some (za7 b m), some (.int k), none] = some (.ret (wrD (wr b m k l)), q) from by
    obtain ⟨q, hq⟩ := h; exact zq0 rfl hq
  have br : ∀ d x, fT (zf1 "Place" "broken" (za0 1)) [some d, some (za7 b m), some (.int k), x] = some b := fun d x => yx3 (by kernel_rfl)
  have mg : ∀ d x, za6 gNl (za1 (zf1 "Place" "margin" (za0 1)) za3) [some d, some (za7 b m), some (.int k), x] = some (.str (nlw m)) := fun d x => zg6 (ds := [.int m]) (zb7 (by kernel_rfl) rfl) (xv7 m h0 h1)
  have s1 : ∀ (w : String) (ds : List D), zc8 3 (za5 (zb9 (f2 dIx (za0 0) (fC (.int 0))))) [some (.tup (.str w :: ds)), some (za7 b m), some (.int k), none] = some (.nx, [some (.tup (.str w :: ds)), some (za7 b m), some (.int k), some (.str w)]) := fun w ds => zi1 (zo8 (zc5 rfl rfl (zn7 _ _)) rfl)
  unfold zu9
  cases l with
  | word x => exact ⟨_, (za9 (s1 "word" [.str x])).trans (zj9 ((zh6 (kd3 rfl (by decide))).trans (zg8 (zo8 (zc5 rfl rfl (zj8 _ _ _)) rfl))))⟩
  | gap x =>
    show ∃ q, zb8 _ _ [some (.tup [.str "gap", .str x]), some (za7 b m), some (.int k), none] = _
    rw [za9 (s1 "gap" [.str x]), za9 (zc3 (kd3 rfl (by decide)))]
    cases b with
    | false => exact ⟨_, zj9 ((zh6 (yp8 (kd3 rfl (by decide)) (zs1 (br _ _)))).trans (zg8 (zo8 (zc5 rfl rfl (zj8 _ _ _)) rfl)))⟩
    | true => exact ⟨_, (za9 (zc3 (yp8 (kd3 rfl (by decide)) (zs1 (br _ _))))).trans ((za9 (zc3 (yp7 (kd3 rfl (by decide))))).trans ((za9 (zc3 (zs1 (br _ _)))).trans ((za9 (zc3 (kd3 rfl (by decide)))).trans (zg8 (mg _ _)))))⟩
  | fin =>
    show ∃ q, zb8 _ _ [some (.tup [.str "end"]), some (za7 b m), some (.int k), none] = _
    rw [za9 (s1 "end" []), za9 (zc3 (kd3 rfl (by decide))), za9 (zc3 (yp7 (kd3 rfl (by decide)))), za9 (zc3 (yp7 (kd3 rfl (by decide))))]
    cases b with
    | false => exact ⟨_, zj9 ((zh6 (zs1 (br _ _))).trans (zg8 rfl))⟩
    | true => exact ⟨_, (za9 (zc3 (zs1 (br _ _)))).trans ((za9 (zc3 (kd3 rfl (by decide)))).trans (zg8 (mg _ _)))⟩
  | stop c =>
    have hc : 0 <= c /\ c <= 40 := hl
    show ∃ q, zb8 _ _ [some (.tup [.str "stop", .int c]), some (za7 b m), some (.int k), none] = _
    have le : fB (f2 dLe (za0 2) (f2 dIx (za0 0) (fC (.int 1)))) [some (.tup [.str "stop", .int c]), some (za7 b m), some (.int k), some (.str "stop")] = some (decide ((k : Int) <= c)) := zt1 (zc5 rfl (zc5 rfl rfl (zj8 _ _ _)) rfl)
    rw [za9 (s1 "stop" [.int c]), za9 (zc3 (kd3 rfl (by decide))), za9 (zc3 (yp7 (kd3 rfl (by decide))))]
    by_cases hkc : (k : Int) <= c
    . rw [decide_eq_true hkc] at le
      rw [show wr b m k (.stop c) = some (Txt.mul " " (c - k)) from if_pos hkc]
      exact ⟨_, zj9 ((zh6 (yp8 (kd3 rfl (by decide)) le)).trans (zg8 (zc5 rfl (zc5 (zc5 rfl rfl (zj8 _ _ _)) rfl rfl) (xv6 (c - k) (by omega) (by omega)))))⟩
    . rw [decide_eq_false hkc] at le
      rw [za9 (zc3 (yp8 (kd3 rfl (by decide)) le))]
      cases b with
      | false =>
        rw [show wr false m k (.stop c) = none from (if_neg hkc).trans rfl]
        exact ⟨_, zj9 ((zh6 (zs1 (br _ _))).trans (zg8 rfl))⟩
      | true =>
        rw [show wr true m k (.stop c) = some (nlw c) from (if_neg hkc).trans rfl]
        exact ⟨_, (za9 (zc3 (zs1 (br _ _)))).trans (zj9 ((zh6 (kd3 rfl (by decide))).trans (zg8 (zg6 (zb7 (zc5 rfl rfl (zj8 _ _ _)) rfl) (xv7 c hc.1 (by omega))))))⟩
end My
namespace My
open PySem PySem.Spec PyProof.Rows L2 L3
theorem xp3 {w : Str} : Txt.startswith w ⟨#[10]⟩ = decide (w.cps.toList[0]? = some 10) := by
  rw [Bool.eq_iff_iff, decide_eq_true_eq, <- wg9 (t := w) (i := 0)]
  unfold Txt.startswith StrLaws.At
  simp only [Bool.and_eq_true, decide_eq_true_eq]
noncomputable abbrev yr1 : List D -> Option D := gP 1 0 zw2
theorem xz1 (w : Str) : yr1 [.str w] = some (.bl (decide (w.cps.toList[0]? = some 10))) := by
  rw [<- xp3, <- xk1]
  simp [gP, gE, zb8, zd0, zc8, za5, fIf, za8, fB, f2, za0, fC, zb9, ze6, zc1, zc9, zb5, zd7, zd8, za1, za3, za6, dIx, zg7, ze3, D.imm, D.imms, zf0, zn3, fT, zf6, ze1, zn7, zj8, zi9, zb6, zl2, ze8, zh5, zc2, zn8, zf1, zi2, zg2, zm6, zd3, dLt, dGe, dIs, zl1, fMt, fB, dB, zo3, zw2, zs8, xl2]
noncomputable abbrev yk2 : List D -> Option D := gP 2 0 (zl0 yr1)
theorem xp4 {t w : Str} (hw : Wr w) (hz : w.length <= 1000) : yk2 [.int (col t), .str w] = some (.int (col (t ++ w))) := by
  have q := xz1 w
  have hz' : w.length <= sizeLine := sz hz
  show gP 2 0 (zl0 yr1) _ = _
  rcases hw with h | ⟨m, rfl⟩
  . have e : decide (w.cps.toList[0]? = some 10) = false := decide_eq_false fun h' => h (List.mem_of_getElem? h')
    rw [e] at q
    rw [yt1 h]
    generalize yr1 = G at q |-
    simp [gP, gE, zb8, zd0, zc8, za5, fIf, za8, fB, f2, za0, fC, zb9, ze6, zc1, zc9, zb5, zd7, zd8, za1, za3, za6, dIx, zg7, ze3, D.imm, D.imms, zf0, zn3, fT, zf6, ze1, zn7, zj8, zi9, zb6, zl2, ze8, zh5, zc2, zn8, zf1, zi2, zg2, zm6, zd3, dLt, dGe, dIs, zl1, fMt, fB, dB, zo3, zl0, q, hz']
  . have e : decide ((nlw m).cps.toList[0]? = some 10) = true := decide_eq_true (by unfold nlw; rw [zc7]; rfl)
    rw [e] at q
    have e2 : col (t ++ nlw m) = (nlw m).length - 1 := by
      unfold nlw
      rw [xp2 (yq1 m), zg4]; show _ = 1 + _ - 1; omega
    have e3 : 1 <= (nlw m).length := by unfold nlw; rw [zg4]; show 1 <= 1 + _; omega
    rw [e2]
    generalize yr1 = G at q |-
    generalize nlw m = w at hz' q e3 |-
    simp [gP, gE, zb8, zd0, zc8, za5, fIf, za8, fB, f2, za0, fC, zb9, ze6, zc1, zc9, zb5, zd7, zd8, za1, za3, za6, dIx, zg7, ze3, D.imm, D.imms, zf0, zn3, fT, zf6, ze1, zn7, zj8, zi9, zb6, zl2, ze8, zh5, zc2, zn8, zf1, zi2, zg2, zm6, zd3, dLt, dGe, dIs, zl1, fMt, fB, dB, zo3, zl0, q, hz']
    omega
noncomputable def cat : List Str -> Str
  | [] => ⟨#[]⟩
  | x :: xs => x ++ cat xs
theorem yj1 (t : Str) : t ++ (⟨#[]⟩ : Str) = t := zm5 (by rw [zc7]; simp [gP, gE, zb8, zd0, zc8, za5, fIf, za8, fB, f2, za0, fC, zb9, ze6, zc1, zc9, zb5, zd7, zd8, za1, za3, za6, dIx, zg7, ze3, D.imm, D.imms, zf0, zn3, fT, zf6, ze1, zn7, zj8, zi9, zb6, zl2, ze8, zh5, zc2, zn8, zf1, zi2, zg2, zm6, zd3, dLt, dGe, dIs, zl1, fMt, fB, dB, zo3])
theorem xg5 (t : Str) : (⟨#[]⟩ : Str) ++ t = t := zm5 (by rw [zc7]; simp [gP, gE, zb8, zd0, zc8, za5, fIf, za8, fB, f2, za0, fC, zb9, ze6, zc1, zc9, zb5, zd7, zd8, za1, za3, za6, dIx, zg7, ze3, D.imm, D.imms, zf0, zn3, fT, zf6, ze1, zn7, zj8, zi9, zb6, zl2, ze8, zh5, zc2, zn8, zf1, zi2, zg2, zm6, zd3, dLt, dGe, dIs, zl1, fMt, fB, dB, zo3])
theorem xz2 (a b c : Str) : (a ++ b) ++ c = a ++ (b ++ c) := zm5 (by simp only [zc7, List.append_assoc])
theorem ye1 : ∀ (ps : List Str) (w : Str), cat (ps ++ [w]) = cat ps ++ w
  | [], w => by show w ++ (⟨#[]⟩ : Str) = (⟨#[]⟩ : Str) ++ w; rw [yj1, xg5]
  | x :: ps, w => by show x ++ cat (ps ++ [w]) = (x ++ cat ps) ++ w; rw [ye1 ps w, xz2]
noncomputable abbrev nsS : List Str := ["choices", "used", "column", "parts"]
noncomputable def zf8 (C : List Int) : List D := C.map .int
noncomputable def stD (C : List Int) (u : Nat) (ps : List Str) : D := .obj true "Setter" nsS [.tup (zf8 C), .int u, .int (col (cat ps)), .lst true (zc4 ps)]
theorem yb0 : ∀ C, D.imms (zf8 C) = true
  | [] => rfl
  | c :: C => by show (D.imm (.int c) && D.imms (zf8 C)) = true; rw [yb0 C]; rfl
noncomputable abbrev zq1 : List D -> Option (D × List D) := gE 3 1 (zd3 [true, false, false]) (zn2 ye9 yk2)
theorem xt6 {C : List Int} {u : Nat} {ps : List Str} {l : Leaf} {b : Bool} {m : Int} {w : Str} (hl : zp1 l) (h0 : 0 <= m) (h1 : m <= 200) (hw : wr b m (col (cat ps)) l = some w) (hp : ps.length <= 900) (hc : (cat ps).length <= 1000000) :
    zq1 [stD C u ps, zh2 l, za7 b m] = some (.non, [stD C u (ps ++ [w]), zh2 l, za7 b m]) := by
  obtain ⟨hW, hz⟩ := xk3 hl h0 h1 hw
  have q1 := xk5 l b m (col (cat ps)) hl h0 h1 (Nat.le_trans (wd6 _) hc)
  rw [hw] at q1
  have q2 := xp4 (t := cat ps) hW (by omega)
  have hi : (zc4 ps).length < sizeLine := by rw [ya9]; exact sz1 (by omega)
  have es : zc4 (ps ++ [w]) = zc4 ps ++ [.str w] := by rw [yv8]; rfl
  show gE 3 1 _ (zn2 ye9 yk2) _ = _
  unfold stD
  rw [ye1, es]
  generalize zh2 l = dl at q1 |-
  generalize za7 b m = dp at q1 |-
  generalize ye9 = G1 at q1 |-
  generalize yk2 = G2 at q2 |-
  simp only [wrD] at q1
  simp [gP, gE, zb8, zd0, zc8, za5, fIf, za8, fB, f2, za0, fC, zb9, ze6, zc1, zc9, zb5, zd7, zd8, za1, za3, za6, dIx, zg7, ze3, D.imm, D.imms, zf0, zn3, fT, zf6, ze1, zn7, zj8, zi9, zb6, zl2, ze8, zh5, zc2, zn8, zf1, zi2, zg2, zm6, zd3, dLt, dGe, dIs, zl1, fMt, fB, dB, zo3, zn2, q1, q2, hi]
noncomputable abbrev zv1 : List D -> Option (D × List D) := gE 2 1 (zd3 [true, false]) zn9
theorem zy8 {α : Type} {xs : List α} {n : Nat} {v : α} (h : xs[n]? = some v) : atI xs (n : Int) = some v := yr4 h
theorem xt7 {C : List Int} {u n : Nat} {c : Int} {ps : List Str} (hc : C[u]? = some c) (h0 : 0 <= c) (h1 : c < n) : zv1 [stD C u ps, .int n] = some (.int c, [stD C (u + 1) ps, .int n]) := by
  obtain ⟨hu, _⟩ := List.getElem?_eq_some_iff.mp hc
  have hl : (zf8 C).length = C.length := List.length_map _
  have e : atI (zf8 C) (u : Int) = some (.int c) := zy8 (by unfold zf8; rw [List.getElem?_map, hc]; rfl)
  have g1 : ¬ ((C.length : Int) <= (u : Int)) := by omega
  have g2 : ¬ (c < 0) := by omega
  have g3 : ¬ ((n : Int) <= c) := by omega
  unfold stD
  simp [gP, gE, zb8, zd0, zc8, za5, fIf, za8, fB, f2, za0, fC, zb9, ze6, zc1, zc9, zb5, zd7, zd8, za1, za3, za6, dIx, zg7, ze3, D.imm, D.imms, zf0, zn3, fT, zf6, ze1, zn7, zj8, zi9, zb6, zl2, ze8, zh5, zc2, zn8, zf1, zi2, zg2, zm6, zd3, dLt, dGe, dIs, zl1, fMt, fB, dB, zo3, zn9, hl, e, g1, g2, g3]
noncomputable abbrev yf0 (GR : List D -> Option (D × List D)) : List D -> Option (D × List D) := gE 3 3 (zd3 [true, false, false]) (zl8 yq9 ya3 zv1 GR)
theorem yj2 {GR : List D -> Option (D × List D)} {p : Pc} {b : Bool} {m : Int} {C : List Int} {u u1 i : Nat} {ps : List Str} {x : List Pc × Bool × Int} {N : D} (hp : yh8 p = true) (hn : yr0 p <= 1000) (hi : (yb6 b m p)[i]? = some x)
    (hc : (yq8 b p = true /\ C[u]? = some (i : Int) /\ u1 = u + 1) \/ (yq8 b p = false /\ i = 0 /\ u1 = u)) (hR : GR [stD C u1 ps, .tup (zc6 x.1), za7 x.2.1 x.2.2] = some (.non, [N, .tup (zc6 x.1), za7 x.2.1 x.2.2])) :
    yf0 GR [stD C u ps, pcD p, za7 b m] = some (.non, [N, pcD p, za7 b m]) := by
  have q1 := xz0 p b m hp hn
  have q2 := xt5 p b m hp
  have hil : i < ((yb6 b m p).map zo0).length := by rw [List.length_map]; exact (List.getElem?_eq_some_iff.mp hi).1
  have e1 : atI ((yb6 b m p).map zo0) (i : Int) = some (zo0 x) := zy8 (by rw [List.getElem?_map, hi]; rfl)
  have hw := yt2 x
  have p1 := zm2 x.1
  have p2 := zu0 x.2.1 x.2.2
  generalize hW : (yb6 b m p).map zo0 = W at q1 hil e1
  have st1 : ∀ v ps', stD C v ps' = .obj true "Setter" nsS [.tup (zf8 C), .int v, .int (col (cat ps')), .lst true (zc4 ps')] := fun _ _ => rfl
  have hm : ∀ v, zj5 "Setter" "set_row" GR [.tup (zc6 x.1), za7 x.2.1 x.2.2] (stD C v ps) = (GR [stD C v ps, .tup (zc6 x.1), za7 x.2.1 x.2.2]).bind fun r => match r.2 with
      | d' :: ds => if ds.length = 2 then some (r.1, d') else none
      | [] => none := fun v => by
    rw [st1]
    show (if (("Setter" : Str) = "Setter" /\ zc2 nsS "set_row" = none) then _ else none) = _
    exact if_pos ⟨rfl, by simp [gP, gE, zb8, zd0, zc8, za5, fIf, za8, fB, f2, za0, fC, zb9, ze6, zc1, zc9, zb5, zd7, zd8, za1, za3, za6, dIx, zg7, ze3, D.imm, D.imms, zf0, zn3, fT, zf6, ze1, zn7, zj8, zi9, zb6, zl2, ze8, zh5, zc2, zn8, zf1, zi2, zg2, zm6, zd3, dLt, dGe, dIs, zl1, fMt, fB, dB, zo3]⟩
  have hm1 : zj5 "Setter" "set_row" GR [.tup (zc6 x.1), za7 x.2.1 x.2.2] (stD C u1 ps) = some (.non, N) := by rw [hm, hR]; rfl
  have body : ∀ f4 : Int, zb8 (zc8 5 (za5 (zb9 (f2 dIx (za0 3) (za0 4))))) (zc1 (zc9 0 zb5 (zb6 [.im (f2 dIx (za0 5) (fC (.int 0))), .im (f2 dIx (za0 5) (fC (.int 1)))]) (zj5 "Setter" "set_row" GR))) [some (stD C u1 ps), some (pcD p), some (za7 b m), some (.lst true W), some (.int (i : Int)), none] = some (.nx, [some N, some (pcD p), some (za7 b m), some (.lst true W), some (.int (i : Int)), some (zo0 x)]) := fun _ => by
    have s1 : zc8 5 (za5 (zb9 (f2 dIx (za0 3) (za0 4)))) [some (stD C u1 ps), some (pcD p), some (za7 b m), some (.lst true W), some (.int (i : Int)), none] = some (.nx, [some (stD C u1 ps), some (pcD p), some (za7 b m), some (.lst true W), some (.int (i : Int)), some (zo0 x)]) := by
      refine zi1 ?_
      simp [gP, gE, zb8, zd0, zc8, za5, fIf, za8, fB, f2, za0, fC, zb9, ze6, zc1, zc9, zb5, zd7, zd8, za1, za3, za6, dIx, zg7, ze3, D.imm, D.imms, zf0, zn3, fT, zf6, ze1, zn7, zj8, zi9, zb6, zl2, ze8, zh5, zc2, zn8, zf1, zi2, zg2, zm6, zd3, dLt, dGe, dIs, zl1, fMt, fB, dB, zo3, e1, hw]
    refine (za9 s1).trans ?_
    unfold zo0 at *
    generalize za7 x.2.1 x.2.2 = PX at *
    generalize stD C u1 ps = ST at *
    simp [gP, gE, zb8, zd0, zc8, za5, fIf, za8, fB, f2, za0, fC, zb9, ze6, zc1, zc9, zb5, zd7, zd8, za1, za3, za6, dIx, zg7, ze3, D.imm, D.imms, zf0, zn3, fT, zf6, ze1, zn7, zj8, zi9, zb6, zl2, ze8, zh5, zc2, zn8, zf1, zi2, zg2, zm6, zd3, dLt, dGe, dIs, zl1, fMt, fB, dB, zo3, p1, p2, hm1]
  show gE 3 3 _ (zl8 yq9 ya3 zv1 GR) _ = _
  have s1 : zc8 3 (za5 (za6 yq9 (za1 (za0 1) (za1 (za0 2) za3)))) [some (stD C u ps), some (pcD p), some (za7 b m), none, none, none] = some (.nx, [some (stD C u ps), some (pcD p), some (za7 b m), some (.lst true W), none, none]) := zi1 (zg6 (zb7 rfl (zb7 rfl rfl)) q1)
  have s2 : zc8 4 (za5 (fC (.int 0))) [some (stD C u ps), some (pcD p), some (za7 b m), some (.lst true W), none, none] = some (.nx, [some (stD C u ps), some (pcD p), some (za7 b m), some (.lst true W), some (.int 0), none]) := rfl
  have t1 : ∀ B, yq8 b p = B -> za8 (fT (za6 ya3 (za1 (za0 1) (za1 (za0 2) za3)))) [some (stD C u ps), some (pcD p), some (za7 b m), some (.lst true W), some (.int 0), none] = some (B, [some (stD C u ps), some (pcD p), some (za7 b m), some (.lst true W), some (.int 0), none]) := fun B hB => by
    have e : za6 ya3 (za1 (za0 1) (za1 (za0 2) za3)) [some (stD C u ps), some (pcD p), some (za7 b m), some (.lst true W), some (.int 0), none] = some (.bl B) := zg6 (zb7 rfl (zb7 rfl rfl)) (hB ▸ q2)
    unfold za8 fT
    rw [e]; rfl
  have s3 : fIf (za8 (fT (za6 ya3 (za1 (za0 1) (za1 (za0 2) za3))))) (zc8 4 (zc9 0 zb5 (zb6 [.im (za6 zg7 (za1 (za0 3) za3))]) (zj5 "Setter" "choice_below" zv1))) zd0 [some (stD C u ps), some (pcD p), some (za7 b m), some (.lst true W), some (.int 0), none] = some (.nx, [some (stD C u1 ps), some (pcD p), some (za7 b m), some (.lst true W), some (.int (i : Int)), none]) := by
    rcases hc with ⟨hT, hC, rfl⟩ | ⟨hT, rfl, rfl⟩
    . refine (xj7 (t1 _ hT)).trans ?_
      have qb := xt7 (ps := ps) hC (by omega) (show (i : Int) < (W.length : Nat) by omega)
      have hb : zj5 "Setter" "choice_below" zv1 [.int (W.length : Nat)] (stD C u ps) = some (.int (i : Int), stD C (u + 1) ps) := by
        have e : zj5 "Setter" "choice_below" zv1 [.int (W.length : Nat)] (stD C u ps) = (zv1 [stD C u ps, .int (W.length : Nat)]).bind fun r => match r.2 with
            | d' :: ds => if ds.length = 1 then some (r.1, d') else none
            | [] => none := by
          rw [st1]
          show (if (("Setter" : Str) = "Setter" /\ zc2 nsS "choice_below" = none) then _ else none) = _
          exact if_pos ⟨rfl, by simp [gP, gE, zb8, zd0, zc8, za5, fIf, za8, fB, f2, za0, fC, zb9, ze6, zc1, zc9, zb5, zd7, zd8, za1, za3, za6, dIx, zg7, ze3, D.imm, D.imms, zf0, zn3, fT, zf6, ze1, zn7, zj8, zi9, zb6, zl2, ze8, zh5, zc2, zn8, zf1, zi2, zg2, zm6, zd3, dLt, dGe, dIs, zl1, fMt, fB, dB, zo3]⟩
        rw [e, qb]; rfl
      generalize zv1 = G at hb |-
      generalize stD C u ps = S0 at hb |-
      generalize stD C (u + 1) ps = S1 at hb |-
      generalize pcD p = d1
      generalize za7 b m = d2
      simp [gP, gE, zb8, zd0, zc8, za5, fIf, za8, fB, f2, za0, fC, zb9, ze6, zc1, zc9, zb5, zd7, zd8, za1, za3, za6, dIx, zg7, ze3, D.imm, D.imms, zf0, zn3, fT, zf6, ze1, zn7, zj8, zi9, zb6, zl2, ze8, zh5, zc2, zn8, zf1, zi2, zg2, zm6, zd3, dLt, dGe, dIs, zl1, fMt, fB, dB, zo3, hb]
    . exact (xj8 (t1 _ hT)).trans rfl
  have z := (za9 s1).trans ((za9 s2).trans ((za9 s3).trans (body 0)))
  unfold gE
  refine (if_pos rfl).trans ?_
  have z' : zl8 yq9 ya3 zv1 GR ([stD C u ps, pcD p, za7 b m].map some ++ List.replicate 3 none) = some (.nx, [some N, some (pcD p), some (za7 b m), some (.lst true W), some (.int (i : Int)), some (zo0 x)]) := z
  rw [z']
  rfl
end My
namespace My
open PySem PySem.Spec PyProof.Rows L2 L3
noncomputable def yf1 (GH GPl : List D -> Option (D × List D)) : PSt -> Option (Fl × PSt) :=
   (fIf (za8 (fT (za6 zx3 (za1 (za0 3) za3))))
   (zc1 (zc9 0 zb5 (zb6 [.im (za0 3), .im (za0 2)]) (zj5 "Setter" "set_holder" GH)))
   (zc1 (zc9 0 zb5 (zb6 [.im (za0 3), .im (za0 2)]) (zj5 "Setter" "set_plain" GPl))))
theorem yj3 {g : List D -> Option (D × List D)} {m : Str} {C : List Int} {u : Nat} {ps : List Str} {d1 d2 N v : D} (hm : zc2 nsS m = none) (h : g [stD C u ps, d1, d2] = some (v, [N, d1, d2])) : zj5 "Setter" m g [d1, d2] (stD C u ps) = some (v, N) := by
  show (if (("Setter" : Str) = "Setter" /\ zc2 nsS m = none) then (g [stD C u ps, d1, d2]).bind _ else none) = _
  rw [if_pos ⟨rfl, hm⟩, h]; rfl
theorem yj4 {GH : List D -> Option (D × List D)} {C : List Int} {u : Nat} {ps : List Str} {p : Pc} {b : Bool} {m : Int} {R : Option D} {N : D} (hp : yh8 p = true) (h : GH [stD C u ps, pcD p, za7 b m] = some (.non, [N, pcD p, za7 b m])) :
    yf1 GH zq1 [some (stD C u ps), R, some (za7 b m), some (pcD p)] = some (.nx, [some N, R, some (za7 b m), some (pcD p)]) := by
  have q := xb3 p
  rw [hp] at q
  have hm := yj3 (m := "set_holder") (by simp [zc1, zc9, zb5, zd7, zd8, zb6, zb9, za0, za5, fT, zf6, za8, D.imm, D.imms, za1, za3, za6, zc2, ze1]) h
  have i1 := xo9 p
  have i2 := zu0 b m
  unfold yf1
  generalize zx3 = G1 at q |-
  generalize zq1 = G2
  generalize stD C u ps = S at hm |-
  generalize pcD p = d1 at *
  generalize za7 b m = d2 at *
  refine (xj7 (p' := [some S, R, some d2, some d1]) (by simp [zc1, zc9, zb5, zd7, zd8, zb6, zb9, za0, za5, fT, zf6, za8, D.imm, D.imms, za1, za3, za6, q])).trans ?_
  simp [zc1, zc9, zb5, zd7, zd8, zb6, zb9, za0, za5, fT, zf6, za8, D.imm, D.imms, za1, za3, za6, i1, i2, hm]
theorem xt8 {GH : List D -> Option (D × List D)} {C : List Int} {u : Nat} {ps : List Str} {l : Leaf} {b : Bool} {m : Int} {R : Option D} {N : D} (h : zq1 [stD C u ps, zh2 l, za7 b m] = some (.non, [N, zh2 l, za7 b m])) :
    yf1 GH zq1 [some (stD C u ps), R, some (za7 b m), some (zh2 l)] = some (.nx, [some N, R, some (za7 b m), some (zh2 l)]) := by
  have q : zx3 [zh2 l] = some (.bl false) := xb3 (.leaf l)
  have hm := yj3 (m := "set_plain") (by simp [zc1, zc9, zb5, zd7, zd8, zb6, zb9, za0, za5, fT, zf6, za8, D.imm, D.imms, za1, za3, za6, zc2, ze1]) h
  have i1 := xa7 l
  have i2 := zu0 b m
  unfold yf1
  generalize zx3 = G1 at q |-
  generalize zq1 = G2 at hm |-
  generalize stD C u ps = S at hm |-
  generalize zh2 l = d1 at *
  generalize za7 b m = d2 at *
  refine (xj8 (p' := [some S, R, some d2, some d1]) (by simp [zc1, zc9, zb5, zd7, zd8, zb6, zb9, za0, za5, fT, zf6, za8, D.imm, D.imms, za1, za3, za6, q])).trans ?_
  simp [zc1, zc9, zb5, zd7, zd8, zb6, zb9, za0, za5, fT, zf6, za8, D.imm, D.imms, za1, za3, za6, i1, i2, hm]
noncomputable def zt3 : Nat -> List D -> Option (D × List D)
  | 0 => fun _ => none
  | n + 1 => gE 3 1 (zd3 [true, false, false]) (zo5 zx3 (yf0 (zt3 n)) zq1)
noncomputable def yf2 (a l w : Nat) : Prop := a + w <= 900 /\ l + 201 * w <= 1000000
noncomputable def zr1 (a a' l l' w : Nat) : Prop := a' <= a + w /\ l' <= l + 201 * w
theorem yj5 {a l w w' : Nat} (h : yf2 a l w) (hw : w' <= w) : yf2 a l w' := by unfold yf2 at *; omega
theorem ye2 {a a' l l' w w' : Nat} (h : zr1 a a' l l' w) (hw : w <= w') : zr1 a a' l l' w' := by unfold zr1 at *; omega
theorem xp5 {a a' l l' v w : Nat} (h : yf2 a l (v + w)) (g : zr1 a a' l l' v) : yf2 a' l' w := by unfold yf2 zr1 at *; omega
theorem xe3 {a a1 a2 l l1 l2 v w : Nat} (g : zr1 a a1 l l1 v) (h : zr1 a1 a2 l1 l2 w) : zr1 a a2 l l2 (v + w) := by unfold zr1 at *; omega
theorem xp6 {m : Int} {x : Nat} (h : m + 12 * ((x + 1 : Nat) : Int) <= 200) : m + 12 * (x : Int) <= 200 := by omega
theorem yt4 {m : Int} {x y : Nat} (h : m + 12 * (y : Int) <= 200) (hx : x <= y) : m + 12 * (x : Int) <= 200 := by omega
theorem wd8 {m k : Int} {x : Nat} (h : m + 12 * ((x + 1 : Nat) : Int) <= 200) (hk : k <= 12) : m + k + 12 * (x : Int) <= 200 := by omega
theorem xt9 {ps : List Str} {w : Str} (hw : w.length <= 201) : zr1 ps.length (ps ++ [w]).length (cat ps).length (cat (ps ++ [w])).length 1 := by
  rw [ye1, zg4, List.length_append]
  unfold zr1
  show _ + 1 <= _ /\ _
  omega
noncomputable def xl4 (GR : List D -> Option (D × List D)) (r : List Pc) : Prop := ∀ (b : Bool) (m : Int) (C : List Int) (u : Nat) (ps : List Str) (cs' : List Int) (t' : Str), 0 <= m -> m + 12 * zj2 r <= 200 -> zp9 b m r (C.drop u) (cat ps) = some (cs', t') -> u <= C.length ->
  yf2 ps.length (cat ps).length (zf2 r).length ->
  ∃ u' ps', GR [stD C u ps, .tup (zc6 r), za7 b m] = some (.non, [stD C u' ps', .tup (zc6 r), za7 b m]) /\ C.drop u' = cs' /\ cat ps' = t' /\ u' <= C.length /\ zr1 ps.length ps'.length (cat ps).length (cat ps').length (zf2 r).length
theorem yw2 {C : List Int} {u : Nat} {c : Int} {cs : List Int} (h : C.drop u = c :: cs) : C[u]? = some c /\ C.drop (u + 1) = cs /\ u + 1 <= C.length := by
  have hu : u < C.length := by
    rcases Nat.lt_or_ge u C.length with h1 | h1
    . exact h1
    . rw [List.drop_eq_nil_of_le h1] at h; cases h
  rw [List.drop_eq_getElem_cons hu] at h
  cases h
  exact ⟨List.getElem?_eq_getElem hu, rfl, hu⟩
theorem yw3 : ∀ {rs : List (List Pc)} {i : Nat} {r : List Pc}, rs[i]? = some r -> zj2 r <= zu8 rs
  | [], i, _, h => by simp [zc1, zc9, zb5, zd7, zd8, zb6, zb9, za0, za5, fT, zf6, za8, D.imm, D.imms, za1, za3, za6] at h
  | q :: rs, 0, _, h => by simp [zc1, zc9, zb5, zd7, zd8, zb6, zb9, za0, za5, fT, zf6, za8, D.imm, D.imms, za1, za3, za6] at h; subst h; rw [zu8]; omega
  | q :: rs, i + 1, _, h => by have := yw3 (rs := rs) (i := i) (by simpa using h); rw [zu8]; omega
theorem xb5 : ∀ {rs : List (List Pc)} {i : Nat} {r : List Pc}, zt6 rs -> rs[i]? = some r -> okR r
  | [], i, _, _, h => by simp [zc1, zc9, zb5, zd7, zd8, zb6, zb9, za0, za5, fT, zf6, za8, D.imm, D.imms, za1, za3, za6] at h
  | q :: rs, 0, _, o, h => by simp [zc1, zc9, zb5, zd7, zd8, zb6, zb9, za0, za5, fT, zf6, za8, D.imm, D.imms, za1, za3, za6] at h; subst h; rw [zt6] at o; exact o.1
  | q :: rs, i + 1, _, o, h => by rw [zt6] at o; exact xb5 (rs := rs) (i := i) o.2 (by simpa using h)
noncomputable def yn1 (GR : List D -> Option (D × List D)) (p : Pc) (b : Bool) (m : Int) (C : List Int) (u : Nat) (ps : List Str) (cs' : List Int) (t' : Str) (R : Option D) : Prop := ∃ u' ps', yf1 (yf0 GR) zq1 [some (stD C u ps), R, some (za7 b m), some (pcD p)] = some (.nx, [some (stD C u' ps'), R, some (za7 b m), some (pcD p)]) /\ C.drop u' = cs' /\ cat ps' = t' /\ u' <= C.length /\ zr1 ps.length ps'.length (cat ps).length (cat ps').length (zn6 p).length
theorem xp7 {GR : List D -> Option (D × List D)} {p : Pc} {k : Nat} (hG : ∀ r, zj2 r < k -> okR r -> xl4 GR r) (hd : zx9 p <= k) (ho : okP p) {b : Bool} {m : Int} {C : List Int} {u : Nat} {ps : List Str} {cs' : List Int} {t' : Str} {R : Option D} (h0 : 0 <= m) (h1 : m + 12 * zx9 p <= 200)
    (h : ya1 b m p (C.drop u) (cat ps) = some (cs', t')) (hu : u <= C.length) (hp : yf2 ps.length (cat ps).length (zn6 p).length) : yn1 GR p b m C u ps cs' t' R := by
  cases p with
  | leaf l =>
    rw [ya1] at h
    cases e : wr b m (col (cat ps)) l with
    | none => rw [e] at h; cases h
    | some w =>
      rw [e] at h
      cases h
      have hl : zp1 l := ho
      have h1' : m <= 200 := by rw [zx9] at h1; omega
      obtain ⟨_, hz⟩ := xk3 hl h0 h1' e
      rw [show (zn6 (.leaf l)).length = 1 from rfl] at hp
      have q := xt6 (C := C) (u := u) hl h0 h1' e (by have := hp.1; omega) (by have := hp.2; omega)
      delta yn1
      exact ⟨u, ps ++ [w], xt8 q, rfl, ye1 ps w, hu, (show (zn6 (.leaf l)).length = 1 from rfl) ▸ xt9 hz⟩
  | group r =>
    have ho' : okR r := ho
    rw [zx9] at hd h1
    have hd' : zj2 r < k := hd
    have h1' : m + 12 * zj2 r <= 200 := xp6 h1
    have ht : (zn6 (.group r)).length = (zf2 r).length + 2 := by simp [zc1, zc9, zb5, zd7, zd8, zb6, zb9, za0, za5, fT, zf6, za8, D.imm, D.imms, za1, za3, za6, zn6]
    rw [ht] at hp
    have hp' := yj5 hp (Nat.le_add_right _ 2)
    rw [ya1.eq_def] at h
    simp only at h
    cases b with
    | false =>
      simp only [Bool.false_eq_true, if_false] at h
      obtain ⟨u', ps', q, e1, e2, e3, e4⟩ := hG r hd' ho' false m C u ps cs' t' h0 h1' h hu hp'
      delta yn1
      exact ⟨u', ps' , yj4 rfl (yj2 (i := 0) (x := (r, false, m)) rfl (by simp [zc1, zc9, zb5, zd7, zd8, zb6, zb9, za0, za5, fT, zf6, za8, D.imm, D.imms, za1, za3, za6, yr0]) rfl (.inr ⟨rfl, rfl, rfl⟩) q), e1, e2, e3, ht ▸ ye2 e4 (Nat.le_add_right _ 2)⟩
    | true =>
      cases hC : C.drop u with
      | nil => rw [hC] at h; simp [zc1, zc9, zb5, zd7, zd8, zb6, zb9, za0, za5, fT, zf6, za8, D.imm, D.imms, za1, za3, za6] at h
      | cons c cs =>
        obtain ⟨g1, g2, g3⟩ := yw2 hC
        rw [hC] at h
        simp only [if_true] at h
        have go : ∀ (i : Nat) (bb : Bool), (i : Int) = c -> (yb6 true m (.group r))[i]? = some (r, bb, m) -> zp9 bb m r cs (cat ps) = some (cs', t') -> yn1 GR (.group r) true m C u ps cs' t' R := fun i bb hi hw hs => by
          rw [<- g2] at hs
          obtain ⟨u', ps', q, e1, e2, e3, e4⟩ := hG r hd' ho' bb m C (u + 1) ps cs' t' h0 h1' hs g3 hp'
          delta yn1
          exact ⟨u', ps' , yj4 rfl (yj2 (i := i) (x := (r, bb, m)) rfl (by simp [zc1, zc9, zb5, zd7, zd8, zb6, zb9, za0, za5, fT, zf6, za8, D.imm, D.imms, za1, za3, za6, yr0]) hw (.inl ⟨rfl, by rw [hi]; exact g1, rfl⟩) q), e1, e2, e3, ht ▸ ye2 e4 (Nat.le_add_right _ 2)⟩
        by_cases c0 : c = 0
        . subst c0
          rw [if_pos rfl] at h
          exact go 0 false rfl rfl h
        . rw [if_neg c0] at h
          by_cases c1 : c = 1
          . subst c1
            rw [if_pos rfl] at h
            exact go 1 true rfl rfl h
          . rw [if_neg c1] at h; cases h
  | hang n r =>
    have ho' : (0 <= n /\ n <= 12) /\ okR r := ho
    rw [zx9] at hd h1
    have ht : (zn6 (.hang n r)).length = (zf2 r).length + 2 := by simp [zc1, zc9, zb5, zd7, zd8, zb6, zb9, za0, za5, fT, zf6, za8, D.imm, D.imms, za1, za3, za6, zn6]
    rw [ht] at hp
    rw [ya1] at h
    obtain ⟨u', ps', q, e1, e2, e3, e4⟩ := hG r hd ho'.2 b (m + n) C u ps cs' t' (Int.add_nonneg h0 ho'.1.1) (wd8 h1 ho'.1.2) h hu (yj5 hp (Nat.le_add_right _ 2))
    delta yn1
    exact ⟨u', ps' , yj4 rfl (yj2 (i := 0) (x := (r, b, m + n)) rfl (by simp [zc1, zc9, zb5, zd7, zd8, zb6, zb9, za0, za5, fT, zf6, za8, D.imm, D.imms, za1, za3, za6, yr0]) rfl (.inr ⟨rfl, rfl, rfl⟩) q), e1, e2, e3, ht ▸ ye2 e4 (Nat.le_add_right _ 2)⟩
  | either rs =>
    have ho' : (2 <= rs.length /\ rs.length <= 4) /\ zt6 rs := ho
    rw [ya1.eq_def] at h
    simp only at h
    cases hC : C.drop u with
    | nil => rw [hC] at h; cases h
    | cons c cs =>
      obtain ⟨g1, g2, g3⟩ := yw2 hC
      rw [hC] at h
      simp only at h
      by_cases c0 : 0 <= c
      . rw [if_pos c0] at h
        cases hr : rs[c.toNat]? with
        | none => rw [yq2 hr] at h; cases h
        | some r =>
          rw [yw0 hr, <- g2] at h
          have hdr := yw3 hr
          have hor := xb5 ho'.2 hr
          have htr := xe2 (List.mem_of_getElem? hr)
          have ht : (zn6 (.either rs)).length = (yn0 rs).length + 2 := by simp [zc1, zc9, zb5, zd7, zd8, zb6, zb9, za0, za5, fT, zf6, za8, D.imm, D.imms, za1, za3, za6, zn6]
          rw [zx9] at hd h1
          rw [ht] at hp
          obtain ⟨u', ps', q, e1, e2, e3, e4⟩ := hG r (Nat.lt_of_le_of_lt hdr hd) hor b m C (u + 1) ps cs' t' h0 (yt4 (xp6 h1) hdr) h g3 (yj5 hp (Nat.le_trans htr (Nat.le_add_right _ 2)))
          delta yn1
          refine ⟨u', ps' , yj4 rfl (yj2 (i := c.toNat) (x := (r, b, m)) rfl (Nat.le_trans ho'.1.2 (by decide)) (by show (rs.map _)[c.toNat]? = _; rw [List.getElem?_map, hr]; rfl) (.inl ⟨rfl, by rw [Int.toNat_of_nonneg c0]; exact g1, rfl⟩) q), e1, e2, e3, ht ▸ ye2 e4 (Nat.le_trans htr (Nat.le_add_right _ 2))⟩
      . rw [if_neg c0] at h; cases h
theorem xb6 {GR : List D -> Option (D × List D)} {k : Nat} (hG : ∀ r, zj2 r < k -> okR r -> xl4 GR r) {b : Bool} {m : Int} {C : List Int} {R : Option D} (h0 : 0 <= m) : ∀ (r : List Pc) (u : Nat) (ps : List Str) (cs' : List Int) (t' : Str) (x : Option D), zj2 r <= k -> okR r -> m + 12 * zj2 r <= 200 ->
    zp9 b m r (C.drop u) (cat ps) = some (cs', t') -> u <= C.length -> yf2 ps.length (cat ps).length (zf2 r).length ->
    ∃ u' ps' y, zn1 3 (yf1 (yf0 GR) zq1) (zc6 r) [some (stD C u ps), R, some (za7 b m), x] = some (.nx, [some (stD C u' ps'), R, some (za7 b m), y]) /\ C.drop u' = cs' /\ cat ps' = t' /\ u' <= C.length /\ zr1 ps.length ps'.length (cat ps).length (cat ps').length (zf2 r).length
  | [], u, ps, cs', t', x, _, _, _, h, hu, _ => by
    rw [zp9] at h; cases h
    exact ⟨u, ps, x, rfl, rfl, rfl, hu, ⟨Nat.le_refl _, Nat.le_refl _⟩⟩
  | p :: r, u, ps, cs', t', x, hd, ho, h1, h, hu, hp => by
    rw [okR] at ho
    rw [zj2] at hd h1
    have ht : (zf2 (p :: r)).length = (zn6 p).length + (zf2 r).length := by rw [zf2, List.length_append]
    rw [ht] at hp |-
    rw [zp9] at h
    cases e : ya1 b m p (C.drop u) (cat ps) with
    | none => rw [e] at h; cases h
    | some s =>
      obtain ⟨c1, t1⟩ := s
      rw [e] at h
      obtain ⟨u1, ps1, q1, a1, a2, a3, a4⟩ := xp7 (R := R) hG (Nat.le_trans (Nat.le_max_left _ _) hd) ho.1 h0 (yt4 h1 (Nat.le_max_left _ _)) e hu (yj5 hp (Nat.le_add_right _ _))
      have h' : zp9 b m r (C.drop u1) (cat ps1) = some (cs', t') := by rw [a1, a2]; exact h
      obtain ⟨u2, ps2, y, q2, b1, b2, b3, b4⟩ := xb6 hG h0 r u1 ps1 cs' t' (some (pcD p)) (Nat.le_trans (Nat.le_max_right _ _) hd) ho.2 (yt4 h1 (Nat.le_max_right _ _)) h' a3 (xp5 hp a4)
      refine ⟨u2, ps2, y, ?_, b1, b2, b3, xe3 a4 b4⟩
      show zn1 3 _ (pcD p :: zc6 r) _ = _
      rw [zn1]
      show ((yf1 (yf0 GR) zq1 [some (stD C u ps), R, some (za7 b m), some (pcD p)]).bind _) = _
      rw [q1]; exact q2
theorem yt5 : ∀ (n : Nat) (r : List Pc), zj2 r < n -> okR r -> xl4 (zt3 n) r
  | 0, _, h, _ => absurd h (Nat.not_lt_zero _)
  | n + 1, r, hd, ho => fun b m C u ps cs' t' h0 h1 h hu hp => by
    obtain ⟨u', ps', y, q, e1, e2, e3, e4⟩ := xb6 (GR := zt3 n) (k := n) (R := some (.tup (zc6 r))) (fun s hs hk => yt5 n s hs hk) h0 r u ps cs' t' none (Nat.le_of_lt_succ hd) ho h1 h hu hp
    refine ⟨u', ps', ?_, e1, e2, e3, e4⟩
    show gE 3 1 _ (zo5 zx3 (yf0 (zt3 n)) zq1) _ = _
    unfold gE
    refine (if_pos rfl).trans ?_
    have z : zo5 zx3 (yf0 (zt3 n)) zq1 ([stD C u ps, .tup (zc6 r), za7 b m].map some ++ List.replicate 1 none) = some (.nx, [some (stD C u' ps'), some (.tup (zc6 r)), some (za7 b m), y]) := q
    rw [z]; rfl
noncomputable abbrev yr2 : List D -> Option D := gP 1 0 zp8
theorem xb7 : ∀ ps : List Str, (Str.join "" ps) = cat ps
  | [] => by decide +kernel
  | [x] => by show x = x ++ (⟨#[]⟩ : Str); rw [yj1]
  | x :: y :: r => by
    have ih := xb7 (y :: r)
    show (x ++ ("" : Str)) ++ Str.join "" (y :: r) = x ++ cat (y :: r)
    rw [ih, show ("" : Str) = ⟨#[]⟩ from by decide +kernel, yj1]
theorem xg6 : ∀ ps : List Str, (ps.map (·.length)).sum = (cat ps).length
  | [] => rfl
  | x :: ps => by rw [List.map_cons, List.sum_cons, xg6 ps]; show _ = (x ++ cat ps).length; rw [zg4]
theorem yc5 : ∀ ps : List Str, D.strs (zc4 ps) = some ps
  | [] => rfl
  | x :: ps => by show D.strs (.str x :: zc4 ps) = _; rw [D.strs, yc5 ps]; rfl
theorem xu0 {C : List Int} {u : Nat} {ps : List Str} (hu : C.length <= u) (hp : ps.length <= 1000) (hc : (cat ps).length <= 1000000) : yr2 [stD C u ps] = some (.str (cat ps)) := by
  have hl : (zf8 C).length = C.length := List.length_map _
  have g : ¬ ((u : Int) < (C.length : Int)) := by omega
  have e : zw6 (.str "") [.lst true (zc4 ps)] = some (.str (cat ps)) := by
    rw [zw6, yc5, Option.bind_some, if_pos]
    . rw [show Txt.join ("" : Str) ps = Str.join "" ps from StrLaws.glued_eq_join _ _, xb7]
    . rw [xg6]
      exact ⟨by decide +kernel, by omega⟩
  unfold stD
  simp [zc1, zc9, zb5, zd7, zd8, zb6, zb9, za0, za5, fT, zf6, za8, D.imm, D.imms, za1, za3, za6, gP, zp8, zb8, fIf, fB, f2, zf1, zn8, zc2, ze1, dLt, zg7, hl, g, dB, zd0, ze6, fMt, fC, e, xl2]
noncomputable abbrev ya4 : List D -> Option (D × List D) := gE 2 0 (zd3 [true, false]) zw3
theorem xp8 (C : List Int) : ya4 [.obj true "Setter" [] [], .tup (zf8 C)] = some (.non, [stD C 0 [], .tup (zf8 C)]) := by
  have hi := yb0 C
  have e : stD C 0 [] = .obj true "Setter" nsS [.tup (zf8 C), .int 0, .int 0, .lst true []] := rfl
  rw [e]
  simp [zc1, zc9, zb5, zd7, zd8, zb6, zb9, za0, za5, fT, zf6, za8, D.imm, D.imms, za1, za3, za6, gE, zw3, zb8, ze8, zh5, zc2, ze1, hi, fC, zs5, zm6, zd3]
noncomputable abbrev yh9 (n : Nat) : List D -> Option D := gP 2 1 (yc0 ya4 (zt3 n) ya2 yr2)
theorem xp9 {n : Nat} {r : List Pc} {C : List Int} {t : Str} (hd : zj2 r < n) (h8 : zj2 r <= 16) (ho : okR r) (hl : (zf2 r).length <= 800) (h : zp9 true 0 r C ⟨#[]⟩ = some ([], t)) : yh9 n [.tup (zc6 r), .tup (zf8 C)] = some (.str t) := by
  obtain ⟨u', ps', q, e1, e2, e3, e4, e5⟩ := yt5 n r hd ho true 0 C 0 [] [] t (Int.le_refl _) (by omega) h (Nat.zero_le _) ⟨by show 0 + _ <= _; omega, by show 0 + _ <= _; omega⟩
  have e5' : (cat ps').length <= 0 + 201 * (zf2 r).length := e5
  have e4' : ps'.length <= 0 + (zf2 r).length := e4
  have hu : C.length <= u' := by
    have := congrArg List.length e1
    rw [List.length_drop] at this
    simp [zc1, zc9, zb5, zd7, zd8, zb6, zb9, za0, za5, fT, zf6, za8, D.imm, D.imms, za1, za3, za6] at this; omega
  have w := xu0 (C := C) (ps := ps') hu (by omega) (by omega)
  rw [e2] at w
  have i := xp8 C
  have f := xb4
  have hm := yj3 (m := "set_row") (by simp [zc1, zc9, zb5, zd7, zd8, zb6, zb9, za0, za5, fT, zf6, za8, D.imm, D.imms, za1, za3, za6, zc2, ze1]) q
  have p1 := zm2 r
  have p2 := yb0 C
  have p3 := zu0 true 0
  have w' : zi2 "Setter" "whole_text" (za0 2) [some (.tup (zc6 r)), some (.tup (zf8 C)), some (stD C u' ps')] = some (stD C u' ps') := by
    unfold stD
    simp [zc1, zc9, zb5, zd7, zd8, zb6, zb9, za0, za5, fT, zf6, za8, D.imm, D.imms, za1, za3, za6, zi2, zc2, ze1]
  show gP 2 1 (yc0 ya4 (zt3 n) ya2 yr2) _ = _
  generalize ya4 = G1 at i |-
  generalize zt3 n = G2 at hm |-
  generalize ya2 = G3 at f |-
  generalize yr2 = G4 at w |-
  generalize stD C u' ps' = S1 at *
  generalize stD C 0 [] = S0 at *
  generalize za7 true 0 = pl at *
  have s1 : zc8 2 (za5 (zg2 "Setter" (zb6 [.im (za0 1)]) G1)) [some (.tup (zc6 r)), some (.tup (zf8 C)), none] = some (.nx, [some (.tup (zc6 r)), some (.tup (zf8 C)), some S0]) := by
    refine zi1 ?_
    simp [zc1, zc9, zb5, zd7, zd8, zb6, zb9, za0, za5, fT, zf6, za8, D.imm, D.imms, za1, za3, za6, zg2, p2, i]
  have s2 : zc1 (zc9 2 zb5 (zb6 [.im (za0 0), .im (za6 G3 za3)]) (zj5 "Setter" "set_row" G2)) [some (.tup (zc6 r)), some (.tup (zf8 C)), some S0] = some (.nx, [some (.tup (zc6 r)), some (.tup (zf8 C)), some S1]) := by
    simp [zc1, zc9, zb5, zd7, zd8, zb6, zb9, za0, za5, fT, zf6, za8, D.imm, D.imms, za1, za3, za6, p1, p3, f, hm]
  exact zq0 rfl ((za9 s1).trans ((za9 s2).trans (zg8 (zg6 (zb7 w' rfl) w))))
end My
namespace My
open PySem PySem.Spec PyProof.Rows L2 L3
theorem xb8 {c : Nat} : ∀ ys : List Str, ys ≠ [] -> (Str.join ⟨#[c]⟩ ys).length + 1 = (ys.map (·.length)).sum + ys.length
  | [], h => absurd rfl h
  | [x], _ => by show x.length + 1 = _; simp
  | x :: y :: r, _ => by
    have e := xb8 (c := c) (y :: r) (by simp)
    have j := congrArg List.length (zm4 (c := c) x y r)
    rw [List.length_append, List.length_cons, <- zr3, <- zr3, <- zr3] at j
    rw [List.map_cons, List.sum_cons, List.length_cons, j]
    omega
end My
namespace My
open PySem PySem.Spec PyProof.Rows L2 L3
mutual
noncomputable def hgP : Pc -> Prop
  | .leaf _ => True
  | .hang _ r => hgR r
  | _ => False
noncomputable def hgR : List Pc -> Prop
  | [] => True
  | p :: r => hgP p /\ hgR r
end
mutual
noncomputable def xl5 (m : Int) : Pc -> List (Leaf × Int)
  | .leaf l => [(l, m)]
  | .hang n r => zs4 (m + n) r
  | _ => []
noncomputable def zs4 (m : Int) : List Pc -> List (Leaf × Int)
  | [] => []
  | p :: r => xl5 m p ++ zs4 m r
end
noncomputable def wrT (m : Int) (k : Nat) : Leaf -> Str
  | .word x => x
  | .gap _ => nlw m
  | .stop c => if (k : Int) <= c then Txt.mul " " (c - k) else nlw c
  | .fin => nlw m
theorem xq0 (m : Int) (k : Nat) (l : Leaf) : wr true m k l = some (wrT m k l) := by
  cases l with
  | stop c =>
    show (if (k : Int) <= c then some (Txt.mul " " (c - k)) else some (nlw c)) = some (if (k : Int) <= c then Txt.mul " " (c - k) else nlw c)
    split <;> rfl
  | _ => rfl
noncomputable def zt7 : List (Leaf × Int) -> Str -> Str
  | [], t => t
  | (l, m) :: fs, t => zt7 fs (t ++ wrT m (col t) l)
theorem xb9 : ∀ (a b : List (Leaf × Int)) (t : Str), zt7 (a ++ b) t = zt7 b (zt7 a t)
  | [], _, _ => rfl
  | (l, m) :: a, b, t => by rw [List.cons_append, zt7, xb9 a b]; rfl
mutual
theorem xz3 : ∀ {p : Pc} {m : Int} {cs : List Int} {t : Str}, hgP p -> ya1 true m p cs t = some (cs, zt7 (xl5 m p) t)
  | .leaf l, m, cs, t, _ => by rw [ya1, xq0]; rfl
  | .hang n r, m, cs, t, h => by rw [ya1, xl5]; exact yt6 h
  | .group r, _, _, _, h => h.elim
  | .either rs, _, _, _, h => h.elim
theorem yt6 : ∀ {r : List Pc} {m : Int} {cs : List Int} {t : Str}, hgR r -> zp9 true m r cs t = some (cs, zt7 (zs4 m r) t)
  | [], m, cs, t, _ => by rw [zp9]; rfl
  | p :: r, m, cs, t, h => by
    have h1 : ya1 true m p cs t = _ := xz3 h.1
    rw [zp9, h1, Option.bind_some, yt6 h.2, zs4, xb9]
end
theorem yw4 : ∀ (ls : List Str) (x y : Str), (Str.join ⟨#[10]⟩ (ls ++ [x] ++ [y])) = Str.join ⟨#[10]⟩ (ls ++ [x]) ++ ((⟨#[10]⟩ : Str) ++ y)
  | [], x, y => by
    refine zm5 ?_
    show (Str.join ⟨#[10]⟩ [x, y]).cps.toList = _
    rw [zm4, zc7, zc7]; rfl
  | [l], x, y => by
    refine zm5 ?_
    show (Str.join ⟨#[10]⟩ [l, x, y]).cps.toList = (Str.join ⟨#[10]⟩ [l, x] ++ ((⟨#[10]⟩ : Str) ++ y)).cps.toList
    rw [zm4, zm4, zc7, zc7, zm4]
    show l.cps.toList ++ 10 :: (x.cps.toList ++ 10 :: y.cps.toList) = (l.cps.toList ++ 10 :: x.cps.toList) ++ ([10] ++ y.cps.toList)
    simp
  | l :: l' :: ls, x, y => by
    have ih := yw4 (l' :: ls) x y
    refine zm5 ?_
    show (Str.join ⟨#[10]⟩ (l :: l' :: (ls ++ [x] ++ [y]))).cps.toList = (Str.join ⟨#[10]⟩ (l :: l' :: (ls ++ [x])) ++ ((⟨#[10]⟩ : Str) ++ y)).cps.toList
    rw [zm4, zc7, zm4]
    have ih' : (Str.join ⟨#[10]⟩ (l' :: (ls ++ [x] ++ [y]))).cps.toList = (Str.join ⟨#[10]⟩ (l' :: (ls ++ [x])) ++ ((⟨#[10]⟩ : Str) ++ y)).cps.toList := congrArg (fun z => z.cps.toList) ih
    rw [ih', zc7]
    simp
theorem zz7 : ∀ (ls : List Str) (x w : Str), Str.join ⟨#[10]⟩ (ls ++ [x ++ w]) = Str.join ⟨#[10]⟩ (ls ++ [x]) ++ w
  | [], x, w => rfl
  | [l], x, w => by
    refine zm5 ?_
    show (Str.join ⟨#[10]⟩ [l, x ++ w]).cps.toList = (Str.join ⟨#[10]⟩ [l, x] ++ w).cps.toList
    rw [zm4, zc7, zm4]
    show l.cps.toList ++ 10 :: (x ++ w).cps.toList = (l.cps.toList ++ 10 :: x.cps.toList) ++ w.cps.toList
    rw [zc7]; simp
  | l :: l' :: ls, x, w => by
    have ih := zz7 (l' :: ls) x w
    refine zm5 ?_
    show (Str.join ⟨#[10]⟩ (l :: l' :: (ls ++ [x ++ w]))).cps.toList = (Str.join ⟨#[10]⟩ (l :: l' :: (ls ++ [x])) ++ w).cps.toList
    rw [zm4, zc7, zm4]
    have ih' : (Str.join ⟨#[10]⟩ (l' :: (ls ++ [x ++ w]))).cps.toList = (Str.join ⟨#[10]⟩ (l' :: (ls ++ [x])) ++ w).cps.toList := congrArg (fun z => z.cps.toList) ih
    rw [ih', zc7]
    simp
end My
namespace My
open PySem PySem.Spec PyProof.Rows L2 L3
noncomputable abbrev dIf (w : String) (F : PSt -> Option (Fl × PSt)) : PSt -> Option (Fl × PSt) := fIf (za8 (kdT 2 w)) F zd0
noncomputable abbrev yf3 : PSt -> Option D := f2 dIx (za0 1) (zv9 (fC (.int 1)))
noncomputable def xd5 : PSt -> Option (Fl × PSt) := zx2 1 zb5 (zv9 (fC (.int 1))) (f2 zf0 yf3 (fC (.str " ")))
noncomputable def xd6 : PSt -> Option Bool := fB (f2 dLt (za6 zg7 (za1 yf3 za3)) (f2 dIx (za0 2) (fC (.int 1))))
noncomputable def yk3 : PSt -> Option (Fl × PSt) :=
  zb8 (dIf "word" (zx2 1 zb5 (zv9 (fC (.int 1))) (f2 zf0 yf3 (f2 dIx (za0 2) (fC (.int 1))))))
  (zb8 (fIf (za8 (zi9 (kdT 2 "gap") (kdT 2 "end"))) (zc1 (zc9 1 zb5 (za1 (fC (.str "")) za3) ze3)) zd0)
  (dIf "stop" (zb8 (fIf (za8 (fB (f2 dGt (za6 zg7 (za1 yf3 za3)) (f2 dIx (za0 2) (fC (.int 1)))))) (zc1 (zc9 1 zb5 (za1 (fC (.str "")) za3) ze3)) zd0)
    (zp0 (za8 xd6) xd5 400))))
section
variable {A x2 : Option D} {ls : List Str} {x : Str}
theorem zy4 (ls : List Str) (x : Str) : zc4 (ls ++ [x]) = zc4 ls ++ [.str x] := yv8 ls [x]
theorem yc9 : yf3 [A, some (.lst true (zc4 (ls ++ [x]))), x2] = some (.str x) := by
  refine zc5 rfl rfl ?_
  rw [zy4]
  show atI (zc4 ls ++ [.str x]) (-1) = _
  unfold atI
  rw [List.length_append, List.length_singleton, xa9, Option.bind_some]
  simp
theorem yq3 {fe : PSt -> Option D} {y : Str} (h : fe [A, some (.lst true (zc4 (ls ++ [x]))), x2] = some (.str y)) : zx2 1 zb5 (zv9 (fC (.int 1))) fe [A, some (.lst true (zc4 (ls ++ [x]))), x2] = some (.nx, [A, some (.lst true (zc4 (ls ++ [y]))), x2]) := by
  have e : ixN (zc4 (ls ++ [x])).length (-1) = some ls.length := by rw [ya9, List.length_append, List.length_singleton, xa9]
  have e2 : (zc4 (ls ++ [x])).set ls.length (.str y) = zc4 (ls ++ [y]) := by
    rw [zy4, zy4]
    have := xt3 (zc4 ls) (D.str x) (.str y)
    rwa [ya9] at this
  unfold zx2
  rw [h, Option.bind_some]
  show ((some (.lst true (zc4 (ls ++ [x]))) : Option D).bind _) = _
  rw [Option.bind_some]
  show (some []).bind _ = _
  rw [Option.bind_some]
  show (some (D.int (-1))).bind _ = _
  rw [Option.bind_some]
  show ((yh5 (.int (-1)) (.str y) (.lst true (zc4 (ls ++ [x])))).bind _) = _
  unfold yh5
  simp only
  rw [e]
  simp only [Option.bind_some]
  rw [e2]; rfl
theorem xk6 {fe : PSt -> Option D} {y : Str} (h : fe [A, some (.lst true (zc4 (ls ++ [x]))), x2] = some (.str y)) (hl : ls.length <= 900) : zc1 (zc9 1 zb5 (za1 fe za3) ze3) [A, some (.lst true (zc4 (ls ++ [x]))), x2] = some (.nx, [A, some (.lst true (zc4 (ls ++ [x] ++ [y]))), x2]) := by
  have hz : (zc4 (ls ++ [x])).length < sizeLine := by rw [ya9, List.length_append, List.length_singleton]; exact sz1 (by omega)
  refine xb0 (d := .non) ?_
  unfold zc9
  show ((some (.lst true (zc4 (ls ++ [x]))) : Option D).bind _) = _
  rw [Option.bind_some]
  show (some []).bind _ = _
  rw [Option.bind_some, zb7 h (show za3 _ = some [] from rfl), Option.bind_some]
  show ((ze3 [.str y] (.lst true (zc4 (ls ++ [x])))).bind _) = _
  rw [show ze3 [.str y] (.lst true (zc4 (ls ++ [x]))) = some (.non, .lst true (zc4 (ls ++ [x]) ++ [.str y])) from if_pos hz, <- zy4]; rfl
end
theorem xc0 {A : Option D} {ls : List Str} {c : Int} (hc : 0 <= c /\ c <= 40) : ∀ (n : Nat) (x : Str) (m : Nat), (c - (x.length : Int)).toNat = n -> x.length <= 900000 -> n < m ->
    zp0 (za8 xd6) xd5 m [A, some (.lst true (zc4 (ls ++ [x]))), some (zh2 (.stop c))] = some (.nx, [A, some (.lst true (zc4 (ls ++ [x ++ Txt.mul " " (c - (x.length : Int))]))), some (zh2 (.stop c))])
  | _, _, 0, _, _, h => absurd h (Nat.not_lt_zero _)
  | 0, x, m + 1, hn, hx, _ => by
    have hs : sizeLine = 16777216 := sizeLine_eq
    have t0 : xd6 [A, some (.lst true (zc4 (ls ++ [x]))), some (zh2 (.stop c))] = some (decide ((x.length : Int) < c)) := zt1 (zc5 (x := .int (x.length : Int)) (zg6 (zb7 yc9 rfl) (if_pos (by omega))) (zc5 rfl rfl (zj8 _ _ _)) rfl)
    rw [decide_eq_false (by omega)] at t0
    have e : Txt.mul " " (c - (x.length : Int)) = ⟨#[]⟩ := zm5 (by rw [zz6, hn]; rfl)
    rw [e, yj1, zp0, ye0 t0]; rfl
  | n + 1, x, m + 1, hn, hx, hm => by
    have hs : sizeLine = 16777216 := sizeLine_eq
    have t0 : xd6 [A, some (.lst true (zc4 (ls ++ [x]))), some (zh2 (.stop c))] = some (decide ((x.length : Int) < c)) := zt1 (zc5 (x := .int (x.length : Int)) (zg6 (zb7 yc9 rfl) (if_pos (by omega))) (zc5 rfl rfl (zj8 _ _ _)) rfl)
    rw [decide_eq_true (by omega)] at t0
    have hb : (" " : Str).length = 1 := rfl
    have a : zf0 (.str x) (.str " ") = some (.str (x ++ " ")) := by rw [zf0, if_pos]; omega
    have hl : (x ++ (" " : Str)).length = x.length + 1 := zg4 _ _
    have s : xd5 [A, some (.lst true (zc4 (ls ++ [x]))), some (zh2 (.stop c))] = some (.nx, [A, some (.lst true (zc4 (ls ++ [x ++ " "]))), some (zh2 (.stop c))]) := yq3 (zc5 yc9 rfl a)
    have ih := xc0 (A := A) (ls := ls) hc n (x ++ " ") m (by rw [hl]; omega) (by omega) (by omega)
    have e : x ++ Txt.mul " " (c - (x.length : Int)) = (x ++ " ") ++ Txt.mul " " (c - ((x ++ (" " : Str)).length : Int)) := by
      refine zm5 ?_
      simp only [zc7, zz6]
      rw [hl, show (c - (x.length : Int)).toNat = (c - ((x.length + 1 : Nat) : Int)).toNat + 1 by omega, xk2, List.replicate_succ]
      simp
    rw [e, zp0, ye0 t0, Option.bind_some]
    show ((xd5 [A, some (.lst true (zc4 (ls ++ [x]))), some (zh2 (.stop c))]).bind _) = _
    rw [s]; exact ih
theorem xz4 {A : Option D} {ls : List Str} {x : Str} {l : Leaf} (hl : zp1 l) (hn : ls.length <= 900) (hx : x.length <= 900000) (hc : col (Str.join ⟨#[10]⟩ (ls ++ [x])) = x.length) :
    ∃ ls' x', yk3 [A, some (.lst true (zc4 (ls ++ [x]))), some (zh2 l)] = some (.nx, [A, some (.lst true (zc4 (ls' ++ [x']))), some (zh2 l)]) /\ Str.join ⟨#[10]⟩ (ls' ++ [x']) = Str.join ⟨#[10]⟩ (ls ++ [x]) ++ wrT 0 (col (Str.join ⟨#[10]⟩ (ls ++ [x]))) l /\
      col (Str.join ⟨#[10]⟩ (ls' ++ [x'])) = x'.length /\ ls'.length <= ls.length + 1 /\ x'.length <= x.length + 201 := by
  have hs : sizeLine = 16777216 := sizeLine_eq
  have nlx : ∀ c : Int, Str.join ⟨#[10]⟩ (ls ++ [x] ++ [Txt.mul " " c]) = Str.join ⟨#[10]⟩ (ls ++ [x]) ++ nlw c := fun c => yw4 ls x _
  have nlc : ∀ c : Int, col (Str.join ⟨#[10]⟩ (ls ++ [x] ++ [Txt.mul " " c])) = (Txt.mul " " c).length := fun c => by rw [nlx]; exact xp2 (yq1 c)
  have lsl : (ls ++ [x]).length = ls.length + 1 := by simp
  have e0 : Txt.mul " " 0 = ⟨#[]⟩ := zm5 (by rw [zz6]; rfl)
  have nw : ∀ {x2 : Option D}, zc1 (zc9 1 zb5 (za1 (fC (.str "")) za3) ze3) [A, some (.lst true (zc4 (ls ++ [x]))), x2] = some (.nx, [A, some (.lst true (zc4 (ls ++ [x] ++ [⟨#[]⟩]))), x2]) := xk6 (y := ⟨#[]⟩) (by rw [xb2]; rfl) hn
  cases l with
  | word y =>
    have hy : y.length <= 12 := hl.2.1
    refine ⟨ls, x ++ y, ?_, zz7 ls x y, by rw [zz7, yt1 (xg4 hl), hc, zg4], by omega, by rw [zg4]; omega⟩
    have a : zf0 (.str x) (.str y) = some (.str (x ++ y)) := by rw [zf0, if_pos]; omega
    exact (za9 ((zh6 (zm3 rfl (by decide))).trans (yq3 (zc5 yc9 (zc5 rfl rfl (zj8 _ _ _)) a)))).trans ((za9 (zc3 (yp9 (zm3 rfl (by decide)) (zm3 rfl (by decide))))).trans (zc3 (zm3 rfl (by decide))))
  | gap y =>
    refine ⟨ls ++ [x], Txt.mul " " 0, ?_, nlx 0, nlc 0, by omega, by rw [zv7]; omega⟩
    rw [e0]
    exact (za9 (zc3 (zm3 rfl (by decide)))).trans ((za9 ((zh6 (wg7 (zm3 rfl (by decide)))).trans nw)).trans (zc3 (zm3 rfl (by decide))))
  | fin =>
    refine ⟨ls ++ [x], Txt.mul " " 0, ?_, nlx 0, nlc 0, by omega, by rw [zv7]; omega⟩
    rw [e0]
    exact (za9 (zc3 (zm3 rfl (by decide)))).trans ((za9 ((zh6 (yp9 (zm3 rfl (by decide)) (zm3 rfl (by decide)))).trans nw)).trans (zc3 (zm3 rfl (by decide))))
  | stop c =>
    have hcc : 0 <= c /\ c <= 40 := hl
    have ln : fB (f2 dGt (za6 zg7 (za1 yf3 za3)) (f2 dIx (za0 2) (fC (.int 1)))) [A, some (.lst true (zc4 (ls ++ [x]))), some (zh2 (.stop c))] = some (decide (c < (x.length : Int))) := zt1 (zc5 (x := .int (x.length : Int)) (zg6 (zb7 yc9 rfl) (if_pos (by omega))) (zc5 rfl rfl (zj8 _ _ _)) rfl)
    have pre : ∀ {F Z}, zb8 F (zp0 (za8 xd6) xd5 400) [A, some (.lst true (zc4 (ls ++ [x]))), some (zh2 (.stop c))] = Z -> F = fIf (za8 (fB (f2 dGt (za6 zg7 (za1 yf3 za3)) (f2 dIx (za0 2) (fC (.int 1)))))) (zc1 (zc9 1 zb5 (za1 (fC (.str "")) za3) ze3)) zd0 -> yk3 [A, some (.lst true (zc4 (ls ++ [x]))), some (zh2 (.stop c))] = Z := fun h hF => by
      subst hF
      exact (za9 (zc3 (zm3 rfl (by decide)))).trans ((za9 (zc3 (yp9 (zm3 rfl (by decide)) (zm3 rfl (by decide))))).trans ((zh6 (zm3 rfl (by decide))).trans h))
    by_cases hk : (x.length : Int) <= c
    . rw [decide_eq_false (by omega)] at ln
      refine ⟨ls, x ++ Txt.mul " " (c - (x.length : Int)), pre ((za9 (zc3 ln)).trans (xc0 hcc _ x 400 rfl hx (by omega))) rfl, ?_, by rw [zz7, yt1 (yq1 _), hc, zg4], by omega, by rw [zg4, zv7]; omega⟩
      rw [zz7, hc]
      show _ = _ ++ (if (x.length : Int) <= c then _ else _)
      rw [if_pos hk]
    . rw [decide_eq_true (by omega)] at ln
      have l0 : (⟨#[]⟩ : Str).length = 0 := rfl
      have q := xc0 (A := A) (ls := ls ++ [x]) hcc _ ⟨#[]⟩ 400 rfl (by rw [l0]; omega) (by rw [l0]; omega)
      rw [xg5, l0, show c - ((0 : Nat) : Int) = c by omega] at q
      refine ⟨ls ++ [x], Txt.mul " " c, pre ((za9 ((zh6 ln).trans nw)).trans q) rfl, ?_, nlc c, by omega, by rw [zv7]; omega⟩
      rw [nlx, hc]
      show _ = _ ++ (if (x.length : Int) <= c then _ else _)
      rw [if_neg hk]
noncomputable def lvR (fs : List Leaf) : List Pc := fs.map .leaf
theorem xc1 {A : Option D} : ∀ (fs : List Leaf) (ls : List Str) (x : Str) (x2 : Option D), (∀ f ∈ fs, zp1 f) -> ls.length + fs.length <= 900 -> x.length + 201 * fs.length <= 900000 -> col (Str.join ⟨#[10]⟩ (ls ++ [x])) = x.length ->
    ∃ ls' x' y2, zn1 2 yk3 (zc6 (lvR fs)) [A, some (.lst true (zc4 (ls ++ [x]))), x2] = some (.nx, [A, some (.lst true (zc4 (ls' ++ [x']))), y2]) /\ Str.join ⟨#[10]⟩ (ls' ++ [x']) = zt7 (zs4 0 (lvR fs)) (Str.join ⟨#[10]⟩ (ls ++ [x]))
  | [], ls, x, x2, _, _, _, _ => ⟨ls, x, x2, rfl, rfl⟩
  | l :: fs, ls, x, x2, hf, hn, hx, hc => by
    have h1 := hf l List.mem_cons_self
    rw [List.length_cons] at hn hx
    obtain ⟨ls1, x1, q, e1, e2, e3, e4⟩ := xz4 (A := A) (l := l) h1 (by omega) (by omega) hc
    obtain ⟨ls2, x2', y2, q2, e5⟩ := xc1 (A := A) fs ls1 x1 (some (zh2 l)) (fun f h => hf f (List.mem_cons_of_mem _ h)) (by omega) (by omega) e2
    refine ⟨ls2, x2', y2, ?_, by rw [e5, e1]; rfl⟩
    show zn1 2 yk3 (zh2 l :: zc6 (lvR fs)) _ = _
    rw [zn1]
    show ((yk3 [A, some (.lst true (zc4 (ls ++ [x]))), some (zh2 l)]).bind _) = _
    rw [q]; exact q2
theorem xc2 : ∀ (fs : List (Leaf × Int)) (t : Str), (∀ f ∈ fs, zp1 f.1 /\ 0 <= f.2 /\ f.2 <= 200) -> (zt7 fs t).length <= t.length + 201 * fs.length
  | [], t, _ => Nat.le_refl _
  | (l, m) :: fs, t, hf => by
    obtain ⟨h1, h2, h3⟩ := hf (l, m) List.mem_cons_self
    have w := (xk3 h1 h2 h3 (xq0 m (col t) l)).2
    have ih := xc2 fs (t ++ wrT m (col t) l) fun f h => hf f (List.mem_cons_of_mem _ h)
    rw [zg4] at ih
    rw [zt7, List.length_cons]
    omega
noncomputable abbrev xl6 : List D -> Option D := gP 1 2 xd3
theorem wd9 (l : List Str) : D.strs (zc4 l) = some l := by
  induction l with
  | nil => rfl
  | cons a l ih => show D.strs (.str a :: zc4 l) = _; rw [D.strs, ih]; rfl
theorem yj6 : ∀ fs : List Leaf, zs4 0 (lvR fs) = fs.map fun l => (l, 0)
  | [] => rfl
  | l :: fs => by show [(l, 0)] ++ zs4 0 (lvR fs) = _; rw [yj6 fs]; rfl
theorem we0 {fs : List Leaf} (hf : ∀ f ∈ fs, zp1 f) (hn : fs.length <= 300) : xl6 [.tup (zc6 (lvR fs))] = some (.str (zt7 (zs4 0 (lvR fs)) ⟨#[]⟩)) := by
  obtain ⟨ls, x, y2, q, e⟩ := xc1 (A := some (.tup (zc6 (lvR fs)))) fs [] ⟨#[]⟩ none hf (by show 0 + _ <= _; omega) (by show 0 + _ <= _; omega) rfl
  have e' : Str.join ⟨#[10]⟩ (ls ++ [x]) = zt7 (zs4 0 (lvR fs)) ⟨#[]⟩ := e
  have hl := xc2 (zs4 0 (lvR fs)) ⟨#[]⟩ (by
    rw [yj6]
    intro f h
    obtain ⟨l, hl, rfl⟩ := List.mem_map.mp h
    exact ⟨hf l hl, Int.le_refl _, by show (0 : Int) <= 200; decide⟩)
  rw [show (⟨#[]⟩ : Str).length = 0 from rfl, yj6, List.length_map, <- yj6] at hl
  have jl := xb8 (c := 10) (ls ++ [x]) (by simp)
  rw [e'] at jl
  have s1 : zc8 1 (za5 (zs5 (za1 (fC (.str "")) za3))) [some (.tup (zc6 (lvR fs))), none, none] = some (.nx, [some (.tup (zc6 (lvR fs))), some (.lst true (zc4 ([] ++ [⟨#[]⟩]))), none]) := by rw [xb2]; rfl
  have s2 : zw0 2 (zp5 (za0 0)) yk3 [some (.tup (zc6 (lvR fs))), some (.lst true (zc4 ([] ++ [⟨#[]⟩]))), none] = some (.nx, [some (.tup (zc6 (lvR fs))), some (.lst true (zc4 (ls ++ [x]))), y2]) := q
  have s3 : ze6 (za5 (fMt zw6 (fC (.str "\n")) (za1 (za0 1) za3))) [some (.tup (zc6 (lvR fs))), some (.lst true (zc4 (ls ++ [x]))), y2] = some (.ret (.str (zt7 (zs4 0 (lvR fs)) ⟨#[]⟩)), [some (.tup (zc6 (lvR fs))), some (.lst true (zc4 (ls ++ [x]))), y2]) := by
    refine zg8 ?_
    show zw6 (.str "\n") [.lst true (zc4 (ls ++ [x]))] = _
    rw [zw6, wd9, Option.bind_some, if_pos ⟨by decide +kernel, by omega⟩, xk1, <- e']
    congr 2
    exact StrLaws.glued_eq_join _ _
  exact zq0 rfl ((za9 s1).trans ((za9 s2).trans s3))
end My
namespace My
open PySem PySem.Spec PyProof.Rows L2 L3
theorem xc3 {f : PSt -> Option (Fl × PSt)} {fx : PSt -> Bool} {p p' : PSt} (h : f p = some (.nx, p')) : ye6 f fx p = fx p' := by unfold ye6; rw [h]
theorem xu1 {C m : Str} {fo : PSt -> Option D} {g : List D -> Bool} {p : PSt} {d : D} (h : zi2 C m fo p = some d) : yj9 C m fo g p = g [d] := by unfold yj9; rw [h]
noncomputable abbrev yk4 : List D -> Bool := gX 1 0 zu1
theorem xq1 {C : List Int} {u : Nat} {ps : List Str} (hu : u < C.length) : yk4 [stD C u ps] = true := by
  have hl : (zf8 C).length = C.length := List.length_map _
  have t : fB (f2 dLt (zf1 "Setter" "used" (za0 0)) (za6 zg7 (za1 (zf1 "Setter" "choices" (za0 0)) za3))) [some (stD C u ps)] = some true := by
    refine zt1 (zc5 (x := .int (u : Int)) (y := .int ((zf8 C).length : Nat)) ?_ (zg6 (ds := [.tup (zf8 C)]) (zb7 ?_ rfl) rfl) ?_)
    . unfold stD
      simp [zf1, zn8, zc2, ze1, za0]
    . unfold stD
      simp [zf1, zn8, zc2, ze1, za0]
    . show some (D.bl (decide ((u : Int) < ((zf8 C).length : Nat)))) = _
      rw [hl, decide_eq_true (by omega)]
  show (decide (1 = 1) && yu0 _ yx5 [some (stD C u ps)]) = true
  unfold yu0
  rw [t]; rfl
noncomputable abbrev yk5 (n : Nat) : List D -> Bool := gX 2 1 (zv0 ya4 (zt3 n) ya2 yk4)
theorem xk7 {n : Nat} {r : List Pc} {C zb1 : List Int} {t : Str} (hd : zj2 r < n) (h8 : zj2 r <= 16) (ho : okR r) (hl : (zf2 r).length <= 800) (h : zp9 true 0 r C ⟨#[]⟩ = some (zb1, t)) (hr : 0 < zb1.length) : yk5 n [.tup (zc6 r), .tup (zf8 C)] = true := by
  obtain ⟨u', ps', q, e1, e2, e3, _⟩ := yt5 n r hd ho true 0 C 0 [] zb1 t (Int.le_refl _) (by omega) h (Nat.zero_le _) ⟨by show 0 + _ <= _; omega, by show 0 + _ <= _; omega⟩
  have hu : u' < C.length := by
    have := congrArg List.length e1
    rw [List.length_drop] at this
    omega
  have w := xq1 (C := C) (ps := ps') hu
  have i := xp8 C
  have f := xb4
  have hm := yj3 (m := "set_row") (by simp [zc2, ze1]) q
  have p1 := zm2 r
  have p2 := yb0 C
  have p3 := zu0 true 0
  have w' : zi2 "Setter" "whole_text" (za0 2) [some (.tup (zc6 r)), some (.tup (zf8 C)), some (stD C u' ps')] = some (stD C u' ps') := by
    unfold stD
    simp [zi2, zc2, ze1, za0]
  show (decide (2 = 2) && zv0 ya4 (zt3 n) ya2 yk4 [some (.tup (zc6 r)), some (.tup (zf8 C)), none]) = true
  generalize ya4 = G1 at i |-
  generalize zt3 n = G2 at hm |-
  generalize ya2 = G3 at f |-
  generalize yk4 = G4 at w |-
  generalize stD C u' ps' = S1 at *
  generalize stD C 0 [] = S0 at *
  generalize za7 true 0 = pl at *
  have s1 : zc8 2 (za5 (zg2 "Setter" (zb6 [.im (za0 1)]) G1)) [some (.tup (zc6 r)), some (.tup (zf8 C)), none] = some (.nx, [some (.tup (zc6 r)), some (.tup (zf8 C)), some S0]) := by
    refine zi1 ?_
    unfold zg2
    rw [yc8 (f := za0 1) (p := [some (.tup (zc6 r)), some (.tup (zf8 C)), none]) (d := .tup (zf8 C)) rfl p2 ym6]
    show (G1 [.obj true "Setter" [] [], .tup (zf8 C)]).bind _ = _
    rw [i]; rfl
  have s2 : zc1 (zc9 2 zb5 (zb6 [.im (za0 0), .im (za6 G3 za3)]) (zj5 "Setter" "set_row" G2)) [some (.tup (zc6 r)), some (.tup (zf8 C)), some S0] = some (.nx, [some (.tup (zc6 r)), some (.tup (zf8 C)), some S1]) := by
    refine xb0 (d := .non) ?_
    unfold zc9
    show ((zb6 [.im (za0 0), .im (za6 G3 za3)] [some (.tup (zc6 r)), some (.tup (zf8 C)), some S0]).bind _) = _
    rw [yc8 (f := za0 0) (p := [some (.tup (zc6 r)), some (.tup (zf8 C)), some S0]) (d := .tup (zc6 r)) rfl p1 (yc8 (f := za6 G3 za3) (zg6 (ds := []) rfl f) p3 ym6), Option.bind_some]
    show ((zj5 "Setter" "set_row" G2 [.tup (zc6 r), pl] S0).bind _) = _
    rw [hm]; rfl
  have fin : zv0 G1 G2 G3 G4 [some (.tup (zc6 r)), some (.tup (zf8 C)), none] = true := (xc3 s1).trans ((xc3 s2).trans ((xu1 w').trans w))
  rw [fin]; rfl
noncomputable abbrev ya5 (n : Nat) : List D -> Option D := gP 2 0 (yh7 (yk5 n))
theorem xk8 {n : Nat} {R Cs : D} (h : yk5 n [R, Cs] = true) : ya5 n [R, Cs] = some (.bl true) := by
  have s : xd1 (yk5 n) (za1 (za0 0) (za1 (za0 1) za3)) [some R, some Cs] = some (.ret (.bl true), [some R, some Cs]) := by
    unfold xd1
    rw [zb7 (f := za0 0) (d := R) rfl (zb7 (f := za0 1) (d := Cs) rfl (show za3 _ = some [] from rfl)), Option.bind_some, if_pos h]
  exact zq0 rfl (zj9 s)
end My
namespace My
open PySem PySem.Spec PyProof.Rows L2 L3
noncomputable def sg9 : Str := "~}|{zyxwvutsrqponmlkjihgfedcba`_^]\\[ZYXWVUTSRQPONMLKJIHGFEDCBA\x40?>=<;:9876543210/.-,+*)('&$#\"!"
theorem yt7 : sg9.cps.toList.length = 93 := by decide +kernel
theorem xu2 : sg9.cps.toList.all yk0 = true := by decide +kernel
theorem xc4 : sg9.length <= sizeLine := by
  have e : sg9.length = sg9.cps.toList.length := by simp [Str.length]
  rw [e, yt7]; exact sz (by decide)
theorem we1 (i : Int) (h0 : 0 <= i) (h1 : i < 93) : ∃ c, atI sg9.cps.toList i = some c /\ yk0 c = true := by
  obtain ⟨c, hc, e⟩ := xy7 sg9.cps.toList i h0 (by rw [yt7]; omega)
  exact ⟨c, e, List.all_eq_true.mp xu2 c hc⟩
theorem we2 {j k : Int} (h0 : 0 <= j) (h1 : j < 100) : zx7 (.int j) (.int k) = some (.int (j * k)) := by
  rw [zx7, if_pos]
  unfold xc7
  rw [decide_eq_true (by omega), decide_eq_true (by omega)]; rfl
theorem wh0 {k : Int} {c : Nat} (h : atI sg9.cps.toList k = some c) : dIx (.str sg9) (.int k) = some (.str ⟨#[c]⟩) := by
  rw [dIx, if_pos xc4, h]; rfl
theorem we3 : zg7 [.str sg9] = some (.int 93) := by
  rw [zg7, if_pos xc4]
  have e : sg9.length = sg9.cps.toList.length := by simp [Str.length]
  rw [e, yt7]; rfl
noncomputable abbrev yx6 : PSt -> Option (Fl × PSt) := zb8 (zc8 4 (za5 (f2 zf0 (f2 zo9 (za0 0) (fC (.int 12))) (f2 zx7 (za0 3) (f2 zl4 (f2 zo9 (za0 0) (fC (.int 7))) (fC (.int 89))))))) (zc8 2 (za5 (f2 zf0 (za0 2) (f2 dIx (za0 1) (f2 zl4 (za0 4) (za6 zg7 (za1 (za0 1) za3)))))))
theorem xc5 {m : Int} : ∀ (l : List Int) (w : Str) (x3 x4 : Option D), (∀ j ∈ l, 0 <= j /\ j < 100) -> w.length + l.length <= 100 -> w.cps.toList.all yk0 = true ->
    ∃ w' y3 y4, zn1 3 yx6 (l.map .int) [some (.int m), some (.str sg9), some (.str w), x3, x4] = some (.nx, [some (.int m), some (.str sg9), some (.str w'), y3, y4]) /\ w'.length = w.length + l.length /\ w'.cps.toList.all yk0 = true
  | [], w, x3, x4, _, _, hw => ⟨w, x3, x4, rfl, rfl, hw⟩
  | j :: l, w, x3, x4, hj, hl, hw => by
    rw [List.length_cons] at hl
    have hj0 := hj j List.mem_cons_self
    obtain ⟨c, hc, hg⟩ := we1 ((m / 12 + j * (m / 7 % 89)) % 93) (Int.emod_nonneg _ (by decide)) (Int.emod_lt_of_pos _ (by decide))
    have hw1 : (w ++ (⟨#[c]⟩ : Str)).length = w.length + 1 := by rw [zg4]; rfl
    obtain ⟨w', y3, y4, q1, q2, q3⟩ := xc5 (m := m) l (w ++ ⟨#[c]⟩) (some (.int j)) (some (.int (m / 12 + j * (m / 7 % 89)))) (fun i hi => hj i (List.mem_cons_of_mem _ hi)) (by rw [hw1]; omega) (by rw [zc7, List.all_append, hw]; simp [hg])
    refine ⟨w', y3, y4, ?_, by rw [q2, hw1, List.length_cons]; omega, q3⟩
    rw [<- q1]
    have hz : w.length + (⟨#[c]⟩ : Str).length <= sizeLine := sz (by show w.length + 1 <= 1000; omega)
    have s1 : zc8 4 (za5 (f2 zf0 (f2 zo9 (za0 0) (fC (.int 12))) (f2 zx7 (za0 3) (f2 zl4 (f2 zo9 (za0 0) (fC (.int 7))) (fC (.int 89)))))) [some (.int m), some (.str sg9), some (.str w), some (.int j), x4] = some (.nx, [some (.int m), some (.str sg9), some (.str w), some (.int j), some (.int (m / 12 + j * (m / 7 % 89)))]) :=
      zi1 (zc5 (zc5 rfl rfl ((zy9 _ _).trans (if_pos (by decide)))) (zc5 rfl (zc5 (zc5 rfl rfl ((zy9 _ _).trans (if_pos (by decide)))) rfl ((zs0 _ _).trans (if_pos (by decide)))) (we2 hj0.1 hj0.2)) rfl)
    have s2 : zc8 2 (za5 (f2 zf0 (za0 2) (f2 dIx (za0 1) (f2 zl4 (za0 4) (za6 zg7 (za1 (za0 1) za3)))))) [some (.int m), some (.str sg9), some (.str w), some (.int j), some (.int (m / 12 + j * (m / 7 % 89)))] = some (.nx, [some (.int m), some (.str sg9), some (.str (w ++ ⟨#[c]⟩)), some (.int j), some (.int (m / 12 + j * (m / 7 % 89)))]) := by
      refine zi1 (zc5 rfl (zc5 rfl (zc5 rfl (zg6 (zb7 rfl rfl) we3) ((zs0 _ _).trans (if_pos (by decide)))) (wh0 hc)) ?_)
      show (if w.length + (⟨#[c]⟩ : Str).length <= sizeLine then some (D.str (w ++ ⟨#[c]⟩)) else none) = _
      exact if_pos hz
    show ((yx6 [some (.int m), some (.str sg9), some (.str w), some (.int j), x4]).bind _) = _
    rw [show yx6 [some (.int m), some (.str sg9), some (.str w), some (.int j), x4] = _ from (za9 s1).trans s2]; rfl
noncomputable abbrev xl7 : List D -> Option D := gP 1 4 yw6
theorem xz5 (m : Int) : ∃ z, xl7 [.int m] = some (.str z) /\ xd2 z := by
  obtain ⟨n, hn, n1⟩ := ys8 m 1 12 (by decide)
  have n0 : 1 <= n := by
    have := Int.emod_nonneg m (show (12 : Int) ≠ 0 by decide)
    have hn' : 1 + m % 12 = (n : Int) := hn
    omega
  have hn' : 1 + m % 12 = (n : Int) := hn
  obtain ⟨w, x3, x4, q1, q2, q3⟩ := xc5 (m := m) ((List.range n).map fun (k : Nat) => (k : Int)) "" none none
    (fun j hj => by obtain ⟨k, hk, rfl⟩ := List.mem_map.mp hj; have := List.mem_range.mp hk; omega) (by rw [List.length_map, List.length_range]; show 0 + _ <= 100; omega) (by decide +kernel)
  rw [<- wd4] at q1
  rw [List.length_map, List.length_range] at q2
  have q2' : w.length = n := by rw [q2]; show 0 + _ = _; omega
  refine ⟨w, ?_, by omega, by omega, q3⟩
  have s5 : zw0 3 (zt2 (za1 (f2 zf0 (fC (.int 1)) (f2 zl4 (za0 0) (fC (.int 12)))) za3)) yx6 [some (.int m), some (.str sg9), some (.str ""), none, none] = some (.nx, [some (.int m), some (.str sg9), some (.str w), x3, x4]) := by
    have e : za1 (f2 zf0 (fC (.int 1)) (f2 zl4 (za0 0) (fC (.int 12)))) za3 [some (.int m), some (.str sg9), some (.str ""), none, none] = some [.int (n : Int)] := by
      refine zb7 (zc5 rfl (zc5 rfl rfl ((zs0 _ _).trans (if_pos (by decide)))) ?_) rfl
      rw [<- hn']; rfl
    unfold zw0 zt2
    rw [e, Option.bind_some, wd5 (by omega)]
    exact q1
  exact zq0 rfl ((za9 (zi1 rfl)).trans ((za9 (zi1 rfl)).trans ((za9 s5).trans rfl)))
noncomputable abbrev zx4 : List D -> Option D := gP 1 1 (ye8 xl7)
theorem xu3 (m : Int) : ∃ l, zx4 [.int m] = some (zh2 l) /\ zp1 l := by
  have s1 : zc8 1 (za5 (f2 zl4 (za0 0) (fC (.int 9)))) [some (.int m), none] = some (.nx, [some (.int m), some (.int (m % 9))]) := zi1 (zc5 rfl rfl ((zs0 _ _).trans (if_pos (by decide))))
  have te : ∀ c : Int, fB (f2 dEq (za0 1) (fC (.int c))) [some (.int m), some (.int (m % 9))] = some (decide (m % 9 = c)) := fun c => zt1 (zc5 rfl rfl rfl)
  have t4 : fB (f2 dLt (za0 1) (fC (.int 4))) [some (.int m), some (.int (m % 9))] = some (decide (m % 9 < 4)) := zt1 (zc5 rfl rfl rfl)
  have dv : f2 zo9 (za0 0) (fC (.int 9)) [some (.int m), some (.int (m % 9))] = some (.int (m / 9)) := zc5 rfl rfl ((zy9 _ _).trans (if_pos (by decide)))
  have out : ∀ {p : PSt} (l : Leaf), ye8 xl7 [some (.int m), none] = some (.ret (zh2 l), p) -> zx4 [.int m] = some (zh2 l) := fun l h => zq0 rfl h
  by_cases c1 : m % 9 < 4
  . obtain ⟨z, q, hz⟩ := xz5 (m / 9)
    rw [decide_eq_true c1] at t4
    exact ⟨.word z, out (.word z) ((za9 s1).trans (zj9 ((zh6 t4).trans (zg8 (ys9 (zb7 rfl (zb7 (zg6 (zb7 dv rfl) q) rfl)) rfl (Nat.le_of_ble_eq_true rfl)))))), hz⟩
  . rw [decide_eq_false c1] at t4
    have a4 := te 4
    have a5 := te 5
    have a6 := te 6
    by_cases c2 : m % 9 = 4
    . rw [decide_eq_true c2] at a4
      exact ⟨.gap "", out (.gap "") ((za9 s1).trans ((za9 (zc3 t4)).trans (zj9 ((zh6 a4).trans (zg8 rfl))))), .inl rfl⟩
    . rw [decide_eq_false c2] at a4
      by_cases c3 : m % 9 = 5
      . rw [decide_eq_true c3] at a5
        exact ⟨.gap " ", out (.gap " ") ((za9 s1).trans ((za9 (zc3 t4)).trans ((za9 (zc3 a4)).trans (zj9 ((zh6 a5).trans (zg8 rfl)))))), .inr rfl⟩
      . rw [decide_eq_false c3] at a5
        by_cases c4 : m % 9 = 6
        . rw [decide_eq_true c4] at a6
          exact ⟨.fin, out .fin ((za9 s1).trans ((za9 (zc3 t4)).trans ((za9 (zc3 a4)).trans ((za9 (zc3 a5)).trans (zj9 ((zh6 a6).trans (zg8 rfl))))))), trivial⟩
        . rw [decide_eq_false c4] at a6
          have hc := Int.emod_nonneg (m / 9) (show (41 : Int) ≠ 0 by decide)
          have he := Int.emod_lt_of_pos (m / 9) (show (0 : Int) < 41 by decide)
          exact ⟨.stop (m / 9 % 41), out (.stop (m / 9 % 41)) ((za9 s1).trans ((za9 (zc3 t4)).trans ((za9 (zc3 a4)).trans ((za9 (zc3 a5)).trans ((za9 (zc3 a6)).trans (zg8 (ys9 (zb7 rfl (zb7 (zc5 dv rfl ((zs0 _ _).trans (if_pos (by decide)))) rfl)) rfl (Nat.le_of_ble_eq_true rfl)))))))), hc, Int.le_of_lt_add_one he⟩
end My
namespace My
open PySem PySem.Spec PyProof.Rows L2 L3
section
variable {GM : List D -> Option D} {S : D}
theorem yl1 (hM : ∀ j s : Int, 0 <= j -> j < 1000 -> 0 <= s -> s < 1000 -> ∃ a, GM [S, .int j, .int s] = some (.int a) /\ 0 <= a) (x : Option D) : ∀ n k : Nat, k + n <= 900 -> ∃ fs : List Leaf, zq8 [x, some S] zz9 (za6 zx4 (za1 (za6 GM (za1 (za0 1) (za1 (f2 zf0 (fC (.int 1)) (za0 0)) (za1 (fC (.int 2)) za3)))) za3)) (zo4 (k : Int) n) = some (zc6 (lvR fs)) /\ fs.length = n /\ ∀ f ∈ fs, zp1 f
  | 0, k, _ => ⟨[], rfl, rfl, fun f h => absurd h (by simp)⟩
  | n + 1, k, hk => by
    obtain ⟨fs, q, hl, ho⟩ := yl1 hM x n (k + 1) (by omega)
    obtain ⟨a, qa, _⟩ := hM (1 + (k : Int)) 2 (by omega) (by omega) (by decide) (by decide)
    obtain ⟨l, ql, hlf⟩ := xu3 a
    refine ⟨l :: fs, ?_, by simp [hl], fun f h => ?_⟩
    . rw [xj9, zq8]
      show ((za6 zx4 (za1 (za6 GM (za1 (za0 1) (za1 (f2 zf0 (fC (.int 1)) (za0 0)) (za1 (fC (.int 2)) za3)))) za3) [some (.int k), some S]).bind _) = _
      rw [zg6 (zb7 (zg6 (zb7 rfl (zb7 (zc5 rfl rfl rfl) (zb7 rfl rfl))) qa) rfl) ql, Option.bind_some, q]; rfl
    . rcases List.mem_cons.mp h with z | z
      . rw [z]; exact hlf
      . exact ho f z
theorem xv8 : ∀ {fs : List Leaf}, (∀ f ∈ fs, zp1 f) -> okR (lvR fs) /\ hgR (lvR fs) /\ zj2 (lvR fs) = 0 /\ (zf2 (lvR fs)).length = fs.length
  | [], _ => ⟨trivial, trivial, rfl, rfl⟩
  | l :: fs, h => by
    obtain ⟨a, b, c, d⟩ := xv8 (fs := fs) fun f hf => h f (List.mem_cons_of_mem _ hf)
    refine ⟨⟨h l List.mem_cons_self, a⟩, ⟨trivial, b⟩, ?_, ?_⟩
    . show max 0 (zj2 (lvR fs)) = 0
      rw [c]; rfl
    . show ([Tk.leaf l] ++ zf2 (lvR fs)).length = fs.length + 1
      rw [List.length_append, d]; show 1 + _ = _; omega
noncomputable abbrev yi0 (GB GR : List D -> Option D) : PSt -> Option (Fl × PSt) := (zb8 (zc8 6 (za5 (za6 GB (za1 (za0 3) (za1 (zj0 za3) za3)))))
  (fIf (za8 (zi9 (zo2 (fT (za6 ym8 (za1 (za0 6) (za1 (fC (.ty "str")) za3))))) (zi9 (fB (f2 dNe (za0 6) (za0 4))) (zo2 (fT (za6 GR (za1 (za0 3) (za1 (zj0 (za1 (f2 zl4 (f2 zo9 (za0 1) (fC (.int 3))) (fC (.int 3))) za3)) za3))))))))
   (ze6 (za5 (fC (.bl false))))
   zd0))
theorem we4 {GB GR : List D -> Option D} {R : D} {t : Str} {a : Int} {x2 x5 x6 : Option D} (b : GB [R, .tup []] = some (.str t)) (rf : GR [R, .tup [.int (a / 3 % 3)]] = some (.bl true)) : yi0 GB GR [some S, some (.int a), x2, some R, some (.str t), x5, x6] = some (.nx, [some S, some (.int a), x2, some R, some (.str t), x5, some (.str t)]) := by
  have s1 : zc8 6 (za5 (za6 GB (za1 (za0 3) (za1 (zj0 za3) za3)))) [some S, some (.int a), x2, some R, some (.str t), x5, x6] = some (.nx, [some S, some (.int a), x2, some R, some (.str t), x5, some (.str t)]) := zi1 (zg6 (zb7 rfl (zb7 rfl rfl)) b)
  refine (za9 s1).trans (zc3 (yp9 (zs1 (b := true) (yx3 (zg6 (d := .bl true) (ds := [.str t, .ty "str"]) (zb7 rfl (zb7 rfl rfl)) (wg8 t)))) (yp9 ?_ (zs1 (b := true) (yx3 (zg6 (zb7 rfl (zb7 (ys9 (zb7 (zc5 (zc5 rfl rfl ((zy9 _ _).trans (if_pos (by decide)))) rfl ((zs0 _ _).trans (if_pos (by decide)))) rfl) rfl (Nat.le_of_ble_eq_true rfl)) rfl)) rf))))))
  refine zt1 (zc5 rfl rfl ?_)
  show some (D.bl (!decide (t = t))) = _
  rw [decide_eq_true rfl]; rfl
noncomputable abbrev wi3 (k1 k2 : Nat) (GM : List D -> Option D) : List D -> Option D := gP 1 6 (xd4 GM zx4 xl6 (yh9 k1) (ya5 k2))
theorem xq2 {k1 k2 : Nat} (hk1 : 0 < k1) (hk2 : 0 < k2) (hM : ∀ j s : Int, 0 <= j -> j < 1000 -> 0 <= s -> s < 1000 -> ∃ a, GM [S, .int j, .int s] = some (.int a) /\ 0 <= a) : wi3 k1 k2 GM [S] = some (.bl true) := by
  obtain ⟨a, qa, ha⟩ := hM 0 1 (by decide) (by decide) (by decide) (by decide)
  have s1 : zc8 1 (za5 (za6 GM (za1 (za0 0) (za1 (fC (.int 0)) (za1 (fC (.int 1)) za3))))) [some S, none, none, none, none, none, none] = some (.nx, [some S, some (.int a), none, none, none, none, none]) := zi1 (zg6 (zb7 rfl (zb7 rfl (zb7 rfl rfl))) qa)
  have s2 : zc8 2 (za5 (f2 zl4 (za0 1) (fC (.int 31)))) [some S, some (.int a), none, none, none, none, none] = some (.nx, [some S, some (.int a), some (.int (a % 31)), none, none, none, none]) := zi1 (zc5 rfl rfl ((zs0 _ _).trans (if_pos (by decide))))
  obtain ⟨n, s3, hn⟩ : ∃ n : Nat, fIf (za8 (fB (f2 dEq (f2 zl4 (f2 zo9 (za0 1) (fC (.int 31))) (fC (.int 4))) (fC (.int 0))))) (zc8 2 (za5 (f2 zl4 (f2 zo9 (za0 1) (fC (.int 124))) (fC (.int 200))))) zd0 [some S, some (.int a), some (.int (a % 31)), none, none, none, none] = some (.nx, [some S, some (.int a), some (.int (n : Int)), none, none, none, none]) /\ n <= 200 := by
    have te : fB (f2 dEq (f2 zl4 (f2 zo9 (za0 1) (fC (.int 31))) (fC (.int 4))) (fC (.int 0))) [some S, some (.int a), some (.int (a % 31)), none, none, none, none] = some (decide (a / 31 % 4 = 0)) := zt1 (zc5 (zc5 (zc5 rfl rfl ((zy9 _ _).trans (if_pos (by decide)))) rfl ((zs0 _ _).trans (if_pos (by decide)))) rfl rfl)
    by_cases c : a / 31 % 4 = 0
    . rw [decide_eq_true c] at te
      obtain ⟨n, hn, n1⟩ := ys8 (a / 124) 0 200 (by decide)
      have hn' : a / 124 % 200 = (n : Int) := (Int.zero_add _).symm.trans hn
      refine ⟨n, (zh6 te).trans ?_, by omega⟩
      rw [<- hn']
      exact zi1 (zc5 (zc5 rfl rfl ((zy9 _ _).trans (if_pos (by decide)))) rfl ((zs0 _ _).trans (if_pos (by decide))))
    . rw [decide_eq_false c] at te
      obtain ⟨n, hn, n1⟩ := ys8 a 0 31 (by decide)
      have hn' : a % 31 = (n : Int) := (Int.zero_add _).symm.trans hn
      refine ⟨n, ?_, by omega⟩
      rw [<- hn']
      exact zc3 te
  obtain ⟨fs, qf, hl, hf⟩ := yl1 hM none n 0 (by omega)
  obtain ⟨o1, o2, o3, o4⟩ := xv8 hf
  have g : ∀ cs : List Int, zp9 true 0 (lvR fs) cs ⟨#[]⟩ = some (cs, zt7 (zs4 0 (lvR fs)) ⟨#[]⟩) := fun cs => yt6 o2
  have b := xp9 (n := k1) (C := []) (by omega) (by omega) o1 (by omega) (g [])
  have rx := xk8 (xk7 (n := k2) (C := [a / 3 % 3]) (by omega) (by omega) o1 (by omega) (g [a / 3 % 3]) (by simp))
  have u := we0 hf (by omega)
  have s4 : zc8 3 (za5 (za6 yh4 (za1 (yb2 [none, some 0] (zt2 (za1 (za0 2) za3)) zz9 (za6 zx4 (za1 (za6 GM (za1 (za0 1) (za1 (f2 zf0 (fC (.int 1)) (za0 0)) (za1 (fC (.int 2)) za3)))) za3))) za3))) [some S, some (.int a), some (.int (n : Int)), none, none, none, none] = some (.nx, [some S, some (.int a), some (.int (n : Int)), some (.tup (zc6 (lvR fs))), none, none, none]) := by
    refine zi1 (zg6 (ds := [.lst true (zc6 (lvR fs))]) (zb7 ?_ rfl) (if_pos (zm2 _)))
    have e : zt2 (za1 (za0 2) za3) [some S, some (.int a), some (.int (n : Int)), none, none, none, none] = some (zo4 ((0 : Nat) : Int) n) := by
      unfold zt2
      rw [zb7 (f := za0 2) (d := .int (n : Int)) rfl (show za3 _ = some [] from rfl), Option.bind_some, wd5 (by omega)]
    unfold yb2
    rw [e, Option.bind_some, if_pos (by unfold zo4; rw [List.length_map, List.length_range]; exact sz (by omega))]
    rw [show zq8 (zx8 [none, some 0] [some S, some (.int a), some (.int (n : Int)), none, none, none, none]) zz9 (za6 zx4 (za1 (za6 GM (za1 (za0 1) (za1 (f2 zf0 (fC (.int 1)) (za0 0)) (za1 (fC (.int 2)) za3)))) za3)) (zo4 ((0 : Nat) : Int) n) = some (zc6 (lvR fs)) from qf]; rfl
  generalize zc6 (lvR fs) = R at *
  generalize zt7 (zs4 0 (lvR fs)) ⟨#[]⟩ = t at *
  have s5 : zc8 4 (za5 (za6 xl6 (za1 (za0 3) za3))) [some S, some (.int a), some (.int (n : Int)), some (.tup R), none, none, none] = some (.nx, [some S, some (.int a), some (.int (n : Int)), some (.tup R), some (.str t), none, none]) := zi1 (zg6 (zb7 rfl rfl) u)
  have l1 : ∀ x5 x6, yi0 (yh9 k1) (ya5 k2) [some S, some (.int a), some (.int (n : Int)), some (.tup R), some (.str t), x5, x6] = some (.nx, [some S, some (.int a), some (.int (n : Int)), some (.tup R), some (.str t), x5, some (.str t)]) := fun x5 x6 => we4 b rx
  have s6 : zw0 5 (zt2 (za1 (fC (.int 2)) za3)) (yi0 (yh9 k1) (ya5 k2)) [some S, some (.int a), some (.int (n : Int)), some (.tup R), some (.str t), none, none] = some (.nx, [some S, some (.int a), some (.int (n : Int)), some (.tup R), some (.str t), some (.int 1), some (.str t)]) := by
    have e : zt2 (za1 (fC (.int 2)) za3) [some S, some (.int a), some (.int (n : Int)), some (.tup R), some (.str t), none, none] = some [.int 0, .int 1] := rfl
    unfold zw0
    rw [e, Option.bind_some, zn1]
    show ((yi0 _ _ [some S, some (.int a), some (.int (n : Int)), some (.tup R), some (.str t), some (.int 0), none]).bind _) = _
    rw [l1]
    show zn1 5 _ [.int 1] _ = _
    rw [zn1]
    show ((yi0 _ _ [some S, some (.int a), some (.int (n : Int)), some (.tup R), some (.str t), some (.int 1), some (.str t)]).bind _) = _
    rw [l1]; rfl
  show gP 1 6 (xd4 GM zx4 xl6 (yh9 k1) (ya5 k2)) _ = _
  exact zq0 rfl ((za9 s1).trans ((za9 s2).trans ((za9 s3).trans ((za9 s4).trans ((za9 s5).trans ((za9 s6).trans (zg8 rfl)))))))
end
end My
namespace My
open PySem PySem.Spec PyProof.Rows L2 L3
variable {P : Program} {w : World} {K : PySem.W.Frag} {mg : Str -> Option Value} {base : Heap} {κ : Str -> Addr}
noncomputable abbrev xd7 : List D -> Option (List Int) := D.ints
theorem yq4 : ∀ ns : List Int, xd7 (ns.map .int) = some ns
  | [] => rfl
  | n :: ns => by show (D.ints (ns.map .int)).map (n :: ·) = _; rw [show D.ints (ns.map .int) = some ns from yq4 ns]; rfl
noncomputable def xu9 : List D -> Option D
  | [.con xs, .int k, .int s] => match xd7 xs with
    | some ns => if ns.length <= 63 /\ (0 <= k /\ k < 1000000) /\ (0 <= s /\ s < 1000000) then some (.int (ye7 ns k s)) else none
    | none => none
  | _ => none
theorem xu4 {ns : List Int} (h : ns.length <= 63) (k s : Int) (hk : 0 <= k) (hk1 : k < 1000) (hs : 0 <= s) (hs1 : s < 1000) : ∃ m, xu9 [.con (ns.map .int), .int k, .int s] = some (.int m) /\ 0 <= m := by
  refine ⟨ye7 ns k s, ?_, (xd9 ns k s).1⟩
  show (match xd7 (ns.map .int) with | some ns => if ns.length <= 63 /\ (0 <= k /\ k < 1000000) /\ (0 <= s /\ s < 1000000) then some (D.int (ye7 ns k s)) else none | none => none) = _
  rw [yq4]
  exact if_pos ⟨h, ⟨hk, by omega⟩, hs, by omega⟩
theorem wi5 {k : Nat} {f : Addr} {fd : FuncData} {ps : List Str} (F : FnOk P w K mg base CX0 k f fd ps (xg7 K)) : FnOk P w K mg base CX0 k f fd ps (SpP 3 K κ xu9) := by
  refine F.imp fun vs H Q E ⟨_, ds, fp, d, r, e, q⟩ => ?_
  unfold xu9 at e
  split at e
  . rename_i xs k s
    split at e
    . rename_i ns hns
      obtain ⟨hc, e⟩ := ze5 e
      cases e
      obtain ⟨v1, us, f, g, rfl, r1, r2, rfl⟩ := r.split
      obtain ⟨v2, us2, f2, g2, rfl, r3, r4, rfl⟩ := r2.split
      obtain ⟨v3, rfl, r5⟩ := r4.one_inv
      rw [r3.is_int, r5.is_int]
      obtain ⟨a, vs, rfl, hS, hs⟩ := r1.con_inv
      rw [xf5 hs hns] at hS
      exact ⟨a, ns, k, s, rfl, hS.l, hc.1, hc.2.1, hc.2.2, q _ H [] (SameK.refl H) (fun _ ha => absurd ha (by simp)) List.nodup_nil (.int _)⟩
    . cases e
  . cases e
noncomputable def yx7 (K : PySem.W.Frag) : Sp := fun vs H Q _ => ∃ (a : Addr) (ns : List Int), vs = [.ref a] /\ SqF K H a (ns.map V.int) /\ ns.length <= 63 /\ ∀ H', Q (.bl true) H'
theorem yw5 {H : Hp} : ∀ ns : List Int, Reps K κ H (ns.map V.int) (ns.map .int) []
  | [] => .nil
  | n :: ns => .cons (f := []) (g := []) (.int n) (yw5 ns)
theorem wi6 {k : Nat} {f : Addr} {fd : FuncData} {ps : List Str} {g : List D -> Option D} (F : FnOk P w K mg base CX0 k f fd ps (SpP 1 K κ g)) (h : ∀ ns : List Int, ns.length <= 63 -> g [.con (ns.map .int)] = some (.bl true)) : FnOk P w K mg base CX0 k f fd ps (yx7 K) :=
  F.imp fun vs H Q E ⟨a, ns, e, hS, hl, q⟩ => e ▸ ⟨rfl, [.con (ns.map .int)], [], .bl true, .cons (f := []) (g := []) (.con hS (yw5 ns)) .nil, h ns hl, fun v H' fv _ _ _ r => by cases r; exact q H'⟩
noncomputable def Cur : Nat -> (List Value -> Prop) -> Prop
  | 0, P => P []
  | n + 1, P => ∀ a, Cur n fun us => P (a :: us)
theorem zg9 {n : Nat} : ∀ {P : List Value -> Prop}, Cur n P -> ∀ us : List Value, us.length = n -> P us := by
  induction n with
  | zero => intro P h us hl; cases List.eq_nil_of_length_eq_zero hl; exact h
  | succ n ih =>
    intro P h us hl
    cases us with
    | nil => cases hl
    | cons a us => exact ih (h a) us (Nat.succ.inj hl)
theorem zo1 {h : Heap} (X : K.In h) (G : h.Ns mainGlobals mg) {x : Str} {st : Stmt} {f : Addr} {od an : Option Addr} {sl : Array (Option Value)} {oc kV dc pm cd ct : Value} {ps : List Str}
    (a : PySem.W.nsIn K mainGlobals x = some (some (.ref f))) (l : K.lookup f = some ⟨oc, od, .func (PySem.W.fnOf x x (ze2 st) (zd1 st) (za4 st) .none kV dc pm an cd ct), sl⟩) (c : PySem.W.codeIn K cd x = true) (k : PySem.W.keepIn K (.ref f) = true)
    (hb : ∀ (kV doc pm : Value) (an : Option Addr) (cdv ct : Value) (us : List Value), us.length = ps.length -> bindArgs (PySem.W.fnOf x x (ze2 st) (zd1 st) (za4 st) .none kV doc pm an cdv ct) ⟨us, []⟩ = pure (ps.zip us)) :
    Dn K mg x st ps f (PySem.W.fnOf x x (ze2 st) (zd1 st) (za4 st) .none kV dc pm an cd ct) :=
  ⟨zl6 l c k, (zl6 l c k).binds hb, PySem.W.mg_of X G a⟩
theorem wi7 {l : PySem.W.OpenLaw} {q : Program} {loose : List Str} {XP : (Str -> Option Value) -> Heap -> Prop} {YP : World -> Heap -> Prop} {d : DefRec} {K : Params -> PySem.W.Frag} {lev : Nat} (hn : l.most = some 63) (hdf : d.params.defaults = []) (hr : Room lev callerA)
    (hY : ∀ (w : World) (h : Heap), YP w h -> (K w.params).In h)
    (F : ∀ (w : World) (mg : Str -> Option Value) (fa : Addr) (h : Heap), (K w.params).In h -> h.Ns mainGlobals mg -> mg d.name = some (.ref fa) ->
      ∃ fd : FuncData, (∀ (s : Shared) (u : Value), BindsTo s fd ⟨[u], []⟩ [("_law_script", u)]) /\ ∀ base : Heap, (K w.params).In base -> base.Ns mainGlobals mg -> FnOk l.prog w (K w.params) mg base CX0 lev fa fd ["_law_script"] (yx7 (K w.params))) :
    PySem.W.WalkO q loose XP YP l.row.toRowW d [] (fun f vs => PySem.call f vs) :=
  L2.xx5 (n := 63) (k := lev) (x := "_law_script") (CX := fun _ => CX0) (sp := fun w => yx7 (K w.params)) hn (by decide) hdf hr hY F (fun _ H a ns hl hO hS => ⟨a, ns, rfl, by
    rcases hS with (h | h) | h
    . rcases hO a with z | ⟨o, xs, z⟩ <;> rw [h] at z <;> cases z
    . exact .inl h
    . exact .inr h, hl, fun _ => rfl⟩) fun _ _ _ _ _ z => z
end My
namespace My
open PySem PySem.Spec PyProof.Rows L2 L3
theorem we5 {l : PySem.W.OpenLaw} {w : World} {K : PySem.W.Frag} {h : Heap} {mg : Str -> Option Value} {fa f0 f1 f2 f3 f4 f5 f6 f7 f8 f9 f10 f11 f12 f13 f14 f15 : Addr} (X : K.In h) (G : h.Ns mainGlobals mg) (hfa : mg "law" = some (.ref fa))
    {od0 an0 od1 an1 od2 an2 od3 an3 od4 an4 od5 an5 od6 an6 od7 an7 od8 an8 od9 an9 od10 an10 od11 an11 od12 an12 od13 an13 od14 an14 od15 an15 : Option Addr} {sl0 sl1 sl2 sl3 sl4 sl5 sl6 sl7 sl8 sl9 sl10 sl11 sl12 sl13 sl14 sl15 : Array (Option Value)} {oc0 kV0 dc0 pm0 cd0 ct0 oc1 kV1 dc1 pm1 cd1 ct1 oc2 kV2 dc2 pm2 cd2 ct2 oc3 kV3 dc3 pm3 cd3 ct3 oc4 kV4 dc4 pm4 cd4 ct4 oc5 kV5 dc5 pm5 cd5 ct5 oc6 kV6 dc6 pm6 cd6 ct6 oc7 kV7 dc7 pm7 cd7 ct7 oc8 kV8 dc8 pm8 cd8 ct8 oc9 kV9 dc9 pm9 cd9 ct9 oc10 kV10 dc10 pm10 cd10 ct10 oc11 kV11 dc11 pm11 cd11 ct11 oc12 kV12 dc12 pm12 cd12 ct12 oc13 kV13 dc13 pm13 cd13 ct13 oc14 kV14 dc14 pm14 cd14 ct14 oc15 kV15 dc15 pm15 cd15 ct15 : Value}
    (a0 : PySem.W.nsIn K mainGlobals "first_place" = some (some (.ref f0))) (l0 : K.lookup f0 = some ⟨oc0, od0, .func (PySem.W.fnOf "first_place" "first_place" (ze2 zh8) (zd1 zh8) (za4 zh8) .none kV0 dc0 pm0 an0 cd0 ct0), sl0⟩) (c0 : PySem.W.codeIn K cd0 "first_place" = true) (k0 : PySem.W.keepIn K (.ref f0) = true)
    (a1 : PySem.W.nsIn K mainGlobals "holds_rows" = some (some (.ref f1))) (l1 : K.lookup f1 = some ⟨oc1, od1, .func (PySem.W.fnOf "holds_rows" "holds_rows" (ze2 zk1) (zd1 zk1) (za4 zk1) .none kV1 dc1 pm1 an1 cd1 ct1), sl1⟩) (c1 : PySem.W.codeIn K cd1 "holds_rows" = true) (k1 : PySem.W.keepIn K (.ref f1) = true)
    (a2 : PySem.W.nsIn K mainGlobals "takes_choice" = some (some (.ref f2))) (l2 : K.lookup f2 = some ⟨oc2, od2, .func (PySem.W.fnOf "takes_choice" "takes_choice" (ze2 zi4) (zd1 zi4) (za4 zi4) .none kV2 dc2 pm2 an2 cd2 ct2), sl2⟩) (c2 : PySem.W.codeIn K cd2 "takes_choice" = true) (k2 : PySem.W.keepIn K (.ref f2) = true)
    (a3 : PySem.W.nsIn K mainGlobals "ways" = some (some (.ref f3))) (l3 : K.lookup f3 = some ⟨oc3, od3, .func (PySem.W.fnOf "ways" "ways" (ze2 zp3) (zd1 zp3) (za4 zp3) .none kV3 dc3 pm3 an3 cd3 ct3), sl3⟩) (c3 : PySem.W.codeIn K cd3 "ways" = true) (k3 : PySem.W.keepIn K (.ref f3) = true)
    (a4 : PySem.W.nsIn K mainGlobals "new_line" = some (some (.ref f4))) (l4 : K.lookup f4 = some ⟨oc4, od4, .func (PySem.W.fnOf "new_line" "new_line" (ze2 zl5) (zd1 zl5) (za4 zl5) .none kV4 dc4 pm4 an4 cd4 ct4), sl4⟩) (c4 : PySem.W.codeIn K cd4 "new_line" = true) (k4 : PySem.W.keepIn K (.ref f4) = true)
    (a5 : PySem.W.nsIn K mainGlobals "writing" = some (some (.ref f5))) (l5 : K.lookup f5 = some ⟨oc5, od5, .func (PySem.W.fnOf "writing" "writing" (ze2 zm8) (zd1 zm8) (za4 zm8) .none kV5 dc5 pm5 an5 cd5 ct5), sl5⟩) (c5 : PySem.W.codeIn K cd5 "writing" = true) (k5 : PySem.W.keepIn K (.ref f5) = true)
    (a6 : PySem.W.nsIn K mainGlobals "ends_line" = some (some (.ref f6))) (l6 : K.lookup f6 = some ⟨oc6, od6, .func (PySem.W.fnOf "ends_line" "ends_line" (ze2 zk4) (zd1 zk4) (za4 zk4) .none kV6 dc6 pm6 an6 cd6 ct6), sl6⟩) (c6 : PySem.W.codeIn K cd6 "ends_line" = true) (k6 : PySem.W.keepIn K (.ref f6) = true)
    (a7 : PySem.W.nsIn K mainGlobals "column_behind" = some (some (.ref f7))) (l7 : K.lookup f7 = some ⟨oc7, od7, .func (PySem.W.fnOf "column_behind" "column_behind" (ze2 zh9) (zd1 zh9) (za4 zh9) .none kV7 dc7 pm7 an7 cd7 ct7), sl7⟩) (c7 : PySem.W.codeIn K cd7 "column_behind" = true) (k7 : PySem.W.keepIn K (.ref f7) = true)
    (a8 : PySem.W.nsIn K mainGlobals "set_by" = some (some (.ref f8))) (l8 : K.lookup f8 = some ⟨oc8, od8, .func (PySem.W.fnOf "set_by" "set_by" (ze2 zk7) (zd1 zk7) (za4 zk7) .none kV8 dc8 pm8 an8 cd8 ct8), sl8⟩) (c8 : PySem.W.codeIn K cd8 "set_by" = true) (k8 : PySem.W.keepIn K (.ref f8) = true)
    (a9 : PySem.W.nsIn K mainGlobals "_law_cell_at" = some (some (.ref f9))) (l9 : K.lookup f9 = some ⟨oc9, od9, .func (PySem.W.fnOf "_law_cell_at" "_law_cell_at" (ze2 zm7) (zd1 zm7) (za4 zm7) .none kV9 dc9 pm9 an9 cd9 ct9), sl9⟩) (c9 : PySem.W.codeIn K cd9 "_law_cell_at" = true) (k9 : PySem.W.keepIn K (.ref f9) = true)
    (a10 : PySem.W.nsIn K mainGlobals "_law_mixed" = some (some (.ref f10))) (l10 : K.lookup f10 = some ⟨oc10, od10, .func (PySem.W.fnOf "_law_mixed" "_law_mixed" (ze2 zp6) (zd1 zp6) (za4 zp6) .none kV10 dc10 pm10 an10 cd10 ct10), sl10⟩) (c10 : PySem.W.codeIn K cd10 "_law_mixed" = true) (k10 : PySem.W.keepIn K (.ref f10) = true)
    (a11 : PySem.W.nsIn K mainGlobals "_law_word" = some (some (.ref f11))) (l11 : K.lookup f11 = some ⟨oc11, od11, .func (PySem.W.fnOf "_law_word" "_law_word" (ze2 zr7) (zd1 zr7) (za4 zr7) .none kV11 dc11 pm11 an11 cd11 ct11), sl11⟩) (c11 : PySem.W.codeIn K cd11 "_law_word" = true) (k11 : PySem.W.keepIn K (.ref f11) = true)
    (a12 : PySem.W.nsIn K mainGlobals "_law_piece" = some (some (.ref f12))) (l12 : K.lookup f12 = some ⟨oc12, od12, .func (PySem.W.fnOf "_law_piece" "_law_piece" (ze2 zp7) (zd1 zp7) (za4 zp7) .none kV12 dc12 pm12 an12 cd12 ct12), sl12⟩) (c12 : PySem.W.codeIn K cd12 "_law_piece" = true) (k12 : PySem.W.keepIn K (.ref f12) = true)
    (a13 : PySem.W.nsIn K mainGlobals "_law_due" = some (some (.ref f13))) (l13 : K.lookup f13 = some ⟨oc13, od13, .func (PySem.W.fnOf "_law_due" "_law_due" (ze2 zt5) (zd1 zt5) (za4 zt5) .none kV13 dc13 pm13 an13 cd13 ct13), sl13⟩) (c13 : PySem.W.codeIn K cd13 "_law_due" = true) (k13 : PySem.W.keepIn K (.ref f13) = true)
    (a14 : PySem.W.nsIn K mainGlobals "_law_refused" = some (some (.ref f14))) (l14 : K.lookup f14 = some ⟨oc14, od14, .func (PySem.W.fnOf "_law_refused" "_law_refused" (ze2 zm9) (zd1 zm9) (za4 zm9) .none kV14 dc14 pm14 an14 cd14 ct14), sl14⟩) (c14 : PySem.W.codeIn K cd14 "_law_refused" = true) (k14 : PySem.W.keepIn K (.ref f14) = true)
    (a15 : PySem.W.nsIn K mainGlobals "law" = some (some (.ref f15))) (l15 : K.lookup f15 = some ⟨oc15, od15, .func (PySem.W.fnOf "law" "law" (ze2 zs9) (zd1 zs9) (za4 zs9) .none kV15 dc15 pm15 an15 cd15 ct15), sl15⟩) (c15 : PySem.W.codeIn K cd15 "law" = true) (k15 : PySem.W.keepIn K (.ref f15) = true)
    (z0 : PySem.W.nsIn K mainGlobals "len" = some none)
    (z1 : PySem.W.nsIn K mainGlobals "max" = some none)
    (z2 : PySem.W.nsIn K mainGlobals "range" = some none)
    (z3 : PySem.W.nsIn K mainGlobals "tuple" = some none)
    (z4 : PySem.W.nsIn K mainGlobals "isinstance" = some none)
    (z5 : PySem.W.nsIn K mainGlobals "str" = some none)
    {aHOLDERS : Addr} {odHOLDERS : Option Addr} {nHOLDERS : Nat} {slHOLDERS : Array (Option Value)} {uHOLDERS_0 uHOLDERS_1 uHOLDERS_2 : Tok}
    (g0 : PySem.W.nsIn K mainGlobals "HOLDERS" = some (some (.ref aHOLDERS)))
    (dtHOLDERS : K.lookup aHOLDERS = some ⟨.type "tuple", odHOLDERS, .seq #[.str "group" uHOLDERS_0, .str "hang" uHOLDERS_1, .str "either" uHOLDERS_2] nHOLDERS, slHOLDERS⟩)
    {C_Place : Addr} {f_Place_init : Addr} {od_Place_init an_Place_init : Option Addr} {sl_Place_init : Array (Option Value)} {oc_Place_init kV_Place_init dc_Place_init pm_Place_init cd_Place_init ct_Place_init : Value}
    (gC_Place : PySem.W.nsIn K mainGlobals "Place" = some (some (.ref C_Place)))
    (pg_Place : PySem.W.plainGet K C_Place Str.empty = true)
    (hd_Place : PySem.W.hasDictIn K C_Place = true)
    (po_Place : PySem.W.plainOver K C_Place = true)
    (sa_Place : PySem.W.findIn K (.ref C_Place) "__setattr__" = some (some (.builtin "object.__setattr__")))
    (mk_Place : PySem.W.makesIn K C_Place = true)
    (kc_Place : PySem.W.keepIn K (.ref C_Place) = true)
    (fi_Place_init : PySem.W.findIn K (.ref C_Place) "__init__" = some (some (.ref f_Place_init)))
    (is_Place_init : PySem.W.isFn K (.ref f_Place_init) = true)
    (lo_Place_init : K.lookup f_Place_init = some ⟨oc_Place_init, od_Place_init, .func (PySem.W.fnOf "__init__" "Place.__init__" (ze2 zk3) (zd1 zk3) (za4 zk3) .none kV_Place_init dc_Place_init pm_Place_init an_Place_init cd_Place_init ct_Place_init), sl_Place_init⟩)
    (co_Place_init : PySem.W.codeIn K cd_Place_init "Place.__init__" = true)
    (ke_Place_init : PySem.W.keepIn K (.ref f_Place_init) = true)
    (nf_broken : PySem.W.findIn K (.ref C_Place) "broken" = some none)
    (nf_margin : PySem.W.findIn K (.ref C_Place) "margin" = some none)
    {C_Setter : Addr} {f_Setter_init f_Setter_choice_below f_Setter_set_plain f_Setter_set_holder f_Setter_set_row f_Setter_whole_text : Addr} {od_Setter_init an_Setter_init od_Setter_choice_below an_Setter_choice_below od_Setter_set_plain an_Setter_set_plain od_Setter_set_holder an_Setter_set_holder od_Setter_set_row an_Setter_set_row od_Setter_whole_text an_Setter_whole_text : Option Addr} {sl_Setter_init sl_Setter_choice_below sl_Setter_set_plain sl_Setter_set_holder sl_Setter_set_row sl_Setter_whole_text : Array (Option Value)} {oc_Setter_init kV_Setter_init dc_Setter_init pm_Setter_init cd_Setter_init ct_Setter_init oc_Setter_choice_below kV_Setter_choice_below dc_Setter_choice_below pm_Setter_choice_below cd_Setter_choice_below ct_Setter_choice_below oc_Setter_set_plain kV_Setter_set_plain dc_Setter_set_plain pm_Setter_set_plain cd_Setter_set_plain ct_Setter_set_plain oc_Setter_set_holder kV_Setter_set_holder dc_Setter_set_holder pm_Setter_set_holder cd_Setter_set_holder ct_Setter_set_holder oc_Setter_set_row kV_Setter_set_row dc_Setter_set_row pm_Setter_set_row cd_Setter_set_row ct_Setter_set_row oc_Setter_whole_text kV_Setter_whole_text dc_Setter_whole_text pm_Setter_whole_text cd_Setter_whole_text ct_Setter_whole_text : Value}
    (gC_Setter : PySem.W.nsIn K mainGlobals "Setter" = some (some (.ref C_Setter)))
    (pg_Setter : PySem.W.plainGet K C_Setter Str.empty = true)
    (hd_Setter : PySem.W.hasDictIn K C_Setter = true)
    (po_Setter : PySem.W.plainOver K C_Setter = true)
    (sa_Setter : PySem.W.findIn K (.ref C_Setter) "__setattr__" = some (some (.builtin "object.__setattr__")))
    (mk_Setter : PySem.W.makesIn K C_Setter = true)
    (kc_Setter : PySem.W.keepIn K (.ref C_Setter) = true)
    (fi_Setter_init : PySem.W.findIn K (.ref C_Setter) "__init__" = some (some (.ref f_Setter_init)))
    (is_Setter_init : PySem.W.isFn K (.ref f_Setter_init) = true)
    (lo_Setter_init : K.lookup f_Setter_init = some ⟨oc_Setter_init, od_Setter_init, .func (PySem.W.fnOf "__init__" "Setter.__init__" (ze2 zj4) (zd1 zj4) (za4 zj4) .none kV_Setter_init dc_Setter_init pm_Setter_init an_Setter_init cd_Setter_init ct_Setter_init), sl_Setter_init⟩)
    (co_Setter_init : PySem.W.codeIn K cd_Setter_init "Setter.__init__" = true)
    (ke_Setter_init : PySem.W.keepIn K (.ref f_Setter_init) = true)
    (fi_Setter_choice_below : PySem.W.findIn K (.ref C_Setter) "choice_below" = some (some (.ref f_Setter_choice_below)))
    (is_Setter_choice_below : PySem.W.isFn K (.ref f_Setter_choice_below) = true)
    (lo_Setter_choice_below : K.lookup f_Setter_choice_below = some ⟨oc_Setter_choice_below, od_Setter_choice_below, .func (PySem.W.fnOf "choice_below" "Setter.choice_below" (ze2 zf7) (zd1 zf7) (za4 zf7) .none kV_Setter_choice_below dc_Setter_choice_below pm_Setter_choice_below an_Setter_choice_below cd_Setter_choice_below ct_Setter_choice_below), sl_Setter_choice_below⟩)
    (co_Setter_choice_below : PySem.W.codeIn K cd_Setter_choice_below "Setter.choice_below" = true)
    (ke_Setter_choice_below : PySem.W.keepIn K (.ref f_Setter_choice_below) = true)
    (fi_Setter_set_plain : PySem.W.findIn K (.ref C_Setter) "set_plain" = some (some (.ref f_Setter_set_plain)))
    (is_Setter_set_plain : PySem.W.isFn K (.ref f_Setter_set_plain) = true)
    (lo_Setter_set_plain : K.lookup f_Setter_set_plain = some ⟨oc_Setter_set_plain, od_Setter_set_plain, .func (PySem.W.fnOf "set_plain" "Setter.set_plain" (ze2 zh7) (zd1 zh7) (za4 zh7) .none kV_Setter_set_plain dc_Setter_set_plain pm_Setter_set_plain an_Setter_set_plain cd_Setter_set_plain ct_Setter_set_plain), sl_Setter_set_plain⟩)
    (co_Setter_set_plain : PySem.W.codeIn K cd_Setter_set_plain "Setter.set_plain" = true)
    (ke_Setter_set_plain : PySem.W.keepIn K (.ref f_Setter_set_plain) = true)
    (fi_Setter_set_holder : PySem.W.findIn K (.ref C_Setter) "set_holder" = some (some (.ref f_Setter_set_holder)))
    (is_Setter_set_holder : PySem.W.isFn K (.ref f_Setter_set_holder) = true)
    (lo_Setter_set_holder : K.lookup f_Setter_set_holder = some ⟨oc_Setter_set_holder, od_Setter_set_holder, .func (PySem.W.fnOf "set_holder" "Setter.set_holder" (ze2 zh1) (zd1 zh1) (za4 zh1) .none kV_Setter_set_holder dc_Setter_set_holder pm_Setter_set_holder an_Setter_set_holder cd_Setter_set_holder ct_Setter_set_holder), sl_Setter_set_holder⟩)
    (co_Setter_set_holder : PySem.W.codeIn K cd_Setter_set_holder "Setter.set_holder" = true)
    (ke_Setter_set_holder : PySem.W.keepIn K (.ref f_Setter_set_holder) = true)
    (fi_Setter_set_row : PySem.W.findIn K (.ref C_Setter) "set_row" = some (some (.ref f_Setter_set_row)))
    (is_Setter_set_row : PySem.W.isFn K (.ref f_Setter_set_row) = true)
    (lo_Setter_set_row : K.lookup f_Setter_set_row = some ⟨oc_Setter_set_row, od_Setter_set_row, .func (PySem.W.fnOf "set_row" "Setter.set_row" (ze2 zg3) (zd1 zg3) (za4 zg3) .none kV_Setter_set_row dc_Setter_set_row pm_Setter_set_row an_Setter_set_row cd_Setter_set_row ct_Setter_set_row), sl_Setter_set_row⟩)
    (co_Setter_set_row : PySem.W.codeIn K cd_Setter_set_row "Setter.set_row" = true)
    (ke_Setter_set_row : PySem.W.keepIn K (.ref f_Setter_set_row) = true)
    (fi_Setter_whole_text : PySem.W.findIn K (.ref C_Setter) "whole_text" = some (some (.ref f_Setter_whole_text)))
    (is_Setter_whole_text : PySem.W.isFn K (.ref f_Setter_whole_text) = true)
    (lo_Setter_whole_text : K.lookup f_Setter_whole_text = some ⟨oc_Setter_whole_text, od_Setter_whole_text, .func (PySem.W.fnOf "whole_text" "Setter.whole_text" (ze2 ze9) (zd1 ze9) (za4 ze9) .none kV_Setter_whole_text dc_Setter_whole_text pm_Setter_whole_text an_Setter_whole_text cd_Setter_whole_text ct_Setter_whole_text), sl_Setter_whole_text⟩)
    (co_Setter_whole_text : PySem.W.codeIn K cd_Setter_whole_text "Setter.whole_text" = true)
    (ke_Setter_whole_text : PySem.W.keepIn K (.ref f_Setter_whole_text) = true)
    (nf_choices : PySem.W.findIn K (.ref C_Setter) "choices" = some none)
    (nf_used : PySem.W.findIn K (.ref C_Setter) "used" = some none)
    (nf_column : PySem.W.findIn K (.ref C_Setter) "column" = some none)
    (nf_parts : PySem.W.findIn K (.ref C_Setter) "parts" = some none)
    {C_NoChoice : Addr} (gE_NoChoice : PySem.W.nsIn K mainGlobals "NoChoice" = some (some (.ref C_NoChoice))) (xE_NoChoice : PySem.W.excIn K C_NoChoice [.type "ValueError", .type "Exception", .type "BaseException", .type "object"] "ValueError.__new__" = true)
    : ∃ fd : FuncData, (∀ (s : Shared) (v : Value), BindsTo s fd ⟨[v], []⟩ [("_law_script", v)]) /\ ∀ base : Heap, K.In base -> base.Ns mainGlobals mg -> FnOk l.prog w K mg base CX0 12 fa fd ["_law_script"] (yx7 K) := by
  have e := hfa.symm.trans (PySem.W.mg_of X G a15)
  cases e
  have D_p_first_place := zo1 (st := zh8) (ps := []) X G a0 l0 c0 k0 fun _ _ _ _ _ _ us hl => match us, hl with | [], _ => rfl
  have D_p_holds_rows := zo1 (st := zk1) (ps := ["piece"]) X G a1 l1 c1 k1 fun _ _ _ _ _ _ => zg9 (fun _ => rfl)
  have D_p_takes_choice := zo1 (st := zi4) (ps := ["piece", "place"]) X G a2 l2 c2 k2 fun _ _ _ _ _ _ => zg9 (fun _ _ => rfl)
  have D_p_ways := zo1 (st := zp3) (ps := ["piece", "place"]) X G a3 l3 c3 k3 fun _ _ _ _ _ _ => zg9 (fun _ _ => rfl)
  have D_p_new_line := zo1 (st := zl5) (ps := ["blanks"]) X G a4 l4 c4 k4 fun _ _ _ _ _ _ => zg9 (fun _ => rfl)
  have D_p_writing := zo1 (st := zm8) (ps := ["piece", "place", "column"]) X G a5 l5 c5 k5 fun _ _ _ _ _ _ => zg9 (fun _ _ _ => rfl)
  have D_p_ends_line := zo1 (st := zk4) (ps := ["wrote"]) X G a6 l6 c6 k6 fun _ _ _ _ _ _ => zg9 (fun _ => rfl)
  have D_p_column_behind := zo1 (st := zh9) (ps := ["column", "wrote"]) X G a7 l7 c7 k7 fun _ _ _ _ _ _ => zg9 (fun _ _ => rfl)
  have D_p_set_by := zo1 (st := zk7) (ps := ["row", "choices"]) X G a8 l8 c8 k8 fun _ _ _ _ _ _ => zg9 (fun _ _ => rfl)
  have D_l_cell_at := zo1 (st := zm7) (ps := ["_law_script", "_law_k"]) X G a9 l9 c9 k9 fun _ _ _ _ _ _ => zg9 (fun _ _ => rfl)
  have D_l_mixed := zo1 (st := zp6) (ps := ["_law_script", "_law_k", "_law_salt"]) X G a10 l10 c10 k10 fun _ _ _ _ _ _ => zg9 (fun _ _ _ => rfl)
  have D_l_word := zo1 (st := zr7) (ps := ["_law_number"]) X G a11 l11 c11 k11 fun _ _ _ _ _ _ => zg9 (fun _ => rfl)
  have D_l_piece := zo1 (st := zp7) (ps := ["_law_number"]) X G a12 l12 c12 k12 fun _ _ _ _ _ _ => zg9 (fun _ => rfl)
  have D_l_due := zo1 (st := zt5) (ps := ["_law_row"]) X G a13 l13 c13 k13 fun _ _ _ _ _ _ => zg9 (fun _ => rfl)
  have D_l_refused := zo1 (st := zm9) (ps := ["_law_row", "_law_choices"]) X G a14 l14 c14 k14 fun _ _ _ _ _ _ => zg9 (fun _ _ => rfl)
  have D_law := zo1 (st := zs9) (ps := ["_law_script"]) X G a15 l15 c15 k15 fun _ _ _ _ _ _ => zg9 (fun _ => rfl)
  obtain ⟨κ, hκ⟩ : ∃ κ, κ = (kap [("Place", C_Place), ("Setter", C_Setter)]) := ⟨_, rfl⟩
  have eK_Place : κ "Place" = C_Place := by rw [hκ]; simp [kap, ze1]
  have cl_Place : Cls K (κ "Place") := by rw [eK_Place]; exact ⟨pg_Place, hd_Place, po_Place, sa_Place⟩
  have K_Place : Kn K mg κ "Place" "Place.__init__" zk3 ["self", "broken", "margin"] f_Place_init _ := ⟨(zl6 lo_Place_init co_Place_init ke_Place_init), ((zl6 lo_Place_init co_Place_init ke_Place_init).binds fun _ _ _ _ _ _ => zg9 (fun _ _ _ => rfl)), (by rw [eK_Place]; exact ⟨mk_Place, fi_Place_init, is_Place_init, kc_Place⟩), (by rw [eK_Place]; exact PySem.W.mg_of X G gC_Place)⟩
  have na_broken : zd6 K (κ "Place") "broken" := by rw [eK_Place]; exact nf_broken
  have na_margin : zd6 K (κ "Place") "margin" := by rw [eK_Place]; exact nf_margin
  have eK_Setter : κ "Setter" = C_Setter := by rw [hκ]; simp [kap, ze1]
  have cl_Setter : Cls K (κ "Setter") := by rw [eK_Setter]; exact ⟨pg_Setter, hd_Setter, po_Setter, sa_Setter⟩
  have K_Setter : Kn K mg κ "Setter" "Setter.__init__" zj4 ["self", "choices"] f_Setter_init _ := ⟨(zl6 lo_Setter_init co_Setter_init ke_Setter_init), ((zl6 lo_Setter_init co_Setter_init ke_Setter_init).binds fun _ _ _ _ _ _ => zg9 (fun _ _ => rfl)), (by rw [eK_Setter]; exact ⟨mk_Setter, fi_Setter_init, is_Setter_init, kc_Setter⟩), (by rw [eK_Setter]; exact PySem.W.mg_of X G gC_Setter)⟩
  have M_Setter_choice_below : Mn K κ "Setter" "choice_below" "Setter.choice_below" zf7 ["self", "count"] f_Setter_choice_below _ := ⟨(zl6 lo_Setter_choice_below co_Setter_choice_below ke_Setter_choice_below), ((zl6 lo_Setter_choice_below co_Setter_choice_below ke_Setter_choice_below).binds fun _ _ _ _ _ _ => zg9 (fun _ _ => rfl)), cl_Setter, (by rw [eK_Setter]; exact ⟨fi_Setter_choice_below, is_Setter_choice_below, ke_Setter_choice_below⟩)⟩
  have M_Setter_set_plain : Mn K κ "Setter" "set_plain" "Setter.set_plain" zh7 ["self", "piece", "place"] f_Setter_set_plain _ := ⟨(zl6 lo_Setter_set_plain co_Setter_set_plain ke_Setter_set_plain), ((zl6 lo_Setter_set_plain co_Setter_set_plain ke_Setter_set_plain).binds fun _ _ _ _ _ _ => zg9 (fun _ _ _ => rfl)), cl_Setter, (by rw [eK_Setter]; exact ⟨fi_Setter_set_plain, is_Setter_set_plain, ke_Setter_set_plain⟩)⟩
  have M_Setter_set_holder : Mn K κ "Setter" "set_holder" "Setter.set_holder" zh1 ["self", "piece", "place"] f_Setter_set_holder _ := ⟨(zl6 lo_Setter_set_holder co_Setter_set_holder ke_Setter_set_holder), ((zl6 lo_Setter_set_holder co_Setter_set_holder ke_Setter_set_holder).binds fun _ _ _ _ _ _ => zg9 (fun _ _ _ => rfl)), cl_Setter, (by rw [eK_Setter]; exact ⟨fi_Setter_set_holder, is_Setter_set_holder, ke_Setter_set_holder⟩)⟩
  have M_Setter_set_row : Mn K κ "Setter" "set_row" "Setter.set_row" zg3 ["self", "row", "place"] f_Setter_set_row _ := ⟨(zl6 lo_Setter_set_row co_Setter_set_row ke_Setter_set_row), ((zl6 lo_Setter_set_row co_Setter_set_row ke_Setter_set_row).binds fun _ _ _ _ _ _ => zg9 (fun _ _ _ => rfl)), cl_Setter, (by rw [eK_Setter]; exact ⟨fi_Setter_set_row, is_Setter_set_row, ke_Setter_set_row⟩)⟩
  have M_Setter_whole_text : Mn K κ "Setter" "whole_text" "Setter.whole_text" ze9 ["self"] f_Setter_whole_text _ := ⟨(zl6 lo_Setter_whole_text co_Setter_whole_text ke_Setter_whole_text), ((zl6 lo_Setter_whole_text co_Setter_whole_text ke_Setter_whole_text).binds fun _ _ _ _ _ _ => zg9 (fun _ => rfl)), cl_Setter, (by rw [eK_Setter]; exact ⟨fi_Setter_whole_text, is_Setter_whole_text, ke_Setter_whole_text⟩)⟩
  have na_choices : zd6 K (κ "Setter") "choices" := by rw [eK_Setter]; exact nf_choices
  have na_used : zd6 K (κ "Setter") "used" := by rw [eK_Setter]; exact nf_used
  have na_column : zd6 K (κ "Setter") "column" := by rw [eK_Setter]; exact nf_column
  have na_parts : zd6 K (κ "Setter") "parts" := by rw [eK_Setter]; exact nf_parts
  have z_len := PySem.W.mg_none_of X G z0
  have z_max := PySem.W.mg_none_of X G z1
  have z_range := PySem.W.mg_none_of X G z2
  have z_tuple := PySem.W.mg_none_of X G z3
  have z_isinstance := PySem.W.mg_none_of X G z4
  have z_str := PySem.W.mg_none_of X G z5
  have g_HOLDERS := PySem.W.mg_of X G g0
  have k_HOLDERS : ∀ H, Rep K κ H (.ref aHOLDERS) (.tup [(.str "group"), (.str "hang"), (.str "either")]) [] := fun H => xs9 (ys := [("group", uHOLDERS_0), ("hang", uHOLDERS_1), ("either", uHOLDERS_2)]) dtHOLDERS (Nat.le_of_ble_eq_true rfl) H
  refine ⟨PySem.W.fnOf "law" "law" (ze2 zs9) (zd1 zs9) (za4 zs9) .none kV15 dc15 pm15 an15 cd15 ct15, fun s v => .of_eq rfl, fun base KB _ => ?_⟩
  have O_NoChoice : OwnCls "NoChoice" C_NoChoice bmV "ValueError.__new__" mg base := ⟨PySem.W.mg_of X G gE_NoChoice, xy6 KB xE_NoChoice⟩
  have H1 := xa2 (P := l.prog) (w := w) (base := base) (n := 0) D_l_cell_at z_len
  have H2 := xj5 (n := 1) D_l_mixed D_l_cell_at H1 z_len z_max
  have G_l_mixed := wi5 (κ := κ) H2
  have G_l_word := xo8 (P := l.prog) (w := w) (base := base) (κ := κ) (n := 0) D_l_word z_range z_len
  have G_l_piece := xj6 (P := l.prog) (w := w) (base := base) (κ := κ) (n := 1) D_l_piece D_l_word (G_l_word.mono (by decide))
  have G_l_due := xt2 (P := l.prog) (w := w) (base := base) (κ := κ) (n := 0) D_l_due z_len
  have G_Setter_init := ys5 (P := l.prog) (w := w) (base := base) (κ := κ) (n := 0) K_Setter cl_Setter na_choices na_used na_column na_parts
  have G_p_holds_rows := yp5 (P := l.prog) (w := w) (base := base) (κ := κ) (n := 0) D_p_holds_rows g_HOLDERS k_HOLDERS
  have G_p_new_line := yw8 (P := l.prog) (w := w) (base := base) (κ := κ) (n := 0) D_p_new_line
  have G_p_writing := xa3 (P := l.prog) (w := w) (base := base) (κ := κ) (n := 1) D_p_writing D_p_new_line (G_p_new_line.mono (by decide)) cl_Place na_broken na_margin
  have G_p_ends_line := ys3 (P := l.prog) (w := w) (base := base) (κ := κ) (n := 0) D_p_ends_line
  have G_p_column_behind := yh1 (P := l.prog) (w := w) (base := base) (κ := κ) (n := 1) D_p_column_behind D_p_ends_line (G_p_ends_line.mono (by decide)) z_len
  have G_Setter_set_plain := yf7 (P := l.prog) (w := w) (base := base) (κ := κ) (n := 2) M_Setter_set_plain D_p_writing (G_p_writing.mono (by decide)) D_p_column_behind (G_p_column_behind.mono (by decide)) cl_Setter na_column na_parts
  have G_Place_init := yx0 (P := l.prog) (w := w) (base := base) (κ := κ) (n := 0) K_Place cl_Place na_broken na_margin
  have G_p_ways := xo7 (P := l.prog) (w := w) (base := base) (κ := κ) (n := 1) D_p_ways K_Place (G_Place_init.mono (by decide)) cl_Place na_broken na_margin
  have G_p_takes_choice := yk7 (P := l.prog) (w := w) (base := base) (κ := κ) (n := 0) D_p_takes_choice cl_Place na_broken
  have G_Setter_choice_below := yb7 (P := l.prog) (w := w) (base := base) (κ := κ) (n := 0) M_Setter_choice_below cl_Setter na_used na_choices z_len
  have L_Setter_set_row : ∀ n, FnOk l.prog w K mg base CX0 (2 * n + 3) _ _ ["self", "row", "place"] (SpE 3 K κ (zd3 [true, false, false]) (zt3 n)) := fun n => by
    induction n with
    | zero => exact FnOk.noneE (ps := ["self", "row", "place"])
    | succ n ih => exact yk8 (n := 2 * n + 4) M_Setter_set_row D_p_holds_rows (G_p_holds_rows.mono (by omega)) M_Setter_set_holder (yd8 (n := 2 * n + 3) M_Setter_set_holder D_p_ways (G_p_ways.mono (by omega)) D_p_takes_choice (G_p_takes_choice.mono (by omega)) M_Setter_choice_below (G_Setter_choice_below.mono (by omega)) M_Setter_set_row ih z_len) M_Setter_set_plain (G_Setter_set_plain.mono (by omega))
  have G_Setter_set_row := L_Setter_set_row 3
  have G_p_first_place := ym4 (P := l.prog) (w := w) (base := base) (κ := κ) (n := 1) D_p_first_place K_Place (G_Place_init.mono (by decide))
  have G_Setter_whole_text := yd9 (P := l.prog) (w := w) (base := base) (κ := κ) (n := 0) M_Setter_whole_text cl_Setter na_used na_parts na_choices z_len
  have G_p_set_by := xe0 (P := l.prog) (w := w) (base := base) (κ := κ) (n := 8) D_p_set_by K_Setter (G_Setter_init.mono (by decide)) M_Setter_set_row (G_Setter_set_row.mono (by decide)) D_p_first_place (G_p_first_place.mono (by decide)) M_Setter_whole_text (G_Setter_whole_text.mono (by decide))
  have GX_Setter_whole_text := yc7 (P := l.prog) (w := w) (base := base) (κ := κ) (n := 0) M_Setter_whole_text O_NoChoice cl_Setter na_used na_parts na_choices z_len
  have GX_p_set_by := xa4 (P := l.prog) (w := w) (base := base) (κ := κ) (n := 8) D_p_set_by K_Setter (G_Setter_init.mono (by decide)) M_Setter_set_row (G_Setter_set_row.mono (by decide)) D_p_first_place (G_p_first_place.mono (by decide)) M_Setter_whole_text (GX_Setter_whole_text.mono (by decide)) O_NoChoice
  have G_l_refused := xa6 (P := l.prog) (w := w) (base := base) (κ := κ) (n := 10) D_l_refused D_p_set_by (GX_p_set_by.mono (by decide)) O_NoChoice
  have G_law := wd3 (P := l.prog) (w := w) (base := base) (κ := κ) (n := 11) D_law D_l_mixed (G_l_mixed.mono (by decide)) D_l_piece (G_l_piece.mono (by decide)) D_l_due (G_l_due.mono (by decide)) D_p_set_by (G_p_set_by.mono (by decide)) D_l_refused (G_l_refused.mono (by decide)) z_tuple z_range z_isinstance z_str
  exact wi6 G_law fun ns hl => xq2 (by decide) (by decide) (fun j s h0 h1 h2 h3 => xu4 hl j s h0 h1 h2 h3)
end My
open PySem PySem.W PyProof.Rows
set_option maxRecDepth 100000 in
set_option maxHeartbeats 0 in
theorem PySem.Challenge.cw_linepress_k09_plain_rows_set_holds : PySem.Challenge.rw_linepress_k09_plain_rows_set.Holds := by
  w_on; o_law; k_head; (case hw => w_witness2)
  k_fill
  refine My.wi7 (lev := 12) (l := PySem.Challenge.rw_linepress_k09_plain_rows_set) rfl rfl ⟨rfl, by decide, by decide⟩ (fun w h Y => PySem.W.kIn_of Y) ?F
  case F =>
    intro w mg fa h KX G hmg
    refine' My.we5 KX G hmg ?my_a0 ?my_l0 ?my_c0 ?my_k0 ?my_a1 ?my_l1 ?my_c1 ?my_k1 ?my_a2 ?my_l2 ?my_c2 ?my_k2 ?my_a3 ?my_l3 ?my_c3 ?my_k3 ?my_a4 ?my_l4 ?my_c4 ?my_k4 ?my_a5 ?my_l5 ?my_c5 ?my_k5 ?my_a6 ?my_l6 ?my_c6 ?my_k6 ?my_a7 ?my_l7 ?my_c7 ?my_k7 ?my_a8 ?my_l8 ?my_c8 ?my_k8 ?my_a9 ?my_l9 ?my_c9 ?my_k9 ?my_a10 ?my_l10 ?my_c10 ?my_k10 ?my_a11 ?my_l11 ?my_c11 ?my_k11 ?my_a12 ?my_l12 ?my_c12 ?my_k12 ?my_a13 ?my_l13 ?my_c13 ?my_k13 ?my_a14 ?my_l14 ?my_c14 ?my_k14 ?my_a15 ?my_l15 ?my_c15 ?my_k15 ?my_z0 ?my_z1 ?my_z2 ?my_z3 ?my_z4 ?my_z5 ?my_g0 ?my_dtHOLDERS ?my_gC_Place ?my_pg_Place ?my_hd_Place ?my_po_Place ?my_sa_Place ?my_mk_Place ?my_kc_Place ?my_fi_Place_init ?my_is_Place_init ?my_lo_Place_init ?my_co_Place_init ?my_ke_Place_init ?my_nf_broken ?my_nf_margin ?my_gC_Setter ?my_pg_Setter ?my_hd_Setter ?my_po_Setter ?my_sa_Setter ?my_mk_Setter ?my_kc_Setter ?my_fi_Setter_init ?my_is_Setter_init ?my_lo_Setter_init ?my_co_Setter_init ?my_ke_Setter_init ?my_fi_Setter_choice_below ?my_is_Setter_choice_below ?my_lo_Setter_choice_below ?my_co_Setter_choice_below ?my_ke_Setter_choice_below ?my_fi_Setter_set_plain ?my_is_Setter_set_plain ?my_lo_Setter_set_plain ?my_co_Setter_set_plain ?my_ke_Setter_set_plain ?my_fi_Setter_set_holder ?my_is_Setter_set_holder ?my_lo_Setter_set_holder ?my_co_Setter_set_holder ?my_ke_Setter_set_holder ?my_fi_Setter_set_row ?my_is_Setter_set_row ?my_lo_Setter_set_row ?my_co_Setter_set_row ?my_ke_Setter_set_row ?my_fi_Setter_whole_text ?my_is_Setter_whole_text ?my_lo_Setter_whole_text ?my_co_Setter_whole_text ?my_ke_Setter_whole_text ?my_nf_choices ?my_nf_used ?my_nf_column ?my_nf_parts ?my_gE_NoChoice ?my_xE_NoChoice
    (case my_a0 => k_is)
    (case my_l0 => k_is)
    (case my_c0 => k_is)
    (case my_k0 => k_is)
    (case my_a1 => k_is)
    (case my_l1 => k_is)
    (case my_c1 => k_is)
    (case my_k1 => k_is)
    (case my_a2 => k_is)
    (case my_l2 => k_is)
    (case my_c2 => k_is)
    (case my_k2 => k_is)
    (case my_a3 => k_is)
    (case my_l3 => k_is)
    (case my_c3 => k_is)
    (case my_k3 => k_is)
    (case my_a4 => k_is)
    (case my_l4 => k_is)
    (case my_c4 => k_is)
    (case my_k4 => k_is)
    (case my_a5 => k_is)
    (case my_l5 => k_is)
    (case my_c5 => k_is)
    (case my_k5 => k_is)
    (case my_a6 => k_is)
    (case my_l6 => k_is)
    (case my_c6 => k_is)
    (case my_k6 => k_is)
    (case my_a7 => k_is)
    (case my_l7 => k_is)
    (case my_c7 => k_is)
    (case my_k7 => k_is)
    (case my_a8 => k_is)
    (case my_l8 => k_is)
    (case my_c8 => k_is)
    (case my_k8 => k_is)
    (case my_a9 => k_is)
    (case my_l9 => k_is)
    (case my_c9 => k_is)
    (case my_k9 => k_is)
    (case my_a10 => k_is)
    (case my_l10 => k_is)
    (case my_c10 => k_is)
    (case my_k10 => k_is)
    (case my_a11 => k_is)
    (case my_l11 => k_is)
    (case my_c11 => k_is)
    (case my_k11 => k_is)
    (case my_a12 => k_is)
    (case my_l12 => k_is)
    (case my_c12 => k_is)
    (case my_k12 => k_is)
    (case my_a13 => k_is)
    (case my_l13 => k_is)
    (case my_c13 => k_is)
    (case my_k13 => k_is)
    (case my_a14 => k_is)
    (case my_l14 => k_is)
    (case my_c14 => k_is)
    (case my_k14 => k_is)
    (case my_a15 => k_is)
    (case my_l15 => k_is)
    (case my_c15 => k_is)
    (case my_k15 => k_is)
    (case my_z0 => k_is)
    (case my_z1 => k_is)
    (case my_z2 => k_is)
    (case my_z3 => k_is)
    (case my_z4 => k_is)
    (case my_z5 => k_is)
    (case my_g0 => k_is)
    (case my_dtHOLDERS => k_is)
    (case my_gC_Place => k_is)
    (case my_pg_Place => k_is)
    (case my_hd_Place => k_is)
    (case my_po_Place => k_is)
    (case my_sa_Place => k_is)
    (case my_mk_Place => k_is)
    (case my_kc_Place => k_is)
    (case my_fi_Place_init => k_is)
    (case my_is_Place_init => k_is)
    (case my_lo_Place_init => k_is)
    (case my_co_Place_init => k_is)
    (case my_ke_Place_init => k_is)
    (case my_nf_broken => k_is)
    (case my_nf_margin => k_is)
    (case my_gC_Setter => k_is)
    (case my_pg_Setter => k_is)
    (case my_hd_Setter => k_is)
    (case my_po_Setter => k_is)
    (case my_sa_Setter => k_is)
    (case my_mk_Setter => k_is)
    (case my_kc_Setter => k_is)
    (case my_fi_Setter_init => k_is)
    (case my_is_Setter_init => k_is)
    (case my_lo_Setter_init => k_is)
    (case my_co_Setter_init => k_is)
    (case my_ke_Setter_init => k_is)
    (case my_fi_Setter_choice_below => k_is)
    (case my_is_Setter_choice_below => k_is)
    (case my_lo_Setter_choice_below => k_is)
    (case my_co_Setter_choice_below => k_is)
    (case my_ke_Setter_choice_below => k_is)
    (case my_fi_Setter_set_plain => k_is)
    (case my_is_Setter_set_plain => k_is)
    (case my_lo_Setter_set_plain => k_is)
    (case my_co_Setter_set_plain => k_is)
    (case my_ke_Setter_set_plain => k_is)
    (case my_fi_Setter_set_holder => k_is)
    (case my_is_Setter_set_holder => k_is)
    (case my_lo_Setter_set_holder => k_is)
    (case my_co_Setter_set_holder => k_is)
    (case my_ke_Setter_set_holder => k_is)
    (case my_fi_Setter_set_row => k_is)
    (case my_is_Setter_set_row => k_is)
    (case my_lo_Setter_set_row => k_is)
    (case my_co_Setter_set_row => k_is)
    (case my_ke_Setter_set_row => k_is)
    (case my_fi_Setter_whole_text => k_is)
    (case my_is_Setter_whole_text => k_is)
    (case my_lo_Setter_whole_text => k_is)
    (case my_co_Setter_whole_text => k_is)
    (case my_ke_Setter_whole_text => k_is)
    (case my_nf_choices => k_is)
    (case my_nf_used => k_is)
    (case my_nf_column => k_is)
    (case my_nf_parts => k_is)
    (case my_gE_NoChoice => k_is)
    (case my_xE_NoChoice => k_exc)
#print axioms PySem.Challenge.cw_linepress_k09_plain_rows_set_holds

