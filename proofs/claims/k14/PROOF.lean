import PyProof.Rows.All
import Wide.All
import OpenK.AllK
import Wide.FinOn
import Lean
import PyProof.EqAt
import PyProof.EqKinds
import PyProof.TupleCall
import PySem.Challenge.RW_linepress_k14_words_kept
set_option Elab.async false
set_option bootstrap.genMatcherCode false
set_option linter.all false
set_option maxRecDepth 100000
set_option maxHeartbeats 1000000
namespace L2
open PySem PySem.Spec PyProof.Rows
noncomputable abbrev Key := Sum Int Str
noncomputable def wo8 : Key -> Value -> Bool
  | .inl k, v => Value.isInt k v
  | .inr x, v => Value.isStrOf x v
noncomputable def kc8 (w : World) : Key -> Int
  | .inl k => hashInt k
  | .inr x => hashStr w x
theorem zo6 : ∀ {k : Key} {v : Value}, wo8 k v = true -> (∃ i t, k = Sum.inl i /\ v = Value.int i t) \/ (∃ x t, k = Sum.inr x /\ v = Value.str x t)
  | .inl i, v, h => by
    obtain ⟨t, e⟩ := Value.isInt_shape (k := i) (v := v) h
    exact .inl ⟨i, t, rfl, e⟩
  | .inr x, v, h => by
    obtain ⟨t, e⟩ := Value.isStrOf_shape (x := x) (v := v) h
    exact .inr ⟨x, t, rfl, e⟩
theorem wt4 (a b : Int) : decide ((Sum.inl a : Key) = Sum.inl b) = (a == b) := by
  by_cases e : a = b
  . subst e; simp
  . have h : ¬ (Sum.inl a : Key) = Sum.inl b := fun q => e (Sum.inl.inj q)
    rw [decide_eq_false h]
    exact (beq_eq_false_iff_ne.mpr e).symm
theorem wt5 (a b : Str) : decide ((Sum.inr a : Key) = Sum.inr b) = decide (a = b) := by
  by_cases e : a = b
  . subst e; simp
  . have h : ¬ (Sum.inr a : Key) = Sum.inr b := fun q => e (Sum.inr.inj q)
    rw [decide_eq_false h, decide_eq_false e]
theorem wt6 (a : Int) (b : Str) : decide ((Sum.inl a : Key) = Sum.inr b) = false := decide_eq_false (fun q => nomatch q)
theorem wt7 (a : Str) (b : Int) : decide ((Sum.inr a : Key) = Sum.inl b) = false := decide_eq_false (fun q => nomatch q)
noncomputable def xg0 (prog : Program) (w : World) : PySem.KeyKind prog w Key where
  is := wo8
  hash := kc8 w
  inj := fun v a b ha hb => by
    rcases zo6 ha with ⟨i, t, rfl, rfl⟩ | ⟨x, t, rfl, rfl⟩
    . rcases zo6 hb with ⟨j, u, rfl, e⟩ | ⟨y, u, rfl, e⟩
      . injection e with e1 _; rw [e1]
      . exact nomatch e
    . rcases zo6 hb with ⟨j, u, rfl, e⟩ | ⟨y, u, rfl, e⟩
      . exact nomatch e
      . injection e with e1 _; rw [e1]
  byValue := fun k v h => by
    rcases zo6 h with ⟨i, t, rfl, rfl⟩ | ⟨x, t, rfl, rfl⟩ <;> rfl
  pyHash := fun hv h => by
    rcases zo6 hv with ⟨i, t, rfl, rfl⟩ | ⟨x, t, rfl, rfl⟩
    . exact wpAny_pyHash_int h
    . exact wpAny_pyHash_str h
  eqBool := fun hu hv h => by
    rcases zo6 hu with ⟨i, t, rfl, rfl⟩ | ⟨x, t, rfl, rfl⟩
    . rcases zo6 hv with ⟨j, u, rfl, rfl⟩ | ⟨y, u, rfl, rfl⟩
      . rw [wt4] at h; exact wpAny_eqBool_int h
      . rw [wt6] at h; exact SeqAt.EqAt.int_str i t y u _ _ _ _ h
    . rcases zo6 hv with ⟨j, u, rfl, rfl⟩ | ⟨y, u, rfl, rfl⟩
      . rw [wt7] at h; exact SeqAt.EqAt.str_int x t j u _ _ _ _ h
      . rw [wt5] at h; exact wpAny_eqBool_str h
  «strs» := fun k x t v h => by
    rcases zo6 h with ⟨i, u, rfl, e⟩ | ⟨y, u, rfl, e⟩
    . exact nomatch e
    . injection e with e1 _
      subst e1
      cases v <;> rfl
end L2
namespace L2
open PySem PySem.Spec PyProof.Rows
inductive V where
  | non | bl (b : Bool) | int (i : Int) | str (x : Str) | byt (b : Array UInt8) | flt (b : UInt64) | ref (a : Addr) | ty (n : String)
  deriving DecidableEq
noncomputable def zg4 : V -> Value -> Prop
  | .non, u => u = Value.none
  | .bl b, u => u = Value.bool b
  | .int i, u => ∃ t, u = Value.int i t
  | .str x, u => ∃ t, u = Value.str x t
  | .byt b, u => ∃ t, u = Value.bytes b t
  | .flt b, u => ∃ t, u = Value.float b t
  | .ref a, u => u = Value.ref a
  | .ty n, u => u = Value.type n
noncomputable abbrev zd5 : List V -> List Value -> Prop := Paired zg4
theorem zd5.length {xs : List V} {us : List Value} (r : zd5 xs us) : xs.length = us.length := Paired.length r
theorem zd5.get : ∀ {xs : List V} {us : List Value} {i : Nat} {x : V}, zd5 xs us -> xs[i]? = some x -> ∃ u, us[i]? = some u /\ zg4 x u
  | _, _, _, _, .nil, e => by simp at e
  | _, _, 0, _, .cons r _, e => by simp at e; subst e; exact ⟨_, rfl, r⟩
  | _, _, i + 1, x, .cons _ t, e => by
    obtain ⟨u, h1, h2⟩ := zd5.get (i := i) (x := x) t (by simpa using e)
    exact ⟨u, by simpa using h1, h2⟩
theorem zd5.set {x : V} {u : Value} (r : zg4 x u) : ∀ {xs : List V} {us : List Value} (i : Nat), zd5 xs us -> zd5 (xs.set i x) (us.set i u)
  | _, _, _, .nil => .nil
  | _, _, 0, .cons _ t => .cons r t
  | _, _, i + 1, .cons q t => .cons q (zd5.set r i t)
theorem zd5.append : ∀ {xs ys : List V} {us ws : List Value}, zd5 xs us -> zd5 ys ws -> zd5 (xs ++ ys) (us ++ ws)
  | _, _, _, _, .nil, s => s
  | _, _, _, _, .cons r t, s => .cons r (zd5.append t s)
theorem zd5.take : ∀ {xs : List V} {us : List Value} (n : Nat), zd5 xs us -> zd5 (xs.take n) (us.take n)
  | _, _, 0, _ => .nil
  | _, _, _ + 1, .nil => .nil
  | _, _, n + 1, .cons r t => .cons r (zd5.take n t)
theorem zd5.drop : ∀ {xs : List V} {us : List Value} (n : Nat), zd5 xs us -> zd5 (xs.drop n) (us.drop n)
  | _, _, 0, r => r
  | _, _, _ + 1, .nil => .nil
  | _, _, n + 1, .cons _ t => zd5.drop n t
theorem zd5.none_of : ∀ {xs : List V} {us : List Value} {i : Nat}, zd5 xs us -> xs[i]? = none -> us[i]? = none := fun {xs us i} r e => by
  have h1 := r.length
  have h2 : xs.length <= i := List.getElem?_eq_none_iff.mp e
  exact List.getElem?_eq_none_iff.mpr (by omega)
noncomputable def zv8 : Option V -> Option Value -> Prop
  | some v, some u => zg4 v u
  | none, none => True
  | _, _ => False
noncomputable def KV {κ : Type} : List (κ × V) -> List (κ × Value) -> Prop := Paired fun (p : κ × V) (q : κ × Value) => p.1 = q.1 /\ zg4 p.2 q.2
noncomputable def kV : Key -> V
  | .inl i => .int i
  | .inr x => .str x
inductive HO where
  | lst (xs : List V)
  | tup (xs : List V)
  | dK (kvs : List (Key × V)) | dT (kvs : List (List Key × V))
  | set (S : Int -> Bool) (n : Nat)
  | ins (C dx : Addr) (fs : List (Str × V))
  | own (x : Addr)
  | xd (fs : List (Str × V))
  | met (f x : Addr)
  | rng (lo hi : Int)
  | frz (o : Obj) (u : HO)
  | tbl (ps : Array Value)
  | ext (φ : Heap -> Prop)
noncomputable abbrev Hp := Addr -> Option HO
noncomputable def upd (H : Hp) (a : Addr) (o : HO) : Hp := fun b => if b = a then some o else H b
theorem zi9 {H : Hp} {a : Addr} {o : HO} : upd H a o a = some o := by unfold upd; rw [if_pos rfl]
theorem zg3 {H : Hp} {a b : Addr} {o : HO} (h : b ≠ a) : upd H a o b = H b := by unfold upd; rw [if_neg h]
theorem zy4 {H : Hp} {a b : Addr} {o : HO} (h : H a = some o) (h' : H b = none) : a ≠ b := by
  intro e; subst e; rw [h] at h'; cases h'
section
variable (P : Program) (w : World)
noncomputable def zm8 (H : Hp) (h : Heap) (a : Addr) : HO -> Prop
  | .lst xs => xs.length <= sizeLine /\ ∃ (its : List Value) (n : Nat), zd5 xs its /\ h.get? a = some { cls := .type "list", data := .seq its.toArray n }
  | .tup xs => xs.length <= sizeLine /\ ∃ its : List Value, zd5 xs its /\ IsTup h a its.toArray
  | .dK kvs => kvs.length <= sizeLine /\ (a == sysModules) = false /\ ∃ vs, KV kvs vs /\ h.DictOf (xg0 P w) a vs
  | .dT kvs => kvs.length <= sizeLine /\ (a == sysModules) = false /\ ∃ xs : List (List Key × Addr × Value),
      Paired (fun (p : List Key × V) (q : List Key × Addr × Value) => p.1 = q.1 /\ H q.2.1 = some (.tup (p.1.map kV)) /\ zg4 p.2 q.2.2) kvs xs /\
      ∃ o es ep, h.get? a = some o /\ o.ExactDict /\ o.data = .dict es ep /\ es.toList = xs.map (entryOfKey (tupleKind (xg0 P w))) /\ (xs.map (·.1)).Nodup
  | .set S n => h.SetOf (intKind P w) a S n
  | .ins C dx fs => H dx = some (.own a) /\ fs.length <= 1000 /\ dx ≠ a /\ h.get? a = some (PySem.W.instObj C dx) /\
      ∃ mA, h.Ns1 dx mA /\ (∀ f, zv8 (fs.lookup f) (mA f)) /\ PySem.Within mA (fs.map (·.1))
  | .own _ => ∃ o, h.get? a = some o
  | .xd fs => ∃ mA, h.Ns1 a mA /\ ∀ f, zv8 (fs.lookup f) (mA f)
  | .rng lo hi => ∃ t u v, h.get? a = some { cls := .type "range", data := .fields #[.int lo t, .int hi u, .int 1 v] }
  | .frz o u => h.get? a = some o /\ zm8 H h a u
  | .tbl ps => h.get? a = some { cls := .none, data := .fields ps }
  | .met f x => h.get? a = some (PySem.W.methodObj (.ref f) (.ref x))
  | .ext φ => φ h /\ (∃ o, h.get? a = some o) /\ ∀ h1 h2 : Heap, φ h1 -> (∀ o, h1.get? a = some o -> h2.get? a = some o) -> φ h2
noncomputable def HOk (H : Hp) (h : Heap) : Prop := ∀ a o, H a = some o -> zm8 P w H h a o
end
section
variable {P : Program} {w : World} {H H' : Hp} {h h' : Heap} {a : Addr} {o : HO}
theorem zm8.lt (x : zm8 P w H h a o) : a < h.objs.size := by
  cases o with
  | lst xs => obtain ⟨_, _, _, _, e⟩ := x; exact Heap.lt_size e
  | tup xs => obtain ⟨_, _, _, p⟩ := x; exact p.lt
  | dK kvs => obtain ⟨_, _, _, _, o, _, _, e, _⟩ := x; exact Heap.lt_size e
  | dT kvs => obtain ⟨_, _, _, _, o, _, _, e, _⟩ := x; exact Heap.lt_size e
  | set S n => obtain ⟨o, _, _, _, e, _⟩ := x; exact Heap.lt_size e
  | ins C dx fs => obtain ⟨_, _, _, e, _⟩ := x; exact Heap.lt_size e
  | own y => obtain ⟨_, e⟩ := x; exact Heap.lt_size e
  | xd fs => obtain ⟨_, ⟨_, _, _, e, _⟩, _⟩ := x; exact Heap.lt_size e
  | rng lo hi => obtain ⟨_, _, _, e⟩ := x; exact Heap.lt_size e
  | frz ob u => obtain ⟨e, _⟩ := x; exact Heap.lt_size e
  | tbl ps => exact Heap.lt_size (show h.get? a = some _ from x)
  | met f y => exact Heap.lt_size (show h.get? a = some _ from x)
  | ext φ => obtain ⟨_, ⟨_, e⟩, _⟩ := x; exact Heap.lt_size e
theorem Paired.mapP {α β : Type} {F G : α -> β -> Prop} : ∀ {l₁ : List α} {l₂ : List β}, Paired F l₁ l₂ -> (∀ a b, F a b -> G a b) -> Paired G l₁ l₂
  | _, _, .nil, _ => .nil
  | _, _, .cons r t, f => .cons (f _ _ r) (Paired.mapP t f)
theorem zm8.stay (x : zm8 P w H h a o) (k : ∀ b u, (b = a \/ H b = some (.own a)) -> h.get? b = some u -> h'.get? b = some u)
    (ho : ∀ b, H b = some (.own a) -> H' b = some (.own a)) (ht : ∀ b xs, H b = some (.tup xs) -> H' b = some (.tup xs)) : zm8 P w H' h' a o := by
  induction o with
  | lst xs => obtain ⟨z, its, n, r, e⟩ := x; exact ⟨z, its, n, r, k _ _ (.inl rfl) e⟩
  | tup xs => obtain ⟨z, its, r, ob, e, c⟩ := x; exact ⟨z, its, r, ob, k _ _ (.inl rfl) e, c⟩
  | dK kvs => obtain ⟨z, y, vs, r, ob, es, ep, e, c⟩ := x; exact ⟨z, y, vs, r, ob, es, ep, k _ _ (.inl rfl) e, c⟩
  | dT kvs =>
    obtain ⟨z, y, xs, r, ob, es, ep, e, c⟩ := x
    exact ⟨z, y, xs, Paired.mapP r fun p q z => ⟨z.1, ht _ _ z.2.1, z.2.2⟩, ob, es, ep, k _ _ (.inl rfl) e, c⟩
  | set S n => obtain ⟨ob, es, ep, t, e, c⟩ := x; exact ⟨ob, es, ep, t, k _ _ (.inl rfl) e, c⟩
  | ins C dx fs =>
    obtain ⟨d, z, ne, e, mA, ⟨od, es, ep, e2, c⟩, r⟩ := x
    exact ⟨ho _ d, z, ne, k _ _ (.inl rfl) e, mA, ⟨od, es, ep, k _ _ (.inr d) e2, c⟩, r⟩
  | own y => obtain ⟨ob, e⟩ := x; exact ⟨ob, k _ _ (.inl rfl) e⟩
  | xd fs => obtain ⟨mA, ⟨od, es, ep, e, c⟩, r⟩ := x; exact ⟨mA, ⟨od, es, ep, k _ _ (.inl rfl) e, c⟩, r⟩
  | rng lo hi => obtain ⟨t, u, v, e⟩ := x; exact ⟨t, u, v, k _ _ (.inl rfl) e⟩
  | frz ob u ih => obtain ⟨e, q⟩ := x; exact ⟨k _ _ (.inl rfl) e, ih q⟩
  | tbl ps =>
    have e : h.get? a = some { cls := .none, data := .fields ps } := x
    show h'.get? a = some { cls := .none, data := .fields ps }
    exact k a _ (.inl rfl) e
  | met f y =>
    have e : h.get? a = some (PySem.W.methodObj (.ref f) (.ref y)) := x
    show h'.get? a = some (PySem.W.methodObj (.ref f) (.ref y))
    exact k a _ (.inl rfl) e
  | ext φ => obtain ⟨p, ⟨o, e⟩, st⟩ := x; exact ⟨st _ _ p fun o q => k _ _ (.inl rfl) q, ⟨o, k _ _ (.inl rfl) e⟩, st⟩
theorem HOk.lt (x : HOk P w H h) (e : H a = some o) : a < h.objs.size := (x a o e).lt
theorem HOk.fresh (x : HOk P w H h) (e : h.objs.size <= a) : H a = none := by
  cases q : H a with
  | none => rfl
  | some u => exact absurd (Nat.lt_of_lt_of_le (x.lt q) e) (Nat.lt_irrefl _)
theorem HOk.kept (x : HOk P w H h) (k : ∀ b u, h.get? b = some u -> h'.get? b = some u) : HOk P w H h' := fun a o e =>
  (x a o e).stay (fun b u _ q => k b u q) (fun _ q => q) fun _ _ q => q
theorem HOk.laid (x : HOk P w H h) (k : ∀ b u, h.get? b = some u -> h'.get? b = some u) (hp : h.objs.size <= a) (new : zm8 P w (upd H a o) h' a o) : HOk P w (upd H a o) h' := fun b u e => by
  have hn := x.fresh hp
  by_cases hb : b = a
  . subst hb; rw [zi9] at e; cases e; exact new
  . rw [zg3 hb] at e
    exact (x b u e).stay (fun c v _ q => k c v q) (fun c q => by rw [zg3 (zy4 q hn)]; exact q) fun c xs q => by rw [zg3 (zy4 q hn)]; exact q
end
noncomputable def Rd (H : Hp) (a : Addr) (u : HO) : Prop := H a = some u \/ ∃ o, H a = some (.frz o u)
theorem Rd.of {H : Hp} {a : Addr} {u : HO} (h : H a = some u) : Rd H a u := .inl h
theorem Rd.ok {P : Program} {w : World} {H : Hp} {h : Heap} {a : Addr} {u : HO} (r : Rd H a u) (x : HOk P w H h) : zm8 P w H h a u := by
  rcases r with r | ⟨o, r⟩
  . exact x a u r
  . obtain ⟨_, q⟩ := x a _ r
    exact q
noncomputable def Mut : Option HO -> Prop
  | some (.lst _) => True
  | some (.dK _) => True
  | some (.dT _) => True
  | some (.set _ _) => True
  | some (.ins _ _ _) => True
  | some (.ext _) => True
  | _ => False
section
variable {P : Program} {w : World} {H : Hp} {h h' : Heap} {x e : Addr} {o' : HO}
theorem HOk.write (ok : HOk P w H h) (mu : Mut (H x)) (he : e = x \/ H e = some (.own x)) (k : ∀ b u, b ≠ e -> h.get? b = some u -> h'.get? b = some u) (heo : ∃ u, h'.get? e = some u)
    (new : zm8 P w (upd H x o') h' x o') : HOk P w (upd H x o') h' := fun b u q => by
  have nown : ∀ c y, H c = some (.own y) -> c ≠ x := fun c y r z => by subst z; rw [r] at mu; exact mu
  have ntup : ∀ c xs, H c = some (.tup xs) -> c ≠ x := fun c xs r z => by subst z; rw [r] at mu; exact mu
  by_cases hb : b = x
  . subst hb; rw [zi9] at q; cases q; exact new
  . rw [zg3 hb] at q
    by_cases hbe : b = e
    . have q' : H b = some (.own x) := by
        rcases he with z | z
        . exact absurd (hbe.trans z) hb
        . rw [hbe]; exact z
      rw [q] at q'; cases q'
      obtain ⟨v, hv⟩ := heo
      exact ⟨v, by rw [hbe]; exact hv⟩
    . refine (ok b u q).stay (fun c v hc r => k c v ?_ r) (fun c r => by rw [zg3 (nown c b r)]; exact r) fun c xs r => by rw [zg3 (ntup c xs r)]; exact r
      rcases hc with rfl | hc
      . exact hbe
      . rintro rfl
        rcases he with z | z
        . exact nown c b hc z
        . rw [hc] at z; cases z; exact hb rfl
end
structure Un (fs ex : List Addr) (H H' : Hp) (h h' : Heap) : Prop where
  keep : ∀ b o, h.get? b = some o -> H b = none -> b ∉ fs -> b ∉ ex -> h'.get? b = some o
  slot : ∀ b o, h.get? b = some o -> H b = none -> b ∈ fs -> b ∉ ex -> ∃ sl, h'.get? b = some { o with slots := sl }
  free : ∀ b o, h.get? b = some o -> H b = none -> b ∉ ex -> H' b = none
  there : ∀ b o, h.get? b = some o -> b ∉ ex -> ∃ o', h'.get? b = some o'
  tups : ∀ b xs, H b = some (.tup xs) -> H' b = some (.tup xs)
  frzs : ∀ b o u, H b = some (.frz o u) -> H' b = some (.frz o u)
  tbls : ∀ b ps, H b = some (.tbl ps) -> ∃ more, H' b = some (.tbl (ps ++ more))
section
variable {fs fs' ex ex' : List Addr} {H H1 H2 : Hp} {h h1 h2 h' : Heap} {a x e : Addr} {o : HO}
theorem Un.any (u : Un fs ex H H1 h h1) {b : Addr} {ob : Obj} (q : h.get? b = some ob) (n : H b = none) (hx : b ∉ ex) : ∃ sl, h1.get? b = some { ob with slots := sl } := by
  by_cases hb : b ∈ fs
  . exact u.slot b ob q n hb hx
  . exact ⟨ob.slots, u.keep b ob q n hb hx⟩
theorem Un.trans (a : Un fs ex H H1 h h1) (b : Un fs ex H1 H2 h1 h2) : Un fs ex H H2 h h2 where
  keep := fun c ob q n hc hx => b.keep c ob (a.keep c ob q n hc hx) (a.free c ob q n hx) hc hx
  slot := fun c ob q n hc hx => by
    obtain ⟨sl, e1⟩ := a.slot c ob q n hc hx
    obtain ⟨sl', e2⟩ := b.slot c _ e1 (a.free c ob q n hx) hc hx
    exact ⟨sl', e2⟩
  free := fun c ob q n hx => by
    obtain ⟨o', e1⟩ := a.there c ob q hx
    exact b.free c o' e1 (a.free c ob q n hx) hx
  there := fun c ob q hx => by
    obtain ⟨o', e1⟩ := a.there c ob q hx
    exact b.there c o' e1 hx
  tups := fun c xs q => b.tups c xs (a.tups c xs q)
  frzs := fun c ob xs q => b.frzs c ob xs (a.frzs c ob xs q)
  tbls := fun c ps q => by
    obtain ⟨m1, e1⟩ := a.tbls c ps q
    obtain ⟨m2, e2⟩ := b.tbls c _ e1
    exact ⟨m1 ++ m2, by rw [e2, Array.append_assoc]⟩
theorem Un.kept (k : ∀ b u, h.get? b = some u -> h'.get? b = some u) : Un fs ex H H h h' :=
  ⟨fun b ob q _ _ _ => k b ob q, fun b ob q _ _ _ => ⟨ob.slots, k b ob q⟩, fun _ _ _ n _ => n, fun b ob q _ => ⟨ob, k b ob q⟩, fun _ _ q => q, fun _ _ _ q => q, fun _ ps q => ⟨#[], by rw [q]; simp⟩⟩
theorem Un.refl : Un fs ex H H h h := Un.kept fun _ _ q => q
theorem Un.laid (k : ∀ b u, h.get? b = some u -> h'.get? b = some u) (hp : h.objs.size <= a) (hn : H a = none) : Un fs ex H (upd H a o) h h' where
  keep := fun b u q _ _ _ => k b u q
  slot := fun b u q _ _ _ => ⟨u.slots, k b u q⟩
  free := fun b u q n _ => by rw [zg3 (Nat.ne_of_lt (Nat.lt_of_lt_of_le (Heap.lt_size q) hp))]; exact n
  there := fun b u q _ => ⟨u, k b u q⟩
  tups := fun b xs q => by rw [zg3 (zy4 q hn)]; exact q
  frzs := fun b u xs q => by rw [zg3 (zy4 q hn)]; exact q
  tbls := fun b ps q => ⟨#[], by rw [zg3 (zy4 q hn), q]; simp⟩
theorem Un.write (mu : Mut (H x)) (he : e = x \/ H e = some (.own x)) (k : ∀ b u, b ≠ e -> h.get? b = some u -> h'.get? b = some u) (heo : ∃ u, h'.get? e = some u) : Un fs ex H (upd H x o) h h' := by
  have hx : ∀ b, H b = none -> b ≠ x := fun b n z => by subst z; rw [n] at mu; exact mu
  have hb : ∀ b, H b = none -> b ≠ e := fun b n z => by
    subst z
    rcases he with r | r
    . exact hx b n r
    . rw [n] at r; cases r
  have hm : ∀ b u, H b = some u -> ¬ Mut (some u) -> b ≠ x := fun b u q nm z => by subst z; rw [q] at mu; exact nm mu
  refine ⟨fun b u q n _ _ => k b u (hb b n) q, fun b u q n _ _ => ⟨u.slots, k b u (hb b n) q⟩, fun b u q n _ => by rw [zg3 (hx b n)]; exact n, fun b u q _ => ?_,
    fun b xs q => by rw [zg3 (hm b _ q fun z => z)]; exact q, fun b u xs q => by rw [zg3 (hm b _ q fun z => z)]; exact q, fun b ps q => ⟨#[], by rw [zg3 (hm b _ q fun z => z), q]; simp⟩⟩
  by_cases hbe : b = e
  . subst hbe; exact heo
  . exact ⟨u, k b u hbe q⟩
theorem Un.mono (u : Un fs ex H H1 h h1) (hs : ∀ b ∈ fs, b ∈ fs') (hx : ∀ b ∈ ex, b ∈ ex') : Un fs' ex' H H1 h h1 :=
  ⟨fun b ob q n hb he => u.keep b ob q n (fun z => hb (hs b z)) fun z => he (hx b z), fun _ _ q n _ he => u.any q n fun z => he (hx _ z), fun b ob q n he => u.free b ob q n fun z => he (hx b z), fun b ob q he => u.there b ob q fun z => he (hx b z), u.tups, u.frzs, u.tbls⟩
end
noncomputable def trk (h : Heap) (H : Hp) : List Addr := (List.range h.objs.size).filter fun a => (H a).isSome
noncomputable def yo7 (h : Heap) (H : Hp) : Heap := PySem.W.hideAll h (trk h H)
theorem wa5 (h : Heap) (H : Hp) : (yo7 h H).objs.size = h.objs.size := PySem.W.hideAll_size _ _
theorem wi1 {h : Heap} {H : Hp} {b : Addr} {o : Obj} (e : h.get? b = some o) (n : H b = none) : (yo7 h H).get? b = some o :=
  PySem.W.hideAll_get _ e fun hm => by
    have q : (H b).isSome = true := (List.mem_filter.mp hm).2
    rw [n] at q; simp at q
theorem wp4 {h : Heap} {H : Hp} {b : Addr} {o : Obj} (e : (yo7 h H).get? b = some o) : h.get? b = some o /\ H b = none := by
  have e' : h.get? b = some o := PySem.W.of_hideAll (trk h H) e
  refine ⟨e', ?_⟩
  cases q : H b with
  | none => rfl
  | some x =>
    have hm : b ∈ trk h H := List.mem_filter.mpr ⟨List.mem_range.mpr (Heap.lt_size e'), by simp [q]⟩
    have z : (yo7 h H).get? b = none := PySem.W.hideAll_none (trk h H) hm
    rw [z] at e; cases e
noncomputable def wt2 (g h : Heap) (L : Addr) : List (Addr × Obj) := (List.range h.objs.size).filterMap fun a => if a = L \/ (g.get? a).isSome = true then none else (h.get? a).map fun o => (a, o)
noncomputable def zc2 (g h : Heap) (L d : Addr) : List (Addr × Obj) := (wt2 g h L).filter fun p => decide (p.1 ≠ d)
end L2
namespace L2
open PySem PySem.Spec PyProof.Rows
structure Mod (K : PySem.W.Frag) (mg : Str -> Option Value) (base : Heap) : Prop where
  kin : K.In base
  glob : base.Ns mainGlobals mg
  blt : ∃ mb, base.Ns builtinsNs mb /\ ∀ x : Str, x ≠ "__name__" -> mb x = bootBuiltins x
  nolimit : base.NoLimit
structure Cx where
  prog : Program
  w : World
  K : PySem.W.Frag
  mg : Str -> Option Value
  base : Heap
  A : Around
  N : List Str
  s₀ : Shared
  H₀ : Hp
  env : Env
  outer : List Env
  stack : List Env
  ex : List Addr
  fn : Str -> Bool
  calm : Bool
  pn : List (Addr × Obj)
  xe : Value -> Shared -> Prop
noncomputable def frs (l : List Env) : List Addr := l.filterMap (·.frame)
noncomputable abbrev Cx.fs (X : Cx) : List Addr := frs X.outer
noncomputable def Vis (sc : Scope) (x : Str) : Prop := sc.names.lookup x = some .local \/ sc.names.lookup x = some .cell \/ sc.names.lookup x = some .free
noncomputable def Loc (sc : Scope) (x : Str) : Prop := sc.names.lookup x = some .local \/ sc.names.lookup x = some .cell
noncomputable def kc9 (env : Env) (h : Heap) (m : Str -> Option Value) (x : Str) (u : Value) : Prop :=
  (env.kindOf x = some .local /\ m x = some u) \/ ((env.kindOf x = some .cell \/ env.kindOf x = some .free) /\ ∃ c, env.cells.lookup x = some c /\ h.IsCell c (some u))
structure Cx.Ok (X : Cx) : Prop where
  mod : Mod X.K X.mg X.base
  kind : X.env.scope.kind = .function
  glob : X.env.globals = mainGlobals
  blt : X.env.builtins = builtinsNs
  above : X.s₀.heap.objs.size <= X.env.locals
  inj : ∀ x y c, X.env.cells.lookup x = some c -> X.env.cells.lookup y = some c -> x = y
  has : ∀ x, (X.env.kindOf x = some .cell \/ X.env.kindOf x = some .free) -> ∃ c, X.env.cells.lookup x = some c
  cab : ∀ x c, X.fn x = true -> X.env.cells.lookup x = some c -> X.s₀.heap.objs.size <= c
  hd : X.calm = true -> X.A.handled = none
  frames : X.A.frames = some X.stack
  stk : X.stack = X.outer \/ (X.stack = X.env :: X.outer /\ X.env.frame = some X.env.locals)
  exf : ∀ b ∈ X.ex, b ≠ X.env.locals /\ ∀ x c, X.env.cells.lookup x = some c -> c ≠ b
  bs : ∀ b o, X.base.get? b = some o -> X.s₀.heap.get? b = some o /\ X.H₀ b = none
  bsz : X.base.objs.size <= X.s₀.heap.objs.size
  noex : ∀ b o, X.base.get? b = some o -> b ∉ X.ex
  exfs : ∀ b ∈ X.ex, b ∉ X.fs
  funs : X.s₀.heap.FunFrames X.base X.outer
  frf : ∀ b ∈ X.fs, X.H₀ b = none
structure Inv (X : Cx) (pins : List (Addr × Obj)) (σ : List (Option V)) (H : Hp) (s : Shared) : Prop where
  ok : X.Ok
  os : s.os = X.s₀.os
  bare : AllBare s.gens
  base : Un X.fs X.ex X.H₀ H X.s₀.heap s.heap
  loc : ∃ m, s.heap.Ns X.env.locals m /\ ∀ (i : Nat) (x : Str) (v : V), X.N[i]? = some x -> σ[i]? = some (some v) -> Vis X.env.scope x -> ∃ u, zg4 v u /\ kc9 X.env s.heap m x u
  cell : ∀ x c, X.env.cells.lookup x = some c -> ∃ v, s.heap.IsCell c v
  free : H X.env.locals = none
  freeC : ∀ x c, X.env.cells.lookup x = some c -> H c = none
  pin : ∀ p ∈ X.pn ++ pins, s.heap.get? p.1 = some p.2 /\ H p.1 = none /\ p.1 ≠ X.env.locals /\ p.1 ∉ X.fs /\ ∀ v, p.2.data ≠ .cell v
  hok : HOk X.prog X.w H s.heap
  len : σ.length = X.N.length
section
variable {X : Cx} {pins : List (Addr × Obj)} {σ : List (Option V)} {H H' : Hp} {s : Shared} {h' : Heap}
theorem Cx.Ok.nofr (ok : X.Ok) {b : Addr} {o : Obj} (e : X.base.get? b = some o) : b ∉ X.fs := fun hb => by
  have := (ok.funs.mem hb).1
  rw [e] at this; cases this
theorem Inv.bs (I : Inv X pins σ H s) : ∀ b o, X.base.get? b = some o -> s.heap.get? b = some o /\ H b = none := fun b o e =>
  ⟨I.base.keep b o (I.ok.bs b o e).1 (I.ok.bs b o e).2 (I.ok.nofr e) (I.ok.noex b o e), I.base.free b o (I.ok.bs b o e).1 (I.ok.bs b o e).2 (I.ok.noex b o e)⟩
theorem Inv.bk (I : Inv X pins σ H s) : ∀ b o, X.base.get? b = some o -> s.heap.get? b = some o := fun b o e => (I.bs b o e).1
theorem Inv.mod (I : Inv X pins σ H s) : Mod X.K X.mg X.base := I.ok.mod
theorem Inv.kIn (I : Inv X pins σ H s) : X.K.In s.heap := I.ok.mod.kin.keeps I.bk
theorem Inv.nolimit (I : Inv X pins σ H s) : s.heap.NoLimit := I.ok.mod.nolimit.keeps I.bk
theorem Inv.fr (I : Inv X pins σ H s) : ∃ m, Fr X.base X.env.locals s.heap m :=
  let ⟨m, hn, _⟩ := I.loc
  ⟨m, hn, I.bk, Nat.le_trans I.ok.bsz I.ok.above⟩
theorem Inv.lt (I : Inv X pins σ H s) : X.env.locals < s.heap.objs.size := let ⟨_, hn, _⟩ := I.loc; hn.lt
theorem Inv.sz (I : Inv X pins σ H s) : X.s₀.heap.objs.size <= s.heap.objs.size := Nat.le_trans I.ok.above (Nat.le_of_lt I.lt)
theorem Inv.nofs (I : Inv X pins σ H s) {a : Addr} (h : s.heap.objs.size <= a) : a ∉ X.fs := fun hb => by
  obtain ⟨_, o, ho, _⟩ := I.ok.funs.mem hb
  exact absurd (Nat.lt_of_lt_of_le (Heap.lt_size ho) (Nat.le_trans I.sz h)) (Nat.lt_irrefl _)
theorem Inv.cne (I : Inv X pins σ H s) : ∀ x c, X.env.cells.lookup x = some c -> c ≠ X.env.locals := fun x c e z => by
  obtain ⟨v, o, ho, hd⟩ := I.cell x c e
  obtain ⟨m, ⟨o', es, ep, ho', hd', _⟩, _⟩ := I.loc
  rw [z, ho'] at ho; cases ho; rw [hd'] at hd; cases hd
theorem Inv.funs (I : Inv X pins σ H s) : s.heap.FunFrames X.base X.outer := by
  have all : ∀ (l : List Env), (∀ b ∈ frs l, b ∈ X.fs) -> X.s₀.heap.FunFrames X.base l -> s.heap.FunFrames X.base l := by
    intro l
    induction l with
    | nil => intro _ _; trivial
    | cons env r ih =>
      intro hs hl
      obtain ⟨hk, ⟨L, o, hf, hn, ho, hd⟩, hr⟩ := hl
      have hL : L ∈ X.fs := hs L (by unfold frs; rw [List.filterMap_cons, hf]; exact List.mem_cons_self)
      obtain ⟨sl, e⟩ := I.base.slot L o ho (I.ok.frf L hL) hL fun z => I.ok.exfs L z hL
      exact ⟨hk, ⟨L, _, hf, hn, e, hd⟩, ih (fun b hb => hs b (by unfold frs; rw [List.filterMap_cons, hf]; exact List.mem_cons_of_mem _ hb)) hr⟩
  exact all X.outer (fun _ hb => hb) I.ok.funs
theorem Inv.stack (I : Inv X pins σ H s) : s.heap.FunFrames X.base X.stack := by
  rcases I.ok.stk with e | ⟨e, hf⟩
  . rw [e]; exact I.funs
  . rw [e]
    obtain ⟨m, hn, _⟩ := I.loc
    refine .cons (by rw [I.ok.kind]; decide) hf hn ?_ I.funs
    exact Heap.get?_none_of_le (Nat.le_trans I.ok.bsz I.ok.above)
theorem Inv.stkSub (I : Inv X pins σ H s) : ∀ b ∈ frs X.stack, b ∈ X.env.locals :: X.fs := fun b hb => by
  rcases I.ok.stk with e | ⟨e, hf⟩
  . rw [e] at hb; exact List.mem_cons_of_mem _ hb
  . rw [e] at hb
    unfold frs at hb
    rw [List.filterMap_cons, hf] at hb
    exact hb
theorem Inv.stkFree (I : Inv X pins σ H s) : ∀ b ∈ frs X.stack, H b = none := fun b hb => by
  rcases List.mem_cons.mp (I.stkSub b hb) with e | hb
  . rw [e]; exact I.free
  . obtain ⟨_, o, ho, _⟩ := I.ok.funs.mem hb
    exact I.base.free b o ho (I.ok.frf b hb) fun z => I.ok.exfs b z hb
theorem Inv.step {g' : Array GenState} {t' : Nat} {d' : Drawn} {ch : List Addr} (I : Inv X pins σ H s)
    (hch : ∀ b ∈ ch, (b ∈ X.ex \/ X.s₀.heap.objs.size <= b) /\ b ≠ X.env.locals /\ (∀ x c, X.env.cells.lookup x = some c -> c ≠ b) /\ ∀ p ∈ X.pn ++ pins, p.1 ≠ b)
    (keep : ∀ b o, b ≠ X.env.locals -> b ∉ X.fs -> b ∉ ch -> s.heap.get? b = some o -> H b = none -> h'.get? b = some o)
    (slot : ∀ b o, b ≠ X.env.locals -> b ∈ X.fs -> b ∉ ch -> s.heap.get? b = some o -> H b = none -> ∃ sl, h'.get? b = some { o with slots := sl }) (free : ∀ b o, b ∉ ch -> s.heap.get? b = some o -> H b = none -> H' b = none)
    (there : ∀ b o, b ∉ ch -> s.heap.get? b = some o -> ∃ o', h'.get? b = some o')
    (tups : ∀ b xs, H b = some (.tup xs) -> H' b = some (.tup xs)) (frzs : ∀ b o u, H b = some (.frz o u) -> H' b = some (.frz o u)) (tbls : ∀ b ps, H b = some (.tbl ps) -> ∃ more, H' b = some (.tbl (ps ++ more)))
    (ns : ∀ m, s.heap.Ns X.env.locals m -> h'.Ns X.env.locals m) (hok : HOk X.prog X.w H' h') (hg : AllBare g') :
    Inv X pins σ H' { s with heap := h', gens := g', drawn := d', toks := t' } := by
  have neL : ∀ b o, X.s₀.heap.get? b = some o -> b ≠ X.env.locals := fun b o e => Nat.ne_of_lt (Nat.lt_of_lt_of_le (Heap.lt_size e) I.ok.above)
  have neC : ∀ b o, X.s₀.heap.get? b = some o -> b ∉ X.ex -> b ∉ ch := fun b o e hx hb => by
    rcases (hch b hb).1 with z | z
    . exact hx z
    . exact absurd (Nat.lt_of_lt_of_le (Heap.lt_size e) z) (Nat.lt_irrefl _)
  have cellK : ∀ x c, X.env.cells.lookup x = some c -> ∀ v, s.heap.IsCell c v -> h'.IsCell c v := fun x c e v ⟨o, ho, hd⟩ => by
    have nch : c ∉ ch := fun z => (hch c z).2.2.1 x c e rfl
    by_cases hc : c ∈ X.fs
    . obtain ⟨sl, q⟩ := slot c o (I.cne x c e) hc nch ho (I.freeC x c e)
      exact ⟨_, q, hd⟩
    . exact ⟨o, keep c o (I.cne x c e) hc nch ho (I.freeC x c e), hd⟩
  refine ⟨I.ok, I.os, hg, ⟨fun b o e n hb hx => ?_, fun b o e n hb hx => ?_, fun b o e n hx => ?_, fun b o e hx => ?_, fun b xs e => tups b xs (I.base.tups b xs e), fun b o xs e => frzs b o xs (I.base.frzs b o xs e), fun b ps e => ?_⟩, ?_, fun x c e => ?_, ?_, fun x c e => ?_, fun p hp => ?_, hok, I.len⟩
  . exact keep b o (neL b o e) hb (neC b o e hx) (I.base.keep b o e n hb hx) (I.base.free b o e n hx)
  . obtain ⟨sl, e1⟩ := I.base.slot b o e n hb hx
    obtain ⟨sl', e2⟩ := slot b _ (neL b o e) hb (neC b o e hx) e1 (I.base.free b o e n hx)
    exact ⟨sl', e2⟩
  . obtain ⟨o', e1⟩ := I.base.there b o e hx
    exact free b o' (neC b o e hx) e1 (I.base.free b o e n hx)
  . obtain ⟨o', e1⟩ := I.base.there b o e hx
    exact there b o' (neC b o e hx) e1
  . obtain ⟨m1, e1⟩ := I.base.tbls b ps e
    obtain ⟨m2, e2⟩ := tbls b _ e1
    exact ⟨m1 ++ m2, by rw [e2, Array.append_assoc]⟩
  . obtain ⟨m, hn, hl⟩ := I.loc
    refine ⟨m, ns m hn, fun i x v e1 e2 e3 => ?_⟩
    obtain ⟨u, r, l⟩ := hl i x v e1 e2 e3
    refine ⟨u, r, ?_⟩
    rcases l with l | ⟨k, c, e, z⟩
    . exact .inl l
    . exact .inr ⟨k, c, e, cellK x c e _ z⟩
  . obtain ⟨v, z⟩ := I.cell x c e
    exact ⟨v, cellK x c e v z⟩
  . obtain ⟨m, ⟨o, _, _, ho, _⟩, _⟩ := I.loc
    exact free _ o (fun z => (hch _ z).2.1 rfl) ho I.free
  . obtain ⟨v, o, ho, hd⟩ := I.cell x c e
    exact free c o (fun z => (hch c z).2.2.1 x c e rfl) ho (I.freeC x c e)
  . obtain ⟨e, n, ne, nf, d⟩ := I.pin p hp
    have nch : p.1 ∉ ch := fun z => (hch p.1 z).2.2.2 p hp rfl
    exact ⟨keep p.1 p.2 ne nf nch e n, free p.1 p.2 nch e n, ne, nf, d⟩
theorem Inv.un {t' : Nat} (I : Inv X pins σ H s) (u : Un X.fs [] H H' s.heap h') (hok : HOk X.prog X.w H' h') : Inv X pins σ H' { s with heap := h', toks := t' } := by
  obtain ⟨m, ⟨o, es, ep, ho, r⟩, _⟩ := id I.loc
  obtain ⟨sl, hL⟩ := u.any ho I.free (by simp)
  exact I.step (g' := s.gens) (d' := s.drawn) (ch := []) (fun _ z => nomatch z) (fun b o _ hb _ e n => u.keep b o e n hb (by simp)) (fun b o _ hb _ e n => u.slot b o e n hb (by simp)) (fun b o _ e n => u.free b o e n (by simp)) (fun b o _ e => u.there b o e (by simp)) u.tups u.frzs u.tbls (fun m' hm => by
    obtain ⟨o', es', ep', ho', r'⟩ := hm
    rw [ho] at ho'; cases ho'
    exact ⟨_, es', ep', hL, r'⟩) hok I.bare
theorem Inv.call {g' : Array GenState} {t' : Nat} {d' : Drawn} {ch : List Addr} (I : Inv X pins σ H s) (u : Un (frs X.stack) ch H H' s.heap h') (hok : HOk X.prog X.w H' h') (hg : AllBare g')
    (hch : ∀ b ∈ ch, (b ∈ X.ex \/ X.s₀.heap.objs.size <= b) /\ b ≠ X.env.locals /\ (∀ x c, X.env.cells.lookup x = some c -> c ≠ b) /\ ∀ p ∈ X.pn ++ pins, p.1 ≠ b) :
    Inv X pins σ H' { s with heap := h', gens := g', drawn := d', toks := t' } := by
  obtain ⟨m, ⟨o, es, ep, ho, r⟩, _⟩ := id I.loc
  obtain ⟨sl, hL⟩ := u.any ho I.free fun z => (hch _ z).2.1 rfl
  exact I.step (ch := ch) hch (fun b o hL hb hc e n => u.keep b o e n (fun z => (List.mem_cons.mp (I.stkSub b z)).elim hL hb) hc) (fun b o _ _ hc e n => u.any e n hc) (fun b o hc e n => u.free b o e n hc) (fun b o hc e => u.there b o e hc) u.tups u.frzs u.tbls (fun m' hm => by
    obtain ⟨o', es', ep', ho', r'⟩ := hm
    rw [ho] at ho'; cases ho'
    exact ⟨_, es', ep', hL, r'⟩) hok hg
theorem Inv.turned {t' : Nat} {it : Addr} (I : Inv X pins σ H s) (k : ∀ b o, b ≠ it -> s.heap.get? b = some o -> h'.get? b = some o) (hn : H it = none) (hL : it ≠ X.env.locals)
    (h1 : it ∈ X.ex \/ X.s₀.heap.objs.size <= it) (h2 : ∀ x c, X.env.cells.lookup x = some c -> c ≠ it) (h3 : ∀ p ∈ X.pn ++ pins, p.1 ≠ it) : Inv X pins σ H { s with heap := h', toks := t' } := by
  have nit : ∀ b u, H b = some u -> b ≠ it := fun b u e z => by rw [z, hn] at e; cases e
  refine I.step (g' := s.gens) (d' := s.drawn) (ch := [it]) (fun b hb => ?_) (fun b o _ _ hc e _ => k b o (fun z => hc (by simp [z])) e) (fun b o _ _ hc e _ => ⟨o.slots, k b o (fun z => hc (by simp [z])) e⟩) (fun _ _ _ _ n => n)
    (fun b o hc e => ⟨o, k b o (fun z => hc (by simp [z])) e⟩) (fun _ _ e => e) (fun _ _ _ e => e) (fun b ps e => ⟨#[], by rw [e]; simp⟩) (fun m hm => ?_) (fun b u e => ?_) I.bare
  . have e : b = it := by simpa using hb
    subst e
    exact ⟨h1, hL, h2, h3⟩
  . obtain ⟨o, es, ep, ho, r⟩ := hm
    exact ⟨o, es, ep, k _ o (Ne.symm hL) ho, r⟩
  . refine (I.hok b u e).stay (fun c v hc q => k c v ?_ q) (fun _ q => q) fun _ _ q => q
    rcases hc with z | z
    . rw [z]; exact nit b u e
    . exact nit c _ z
theorem Inv.tok (I : Inv X pins σ H s) (t : Nat) : Inv X pins σ H { s with toks := t } := I.un (h' := s.heap) (t' := t) Un.refl I.hok
theorem Inv.kept {t' : Nat} (I : Inv X pins σ H s) (k : ∀ b u, s.heap.get? b = some u -> h'.get? b = some u) : Inv X pins σ H { s with heap := h', toks := t' } := I.un (Un.kept k) (I.hok.kept k)
theorem Inv.laid {a : Addr} {o : HO} {t' : Nat} (I : Inv X pins σ H s) (k : ∀ b u, s.heap.get? b = some u -> h'.get? b = some u) (hp : s.heap.objs.size <= a) (new : zm8 X.prog X.w (upd H a o) h' a o) :
    Inv X pins σ (upd H a o) { s with heap := h', toks := t' } := I.un (Un.laid k hp (I.hok.fresh hp)) (I.hok.laid k hp new)
theorem Inv.write {x e : Addr} {o : HO} {t' : Nat} (I : Inv X pins σ H s) (mu : Mut (H x)) (he : e = x \/ H e = some (.own x)) (k : ∀ b u, b ≠ e -> s.heap.get? b = some u -> h'.get? b = some u) (heo : ∃ u, h'.get? e = some u)
    (new : zm8 X.prog X.w (upd H x o) h' x o) : Inv X pins σ (upd H x o) { s with heap := h', toks := t' } := I.un (Un.write mu he k heo) (I.hok.write mu he k heo new)
theorem Inv.pins_of {pins' : List (Addr × Obj)} (I : Inv X pins σ H s) (h : ∀ p ∈ pins', s.heap.get? p.1 = some p.2 /\ H p.1 = none /\ p.1 ≠ X.env.locals /\ p.1 ∉ X.fs /\ ∀ v, p.2.data ≠ .cell v) : Inv X pins' σ H s :=
  ⟨I.ok, I.os, I.bare, I.base, I.loc, I.cell, I.free, I.freeC, fun p hp => (List.mem_append.mp hp).elim (fun z => I.pin p (List.mem_append_left _ z)) (h p), I.hok, I.len⟩
theorem xl0 {N : List Str} (hN : N.Nodup) {i j : Nat} {x : Str} (a : N[i]? = some x) (b : N[j]? = some x) : i = j := by
  obtain ⟨h1, e1⟩ := List.getElem?_eq_some_iff.mp a
  obtain ⟨h2, e2⟩ := List.getElem?_eq_some_iff.mp b
  exact (List.getElem_inj hN).mp (e1.trans e2.symm)
theorem wa6 {M : Model} {A : Around} {E : Value -> Shared -> Prop} {i : Nat} {x : Str} {v : V} {u : Value} {Q : Unit -> Shared -> Prop} (I : Inv X pins σ H s) (hN : X.N.Nodup) (hi : X.N[i]? = some x) (hx : Loc X.env.scope x) (r : zg4 v u)
    (h : ∀ s', Inv X pins (σ.set i (some v)) H s' -> (∃ a, Heap.SameBut a s.heap s'.heap /\ (a = X.env.locals \/ X.env.cells.lookup x = some a)) -> Q () s') (hf : X.fn x = true \/ X.env.scope.names.lookup x = some .local := by first | exact .inl rfl | exact .inr rfl | assumption) : wpAny M A (storeName X.env x u) Q E s := by
  obtain ⟨m, hn, hl⟩ := id I.loc
  have hcls : (X.env.scope.kind == .class || (X.env.scope.kind == .module && X.env.locals != X.env.globals)) = false := by rw [I.ok.kind]; rfl
  have hiσ : i < σ.length := by rw [I.len]; exact (List.getElem?_eq_some_iff.mp hi).1
  have cne := I.cne
  have tracked : ∀ {a : Addr} {h' : Heap}, (∃ o, s.heap.get? a = some o /\ H a = none) -> Heap.SameBut a s.heap h' -> HOk X.prog X.w H h' := fun {a h'} ha hs b ob e => by
    obtain ⟨_, _, hfree⟩ := ha
    refine (I.hok b ob e).stay (fun c w' hc q => (hs.2 c ?_).trans q) (fun _ q => q) fun _ _ q => q
    rintro rfl
    rcases hc with rfl | hc
    . rw [hfree] at e; cases e
    . rw [hfree] at hc; cases hc
  rcases hx with hk | hk
  . refine wpAny_storeName_local hk hn (fun h' hn' hs => ?_) hcls
    obtain ⟨oL, _, _, hoL, _⟩ := id hn
    refine h _ ⟨I.ok, I.os, I.bare, ⟨fun b o e n hb hx => ?_, fun b o e n hb hx => ?_, I.base.free, fun b o e hx => ?_, I.base.tups, I.base.frzs, I.base.tbls⟩, ⟨_, hn', fun j y v' e1 e2 e3 => ?_⟩, fun y c e => ?_, I.free, I.freeC, fun p hp => ?_, tracked ⟨oL, hoL, I.free⟩ hs, by simpa using I.len⟩ ⟨_, hs, .inl rfl⟩
    . exact (hs.2 b (Nat.ne_of_lt (Nat.lt_of_lt_of_le (Heap.lt_size e) I.ok.above))).trans (I.base.keep b o e n hb hx)
    . obtain ⟨sl, e1⟩ := I.base.slot b o e n hb hx
      exact ⟨sl, (hs.2 b (Nat.ne_of_lt (Nat.lt_of_lt_of_le (Heap.lt_size e) I.ok.above))).trans e1⟩
    . obtain ⟨o', e1⟩ := I.base.there b o e hx
      exact ⟨o', (hs.2 b (Nat.ne_of_lt (Nat.lt_of_lt_of_le (Heap.lt_size e) I.ok.above))).trans e1⟩
    . by_cases hj : j = i
      . subst hj
        rw [hi] at e1; cases e1
        rw [List.getElem?_set_self hiσ] at e2
        cases e2
        exact ⟨u, r, .inl ⟨hk, by simp⟩⟩
      . rw [List.getElem?_set_ne (Ne.symm hj)] at e2
        obtain ⟨u', r', q⟩ := hl j y v' e1 e2 e3
        refine ⟨u', r', ?_⟩
        rcases q with ⟨k, e⟩ | ⟨k, c, e, z⟩
        . refine .inl ⟨k, ?_⟩
          have : y ≠ x := fun e => hj (xl0 hN e1 (e ▸ hi))
          simp [this, e]
        . exact .inr ⟨k, c, e, z.sameBut hs (cne y c e)⟩
    . obtain ⟨w', z⟩ := I.cell y c e
      exact ⟨w', z.sameBut hs (cne y c e)⟩
    . obtain ⟨e, n, ne, nf, d⟩ := I.pin p hp
      exact ⟨(hs.2 p.1 ne).trans e, n, ne, nf, d⟩
  . have hfn : X.fn x = true := by
      rcases hf with z | z
      . exact z
      . rw [z] at hk; cases hk
    obtain ⟨c, hc⟩ := I.ok.has x (.inl hk)
    obtain ⟨w', z⟩ := I.cell x c hc
    refine wpAny_storeName_cell I.ok.kind hk hc z (fun h' hc' hs => ?_)
    obtain ⟨oc, hoc, hocd⟩ := id z
    refine h { s with heap := h' } ⟨I.ok, I.os, I.bare, ⟨fun b o e n hb hx => ?_, fun b o e n hb hx => ?_, I.base.free, fun b o e hx => ?_, I.base.tups, I.base.frzs, I.base.tbls⟩, ⟨m, hn.sameBut hs (Ne.symm (cne x c hc)), fun j y v' e1 e2 e3 => ?_⟩, fun y c' e => ?_, I.free, I.freeC, fun p hp => ?_, tracked ⟨oc, hoc, I.freeC x c hc⟩ hs, by simpa using I.len⟩ ⟨c, hs, .inr hc⟩
    . exact (hs.2 b (Nat.ne_of_lt (Nat.lt_of_lt_of_le (Heap.lt_size e) (I.ok.cab x c hfn hc)))).trans (I.base.keep b o e n hb hx)
    . obtain ⟨sl, e1⟩ := I.base.slot b o e n hb hx
      exact ⟨sl, (hs.2 b (Nat.ne_of_lt (Nat.lt_of_lt_of_le (Heap.lt_size e) (I.ok.cab x c hfn hc)))).trans e1⟩
    . obtain ⟨o', e1⟩ := I.base.there b o e hx
      exact ⟨o', (hs.2 b (Nat.ne_of_lt (Nat.lt_of_lt_of_le (Heap.lt_size e) (I.ok.cab x c hfn hc)))).trans e1⟩
    . by_cases hj : j = i
      . subst hj
        rw [hi] at e1; cases e1
        rw [List.getElem?_set_self hiσ] at e2
        cases e2
        exact ⟨u, r, .inr ⟨.inl hk, c, hc, hc'⟩⟩
      . rw [List.getElem?_set_ne (Ne.symm hj)] at e2
        obtain ⟨u', r', q⟩ := hl j y v' e1 e2 e3
        refine ⟨u', r', ?_⟩
        rcases q with q | ⟨k, c', e, z'⟩
        . exact .inl q
        . refine .inr ⟨k, c', e, z'.sameBut hs ?_⟩
          rintro rfl
          exact hj (xl0 hN e1 (I.ok.inj _ _ _ e hc ▸ hi))
    . by_cases hcc : c' = c
      . subst hcc; exact ⟨_, hc'⟩
      . obtain ⟨w2, z2⟩ := I.cell y c' e
        exact ⟨w2, z2.sameBut hs hcc⟩
    . obtain ⟨e, n, ne, nf, d⟩ := I.pin p hp
      refine ⟨(hs.2 p.1 ?_).trans e, n, ne, nf, d⟩
      intro q
      rw [q, hoc] at e
      have q' : oc = p.2 := Option.some.inj e
      exact d w' (by rw [<- q']; exact hocd)
theorem xl1 {M : Model} {A : Around} {E : Value -> Shared -> Prop} {i : Nat} {x : Str} {v : V} {u : Value} {Q : Unit -> Shared -> Prop} (I : Inv X pins σ H s) (hN : X.N.Nodup) (hi : X.N[i]? = some x) (hx : Loc X.env.scope x) (r : zg4 v u)
    (h : ∀ s', Inv X pins (σ.set i (some v)) H s' -> Q () s') (hf : X.fn x = true \/ X.env.scope.names.lookup x = some .local := by first | exact .inl rfl | exact .inr rfl | assumption) : wpAny M A (storeName X.env x u) Q E s :=
  wa6 I hN hi hx r (fun s' I' _ => h s' I') hf
theorem Inv.call' {s' : Shared} {ch : List Addr} (I : Inv X pins σ H s) (ho : s'.os = s.os) (u : Un (frs X.stack) ch H H' s.heap s'.heap) (hok : HOk X.prog X.w H' s'.heap) (hg : AllBare s'.gens)
    (hch : ∀ b ∈ ch, (b ∈ X.ex \/ X.s₀.heap.objs.size <= b) /\ b ≠ X.env.locals /\ (∀ x c, X.env.cells.lookup x = some c -> c ≠ b) /\ ∀ p ∈ X.pn ++ pins, p.1 ≠ b) : Inv X pins σ H' s' := by
  obtain ⟨h', g', d', t', o'⟩ := s'
  have e : o' = s.os := ho
  subst e
  exact I.call (g' := g') (t' := t') (d' := d') u hok hg hch
end
noncomputable abbrev XK := Value -> Option Addr -> Hp -> Prop
noncomputable abbrev St := List (Option V)
noncomputable abbrev VK := V -> Hp -> Prop
noncomputable abbrev TE := St -> Hp -> VK -> Prop
noncomputable abbrev TT := St -> Hp -> (Bool -> Hp -> Prop) -> Prop
noncomputable abbrev TA := St -> Hp -> (List V -> Hp -> Prop) -> Prop
structure Ends where
  nx : St -> Hp -> Prop
  rt : VK
  bk : St -> Hp -> Prop := fun _ _ => False
  ct : St -> Hp -> Prop := fun _ _ => False
noncomputable abbrev TS := Ends -> St -> Hp -> Prop
noncomputable def EP (X : Cx) (pins : List (Addr × Obj)) (σ : St) (Q : VK) (u : Value) (s' : Shared) : Prop := ∃ v H', Inv X pins σ H' s' /\ zg4 v u /\ Q v H'
noncomputable def TP (X : Cx) (pins : List (Addr × Obj)) (σ : St) (Q : Bool -> Hp -> Prop) (b : Bool) (s' : Shared) : Prop := ∃ H', Inv X pins σ H' s' /\ Q b H'
noncomputable def AP (X : Cx) (pins : List (Addr × Obj)) (σ : St) (Q : List V -> Hp -> Prop) (us : List Value) (s' : Shared) : Prop := ∃ vs H', Inv X pins σ H' s' /\ zd5 vs us /\ Q vs H'
noncomputable def SP (X : Cx) (pins : List (Addr × Obj)) (D : Ends) (f : Flow) (s' : Shared) : Prop :=
  match f with
  | .next => ∃ σ' H', Inv X pins σ' H' s' /\ D.nx σ' H'
  | .brk => ∃ σ' H', Inv X pins σ' H' s' /\ D.bk σ' H'
  | .cont => ∃ σ' H', Inv X pins σ' H' s' /\ D.ct σ' H'
  | .ret u => ∃ v σ' H', Inv X pins σ' H' s' /\ zg4 v u /\ D.rt v H'
noncomputable def PE (X : Cx) (e : Expr) (t : TE) : Prop :=
  ∀ (pins : List (Addr × Obj)) (s : Shared) (σ : St) (H : Hp) (Q : VK), Inv X pins σ H s -> t σ H Q -> wpAny (model X.prog X.w) X.A (eval e X.env) (EP X pins σ Q) X.xe s
noncomputable def PT (X : Cx) (e : Expr) (t : TT) : Prop :=
  ∀ (pins : List (Addr × Obj)) (s : Shared) (σ : St) (H : Hp) (Q : Bool -> Hp -> Prop), Inv X pins σ H s -> t σ H Q -> wpAny (model X.prog X.w) X.A (isTrue e X.env (eval e X.env)) (TP X pins σ Q) X.xe s
noncomputable def PW (X : Cx) (e : Expr) (t : TT) : Prop :=
  ∀ (whole : Sem Value) (pins : List (Addr × Obj)) (s : Shared) (σ : St) (H : Hp) (Q : Bool -> Hp -> Prop), Inv X pins σ H s -> t σ H Q -> wpAny (model X.prog X.w) X.A (isTrue e X.env whole) (TP X pins σ Q) X.xe s
theorem PW.pt {X : Cx} {e : Expr} {t : TT} (h : PW X e t) : PT X e t := h _
noncomputable def PA (X : Cx) (es : List Expr) (t : TA) : Prop :=
  ∀ (pos : Pos) (pins : List (Addr × Obj)) (s : Shared) (σ : St) (H : Hp) (Q : List V -> Hp -> Prop), Inv X pins σ H s -> t σ H Q -> wpAny (model X.prog X.w) X.A (spliced (backTo pos (starEach es X.env))) (AP X pins σ Q) X.xe s
noncomputable def PS (X : Cx) (st : Stmt) (t : TS) : Prop :=
  ∀ (pins : List (Addr × Obj)) (s : Shared) (σ : St) (H : Hp) (D : Ends), Inv X pins σ H s -> t D σ H -> wpAny (model X.prog X.w) X.A (exec st X.env) (SP X pins D) X.xe s
noncomputable def PSs (X : Cx) (st : List Stmt) (t : TS) : Prop :=
  ∀ (pins : List (Addr × Obj)) (s : Shared) (σ : St) (H : Hp) (D : Ends), Inv X pins σ H s -> t D σ H -> wpAny (model X.prog X.w) X.A (execs st X.env) (SP X pins D) X.xe s
theorem thn {α : Type} {t : Sem α} {Q Q' : α -> Shared -> Prop} {M : Model} {A : Around} {E : Value -> Shared -> Prop} {s : Shared} (h : wpAny M A t Q E s) (hQ : ∀ a s, Q a s -> Q' a s) : wpAny M A t Q' E s := wpAny_mono h hQ fun _ _ x => x
end L2
namespace L2
open PySem PySem.Spec PyProof.Rows
section
variable {X : Cx}
noncomputable def wy1 (i : Nat) : TE := fun σ H Q => ∃ v, σ[i]? = some (some v) /\ Q v H
noncomputable def tC (v : V) : TE := fun _ H Q => Q v H
theorem yk7 {i : Nat} {x : Str} {pos : Pos} (hN : X.N[i]? = some x) (hv : Vis X.env.scope x) (hd : (x == ("__debug__" : Str)) = false := by decide) (hcd : (x == ("__classdict__" : Str)) = false := by decide) : PE X (.Name x pos) (wy1 i) := by
  intro pins s σ H Q I h
  obtain ⟨v, e, h⟩ := h
  obtain ⟨m, hn, hl⟩ := I.loc
  obtain ⟨u, r, l⟩ := hl i x v hN e hv
  have fin : EP X pins σ Q u s := ⟨v, H, I, r, h⟩
  rcases l with ⟨hk, hm⟩ | ⟨hk, c, hc, hcell⟩
  . exact wpAny_Name (wpAny_loadName_local I.ok.kind hk hn hm fin) hd
  . rcases hk with hk | hk
    . exact wpAny_Name (wpAny_loadName_cell I.ok.kind hk hc hcell fin) hd
    . exact wpAny_Name (wpAny_loadName_free I.ok.kind hk hc hcell fin hcd) hd
theorem zr7 {i j pos} : PE X (.Constant (.int i) j pos) (tC (.int i)) := fun _ _ _ H _ I h => wpAny_Constant_int ⟨.int i, H, I.tok _, ⟨_, rfl⟩, h⟩
theorem wn9 {b j pos} : PE X (.Constant (.bool b) j pos) (tC (.bl b)) := fun _ _ _ H _ I h => Constant_bool ⟨.bl b, H, I, rfl, h⟩
theorem wa7 {j pos} : PE X (.Constant .none j pos) (tC .non) := fun _ _ _ H _ I h => Constant_none ⟨.non, H, I, rfl, h⟩
theorem wa8 {x j pos} : PE X (.Constant (.str x) j pos) (tC (.str x)) := fun _ _ _ H _ I h => Calls.Constant_str ⟨.str x, H, I.tok _, ⟨_, rfl⟩, h⟩
noncomputable def Gl (X : Cx) (x : Str) : Prop := X.env.kindOf x = some .globalImplicit
theorem yt2 {E : Value -> Shared -> Prop} {pins : List (Addr × Obj)} {s : Shared} {σ : St} {H : Hp} {x : Str} {u : Value} {pos : Pos} {Q : Value -> Shared -> Prop} (I : Inv X pins σ H s) (hg : Gl X x) (hm : X.mg x = some u) (h : Q u s)
    (hd : (x == ("__debug__" : Str)) = false := by decide) : wpAny (model X.prog X.w) X.A (eval (.Name x pos) X.env) Q E s :=
  Calls.Name_function_global I.ok.kind hg (Calls.loadGlobal_global (by rw [I.ok.glob]; exact I.mod.glob.keeps I.bk) hm h) hd
theorem yq4 {E : Value -> Shared -> Prop} {pins : List (Addr × Obj)} {s : Shared} {σ : St} {H : Hp} {x : Str} {u : Value} {pos : Pos} {Q : Value -> Shared -> Prop} (I : Inv X pins σ H s) (hg : Gl X x) (hm : X.mg x = none) (hv : bootBuiltins x = some u) (h : Q u s)
    (hn : x ≠ "__name__" := by decide) (hd : (x == ("__debug__" : Str)) = false := by decide) : wpAny (model X.prog X.w) X.A (eval (.Name x pos) X.env) Q E s := by
  obtain ⟨mb, h1, h2⟩ := I.mod.blt
  exact Calls.Name_function_global I.ok.kind hg (Calls.loadGlobal_builtin (by rw [I.ok.glob]; exact I.mod.glob.keeps I.bk) hm (by rw [I.ok.blt]; exact h1.keeps I.bk) ((h2 x hn).trans hv) h) hd
theorem wp5 {x : Str} {v : V} {u : Value} {pos : Pos} (hg : Gl X x) (hm : X.mg x = some u) (r : zg4 v u) (hd : (x == ("__debug__" : Str)) = false := by decide) : PE X (.Name x pos) (tC v) :=
  fun _ _ _ H _ I h => yt2 I hg hm ⟨v, H, I, r, h⟩ hd
theorem wp6 {x : Str} {v : V} {u : Value} {pos : Pos} (hg : Gl X x) (hm : X.mg x = none) (hv : bootBuiltins x = some u) (r : zg4 v u) (hn : x ≠ "__name__" := by decide) (hd : (x == ("__debug__" : Str)) = false := by decide) : PE X (.Name x pos) (tC v) :=
  fun _ _ _ H _ I h => yq4 I hg hm hv ⟨v, H, I, r, h⟩ hn hd
variable {a b : Expr} {ta tb : TE} {pos : Pos}
variable {tA tB' : TT} {zc2 : List Expr}
noncomputable def kd0 (t u : TT) : TT := fun σ H Q => t σ H fun c H1 => if c = true then u σ H1 Q else Q false H1
noncomputable def tOr (t u : TT) : TT := fun σ H Q => t σ H fun c H1 => if c = true then Q true H1 else u σ H1 Q
noncomputable def kd4 (t : TT) : TT := fun σ H Q => t σ H fun c H1 => Q (!c) H1
theorem wp7 (ha : PT X a tA) : PW X (.BoolOp .And [a] pos) tA := by
  intro wh pins s σ H Q I h
  refine isTrue_and (thn (ha pins s σ H Q I h) fun c s1 e => ?_)
  cases c with
  | true => exact isTrue_and_nil e
  | false => exact e
theorem wt8 (ha : PT X a tA) : PW X (.BoolOp .Or [a] pos) tA := by
  intro wh pins s σ H Q I h
  refine isTrue_or (thn (ha pins s σ H Q I h) fun c s1 e => ?_)
  cases c with
  | false => exact isTrue_or_nil e
  | true => exact e
theorem wt9 (ha : PT X a tA) (hb : PW X (.BoolOp .And (b :: zc2) pos) tB') : PW X (.BoolOp .And (a :: b :: zc2) pos) (kd0 tA tB') := by
  intro wh pins s σ H Q I h
  refine isTrue_and (thn (ha pins s σ H _ I h) fun c s1 ⟨H1, I1, q1⟩ => ?_)
  cases c with
  | true => exact hb wh pins s1 σ H1 Q I1 q1
  | false => exact ⟨H1, I1, q1⟩
theorem wz8 (ha : PT X a tA) (hb : PW X (.BoolOp .Or (b :: zc2) pos) tB') : PW X (.BoolOp .Or (a :: b :: zc2) pos) (tOr tA tB') := by
  intro wh pins s σ H Q I h
  refine isTrue_or (thn (ha pins s σ H _ I h) fun c s1 ⟨H1, I1, q1⟩ => ?_)
  cases c with
  | true => exact ⟨H1, I1, q1⟩
  | false => exact hb wh pins s1 σ H1 Q I1 q1
theorem wa9 (ha : PT X a tA) : PT X (.UnaryOp .Not a pos) (kd4 tA) := by
  intro pins s σ H Q I h
  exact isTrue_not (ha pins s σ H (fun c H1 => Q (!c) H1) I h)
noncomputable def kb1 (ta tb : TE) : TE := fun σ H Q => ta σ H fun x H1 => ∃ c, x = .bl c /\ if c = true then tb σ H1 Q else Q (.bl false) H1
noncomputable def kd5 (ta tb : TE) : TE := fun σ H Q => ta σ H fun x H1 => ∃ c, x = .bl c /\ if c = true then Q (.bl true) H1 else tb σ H1 Q
theorem wb0 {op} {t : TE} (h : PE X a t) : PE X (.BoolOp op [a] pos) t := fun pins s σ H Q I hw => BoolOp_one (h pins s σ H Q I hw)
theorem wu0 (ha : PE X a ta) (hb : PE X (.BoolOp .And (b :: zc2) pos) tb) : PE X (.BoolOp .And (a :: b :: zc2) pos) (kb1 ta tb) := by
  intro pins s σ H Q I h
  refine BoolOp_and (thn (ha pins s σ H _ I h) fun v s1 ⟨x, H1, I1, r1, q1⟩ => ?_)
  obtain ⟨c, rfl, q1⟩ := q1
  cases r1
  refine wpAny_truthy_bool ?_
  cases c with
  | true => exact hb pins s1 σ H1 Q I1 q1
  | false => exact ⟨.bl false, H1, I1, rfl, q1⟩
theorem wo0 (ha : PE X a ta) (hb : PE X (.BoolOp .Or (b :: zc2) pos) tb) : PE X (.BoolOp .Or (a :: b :: zc2) pos) (kd5 ta tb) := by
  intro pins s σ H Q I h
  refine BoolOp_or (thn (ha pins s σ H _ I h) fun v s1 ⟨x, H1, I1, r1, q1⟩ => ?_)
  obtain ⟨c, rfl, q1⟩ := q1
  cases r1
  refine wpAny_truthy_bool ?_
  cases c with
  | false => exact hb pins s1 σ H1 Q I1 q1
  | true => exact ⟨.bl true, H1, I1, rfl, q1⟩
noncomputable def tIf (t : TT) (ta tb : TE) : TE := fun σ H Q => t σ H fun c H1 => if c = true then ta σ H1 Q else tb σ H1 Q
end
end L2
namespace L2
open PySem PySem.Spec PyProof.Rows
noncomputable def SqL (K : PySem.W.Frag) (H : Hp) (a : Addr) (xs : List V) : Prop :=
  Rd H a (.lst xs) \/
    ∃ (o : Obj) (its : Array Value) (n : Nat), K.lookup a = some o /\ o.cls = .type "list" /\ o.dict = none /\ o.data = .seq its n /\ its.size <= sizeLine /\ zd5 xs its.toList
noncomputable def SqT (K : PySem.W.Frag) (H : Hp) (a : Addr) (xs : List V) : Prop :=
  Rd H a (.tup xs) \/
    ∃ (o : Obj) (its : Array Value) (n : Nat), K.lookup a = some o /\ o.cls = .type "tuple" /\ o.data = .seq its n /\ its.size <= sizeLine /\ zd5 xs its.toList
noncomputable def kd6 : Value -> Option V
  | .none => some .non
  | .bool b => some (.bl b)
  | .int i _ => some (.int i)
  | .str x _ => some (.str x)
  | .bytes b _ => some (.byt b)
  | .float b _ => some (.flt b)
  | .ref a => some (.ref a)
  | .type n => some (.ty n)
  | _ => none
theorem zg4.abs {x : V} {u : Value} (r : zg4 x u) : kd6 u = some x := by
  cases x with
  | non => cases r; rfl
  | bl _ => cases r; rfl
  | int _ => obtain ⟨t, rfl⟩ := r; rfl
  | str _ => obtain ⟨t, rfl⟩ := r; rfl
  | byt _ => obtain ⟨t, rfl⟩ := r; rfl
  | flt _ => obtain ⟨t, rfl⟩ := r; rfl
  | ref _ => cases r; rfl
  | ty _ => cases r; rfl
theorem zg4.inj {x y : V} {u : Value} (r : zg4 x u) (q : zg4 y u) : x = y := Option.some.inj (r.abs.symm.trans q.abs)
theorem zd5.inj : ∀ {xs ys : List V} {us : List Value}, zd5 xs us -> zd5 ys us -> xs = ys
  | _, _, _, .nil, .nil => rfl
  | _, _, _, .cons r t, .cons r' t' => by rw [r.inj r', zd5.inj t t']
section
variable {X : Cx} {pins : List (Addr × Obj)} {σ : St} {H : Hp} {s : Shared} {a : Addr} {xs ys : List V}
theorem SqL.of {K : PySem.W.Frag} (h : H a = some (.lst xs)) : SqL K H a xs := .inl (.inl h)
theorem SqT.of {K : PySem.W.Frag} (h : H a = some (.tup xs)) : SqT K H a xs := .inl (.inl h)
theorem Inv.list (I : Inv X pins σ H s) (h : SqL X.K H a xs) : ∃ its : List Value, zd5 xs its /\ PlainL s.heap a its.toArray /\ xs.length <= sizeLine := by
  rcases h with h | ⟨o, its, n, hk, hc, hd, hs, hz, r⟩
  . obtain ⟨z, its, n, r, e⟩ := h.ok I.hok
    exact ⟨its, r, ⟨_, n, e, rfl, rfl, rfl⟩, z⟩
  . refine ⟨its.toList, r, ⟨o, n, I.kIn a o hk, hc, hd, by simpa using hs⟩, ?_⟩
    have e := r.length
    simp only [Array.length_toList] at e
    omega
theorem Inv.tuple (I : Inv X pins σ H s) (h : SqT X.K H a xs) : ∃ its : List Value, zd5 xs its /\ IsTup s.heap a its.toArray /\ xs.length <= sizeLine := by
  rcases h with h | ⟨o, its, n, hk, hc, hs, hz, r⟩
  . obtain ⟨z, its, r, p⟩ := h.ok I.hok
    exact ⟨its, r, p, z⟩
  . refine ⟨its.toList, r, ⟨o, I.kIn a o hk, hc, n, by simpa using hs⟩, ?_⟩
    have e := r.length
    simp only [Array.length_toList] at e
    omega
theorem Inv.list_inj (I : Inv X pins σ H s) (h : SqL X.K H a xs) (h' : SqL X.K H a ys) : xs = ys := by
  obtain ⟨its, r, ⟨o, n, e, _, _, d⟩, _⟩ := I.list h
  obtain ⟨its', r', ⟨o', n', e', _, _, d'⟩, _⟩ := I.list h'
  rw [e] at e'; cases e'
  rw [d] at d'
  injection d' with d1 _
  have : its = its' := by simpa using congrArg Array.toList d1
  subst this
  exact r.inj r'
theorem Inv.tuple_inj (I : Inv X pins σ H s) (h : SqT X.K H a xs) (h' : SqT X.K H a ys) : xs = ys := by
  obtain ⟨its, r, ⟨o, e, _, n, d⟩, _⟩ := I.tuple h
  obtain ⟨its', r', ⟨o', e', _, n', d'⟩, _⟩ := I.tuple h'
  rw [e] at e'; cases e'
  rw [d] at d'
  injection d' with d1 _
  have : its = its' := by simpa using congrArg Array.toList d1
  subst this
  exact r.inj r'
end
noncomputable abbrev Cx.wish (X : Cx) (E : Value -> Shared -> Prop) : Cx := { X with xe := E }
noncomputable abbrev Cx.nox (X : Cx) : Cx := X.wish fun _ _ => False
theorem Cx.Ok.wish {X : Cx} (ok : X.Ok) (E : Value -> Shared -> Prop) : (X.wish E).Ok :=
  ⟨ok.mod, ok.kind, ok.glob, ok.blt, ok.above, ok.inj, ok.has, ok.cab, ok.hd, ok.frames, ok.stk, ok.exf, ok.bs, ok.bsz, ok.noex, ok.exfs, ok.funs, ok.frf⟩
theorem Cx.Ok.unwish {X : Cx} {E : Value -> Shared -> Prop} (ok : (X.wish E).Ok) : X.Ok :=
  ⟨ok.mod, ok.kind, ok.glob, ok.blt, ok.above, ok.inj, ok.has, ok.cab, ok.hd, ok.frames, ok.stk, ok.exf, ok.bs, ok.bsz, ok.noex, ok.exfs, ok.funs, ok.frf⟩
section
variable {X : Cx} {pins : List (Addr × Obj)} {σ : St} {H : Hp} {s : Shared} {E : Value -> Shared -> Prop}
theorem Inv.wish (I : Inv X pins σ H s) (E : Value -> Shared -> Prop) : Inv (X.wish E) pins σ H s := ⟨I.ok.wish E, I.os, I.bare, I.base, I.loc, I.cell, I.free, I.freeC, I.pin, I.hok, I.len⟩
theorem Inv.unwish (I : Inv (X.wish E) pins σ H s) : Inv X pins σ H s := ⟨I.ok.unwish, I.os, I.bare, I.base, I.loc, I.cell, I.free, I.freeC, I.pin, I.hok, I.len⟩
theorem SP.unwish {D : Ends} {f : Flow} {s' : Shared} (h : SP (X.wish E) pins D f s') : SP X pins D f s' := by
  cases f with
  | next => obtain ⟨σ', H', I, q⟩ := h; exact ⟨σ', H', I.unwish, q⟩
  | brk => obtain ⟨σ', H', I, q⟩ := h; exact ⟨σ', H', I.unwish, q⟩
  | cont => obtain ⟨σ', H', I, q⟩ := h; exact ⟨σ', H', I.unwish, q⟩
  | ret u => obtain ⟨v, σ', H', I, r, q⟩ := h; exact ⟨v, σ', H', I.unwish, r, q⟩
theorem PE.nox {e : Expr} {t : TE} (h : PE X.nox e t) : PE X e t := fun pins s σ H Q I hw =>
  wpAny_mono (h pins s σ H Q (I.wish _) hw) (fun _ _ ⟨v, H', I', r, q⟩ => ⟨v, H', I'.unwish, r, q⟩) fun _ _ z => False.elim z
theorem PT.nox {e : Expr} {t : TT} (h : PT X.nox e t) : PT X e t := fun pins s σ H Q I hw =>
  wpAny_mono (h pins s σ H Q (I.wish _) hw) (fun _ _ ⟨H', I', q⟩ => ⟨H', I'.unwish, q⟩) fun _ _ z => False.elim z
theorem PSs.nox {st : List Stmt} {t : TS} (h : PSs X.nox st t) : PSs X st t := fun pins s σ H D I hw =>
  wpAny_mono (h pins s σ H D (I.wish _) hw) (fun _ _ q => q.unwish) fun _ _ z => False.elim z
end
section
variable {X : Cx} {st : Stmt} {zc2 : List Stmt} {t u : TS} {e : Expr} {te : TE} {pos : Pos}
noncomputable def kb2 : TS := fun D σ H => D.nx σ H
noncomputable def kd7 (t u : TS) : TS := fun D σ H => t { D with nx := u D } σ H
theorem xr5 : PSs X [] kb2 := fun _ _ σ H _ I h => wpAny_execs_nil ⟨σ, H, I, h⟩
theorem zz8 (h1 : PS X st t) (h2 : PSs X zc2 u) : PSs X (st :: zc2) (kd7 t u) := by
  intro pins s σ H D I h
  refine wpAny_execs_cons (thn (h1 pins s σ H { D with nx := u D } I h) fun f s1 q => ?_)
  cases f with
  | next =>
    obtain ⟨σ', H', I', q⟩ := q
    exact h2 pins s1 σ' H' D I' q
  | ret v => exact q
  | brk => exact q
  | cont => exact q
theorem yt3 (h1 : PS X st t) : PSs X [st] t := by
  intro pins s σ H D I h
  refine wpAny_execs_cons (thn (h1 pins s σ H D I h) fun f s1 q => ?_)
  cases f with
  | next => exact wpAny_execs_nil q
  | ret v => exact q
  | brk => exact q
  | cont => exact q
theorem Inv.quiet {pins : List (Addr × Obj)} {σ : St} {H : Hp} {s : Shared} (I : Inv X pins σ H s) : interactive X.env = false := by simp [interactive, I.ok.kind]
noncomputable def kb3 (te : TE) : TS := fun D σ H => te σ H fun _ H1 => D.nx σ H1
theorem wp8 (he : PE X e te) (hs : swapsWith e none pos.line X.env = pure false := by rfl) : PS X (.Expr e pos) (kb3 te) := by
  intro pins s σ H D I h
  exact wpAny_Expr_any (thn (he pins s σ H _ I h) fun v s1 ⟨x, H1, I1, r1, q1⟩ => ⟨σ, H1, I1, q1⟩) I.quiet hs
noncomputable def kd8 (te : TE) : TS := fun D σ H => te σ H D.rt
theorem yq5 (he : PE X e te) : PS X (.Return (some e) pos) (kd8 te) := by
  intro pins s σ H D I h
  exact wpAny_Return_some (thn (he pins s σ H _ I h) fun v s1 ⟨x, H1, I1, r1, q1⟩ => ⟨x, σ, H1, I1, r1, q1⟩)
noncomputable def kd9 (c : TT) (t u : TS) : TS := fun D σ H => c σ H fun b H1 => if b = true then t D σ H1 else u D σ H1
theorem wo1 {c : Expr} {a b : List Stmt} {tc : TT} (hc : PT X c tc) (ha : PSs X a t) (hb : PSs X b u) : PS X (.If c a b pos) (kd9 tc t u) := by
  intro pins s σ H D I h
  refine wpAny_If (thn (hc pins s σ H _ I h) fun d s1 ⟨H1, I1, q1⟩ => ?_)
  cases d with
  | true => exact ha pins s1 σ H1 D I1 q1
  | false => exact hb pins s1 σ H1 D I1 q1
noncomputable def wy2 : TS := fun _ _ _ => False
theorem wi2 : PS X st wy2 := fun _ _ _ _ _ _ h => h.elim
end
noncomputable abbrev TG := V -> St -> Hp -> (St -> Hp -> Prop) -> Prop
noncomputable abbrev TGs := List V -> St -> Hp -> (St -> Hp -> Prop) -> Prop
noncomputable def PG (X : Cx) (target : Expr) (t : TG) : Prop :=
  ∀ (pins : List (Addr × Obj)) (s : Shared) (σ : St) (H : Hp) (v : V) (u : Value) (Q : St -> Hp -> Prop), Inv X pins σ H s -> zg4 v u -> t v σ H Q ->
    wpAny (model X.prog X.w) X.A (assign target X.env u) (fun _ s' => ∃ σ' H', Inv X pins σ' H' s' /\ Q σ' H') X.xe s
noncomputable def PGs (X : Cx) (ts : List Expr) (t : TGs) : Prop :=
  ∀ (pins : List (Addr × Obj)) (s : Shared) (σ : St) (H : Hp) (vs : List V) (us : List Value) (Q : St -> Hp -> Prop), Inv X pins σ H s -> zd5 vs us -> t vs σ H Q ->
    wpAny (model X.prog X.w) X.A (assignInOrder ((assignEach ts X.env).map (·.2)) us) (fun _ s' => ∃ σ' H', Inv X pins σ' H' s' /\ Q σ' H') X.xe s
noncomputable abbrev wn4 := V -> V -> V -> Hp -> (Hp -> Prop) -> Prop
noncomputable def wy3 (X : Cx) (t : wn4) : Prop :=
  ∀ (pins : List (Addr × Obj)) (s : Shared) (σ : St) (H : Hp) (o i v : V) (ov iv u : Value) (Q : Hp -> Prop), Inv X pins σ H s -> zg4 o ov -> zg4 i iv -> zg4 v u -> t o i v H Q ->
    wpAny (model X.prog X.w) X.A (setItem ov iv u) (fun _ s' => ∃ H', Inv X pins σ H' s' /\ Q H') X.xe s
section
variable {X : Cx} {pos : Pos}
noncomputable def yg2 (i : Nat) : TG := fun v σ H Q => Q (σ.set i (some v)) H
theorem zy5 {i : Nat} {x : Str} (hN : X.N.Nodup) (hi : X.N[i]? = some x) (hx : Loc X.env.scope x) (hf : X.fn x = true \/ X.env.scope.names.lookup x = some .local := by first | exact .inl rfl | exact .inr rfl | assumption) : PG X (.Name x pos) (yg2 i) := by
  intro pins s σ H v u Q I r h
  exact wpAny_assign_Name (xl1 I hN hi hx r (fun s' I' => ⟨_, H, I', h⟩) hf)
noncomputable def wn5 : TGs := fun vs σ H Q => vs = [] /\ Q σ H
noncomputable def xz7 (t : TG) (u : TGs) : TGs := fun vs σ H Q => ∃ v r, vs = v :: r /\ t v σ H fun σ' H' => u r σ' H' Q
theorem xd3 : PGs X [] wn5 := by
  intro pins s σ H vs us Q I r h
  obtain ⟨e, h⟩ := h
  subst e
  cases r
  exact assignInOrder_nil ⟨σ, H, I, h⟩
theorem yc6 {e : Expr} {es : List Expr} {t : TG} {u : TGs} (h1 : PG X e t) (h2 : PGs X es u)
    (hs : (assignEach (e :: es) X.env).map (·.2) = assign e X.env :: (assignEach es X.env).map (·.2) := by rfl) : PGs X (e :: es) (xz7 t u) := by
  intro pins s σ H vs us Q I r h
  obtain ⟨v, vr, e1, h⟩ := h
  subst e1
  cases r with
  | cons r rr =>
    rw [hs]
    refine assignInOrder_cons (thn (h1 pins s σ H _ _ _ I r h) fun _ s1 ⟨σ1, H1, I1, q1⟩ => ?_)
    exact h2 pins s1 σ1 H1 _ _ Q I1 rr q1
noncomputable def wy4 (K : PySem.W.Frag) (n : Nat) (t : TGs) : TG := fun v σ H Q => ∃ a xs, v = .ref a /\ SqT K H a xs /\ xs.length = n /\ t xs σ H Q
theorem wu1 {es : List Expr} {k : Nat} {t : TGs} {n : Nat} (hc : X.calm = true) (h : PGs X es t)
    (hn : (assignEach es X.env).length = n := by rfl) (hst : (assignEach es X.env).findIdx? (·.1) = none := by rfl) : PG X (.Tuple es k pos) (wy4 X.K n t) := by
  intro pins s σ H v u Q I r hw
  obtain ⟨a, xs, e1, hq, hl, hw⟩ := hw
  subst e1
  cases r
  obtain ⟨its, rv, ht, hz⟩ := I.tuple hq
  refine assign_Tuple_tuple (I.ok.hd hc) ht (by simp [hn, <- hl, rv.length]) hst fun h' hx => ?_
  have I1 : Inv X pins σ H { s with heap := h' } := I.kept (t' := s.toks) fun b o e => hx b o (Nat.ne_of_lt (Heap.lt_size e)) e
  exact h pins _ σ H xs _ Q I1 (by simpa using rv) hw
noncomputable def ke0 (to ti : TE) (t : wn4) : TG := fun v σ H Q => to σ H fun o H1 => ti σ H1 fun i H2 => t o i v H2 fun H3 => Q σ H3
theorem wu2 {o i : Expr} {to ti : TE} {t : wn4} (ho : PE X o to) (hi : PE X i ti) (hs : wy3 X t)
    (ha : ∀ v, assign (.Subscript o i pos) X.env v = (do
      let ov <- holding [v] (eval o X.env)
      let iv <- holding [v, ov] (eval i X.env)
      standAt pos
      holding [v, ov, iv] (setItem ov iv v)
      release [v, ov, iv] []) := by intro _; rfl) : PG X (.Subscript o i pos) (ke0 to ti t) := by
  intro pins s σ H v u Q I r h
  rw [ha]
  refine wpAny_bind (wpAny_holding (thn (ho pins s σ H _ I h) fun ov s1 ⟨x, H1, I1, r1, q1⟩ => ?_))
  refine wpAny_bind (wpAny_holding (thn (hi pins s1 σ H1 _ I1 q1) fun iv s2 ⟨y, H2, I2, r2, q2⟩ => ?_))
  refine wpAny_bind (wpAny_standAt (wpAny_bind (wpAny_holding (thn (hs pins s2 σ H2 x y v ov iv u _ I2 r1 r2 r q2) fun _ s3 ⟨H3, I3, q3⟩ => ?_))))
  exact wpAny_release ⟨σ, H3, I3, q3⟩
noncomputable def wy5 (te : TE) (g : TG) : TS := fun D σ H => te σ H fun x H1 => g x σ H1 D.nx
theorem wb1 {tg e : Expr} {te : TE} {g : TG} (he : PE X e te) (hg : PG X tg g) (hs : swapsWithSole [tg] e pos.line X.env = pure false := by rfl) (hw : swappedStores [tg] e X.env = pure none := by rfl)
    (h1 : (assignEach [tg] X.env).map (·.2) = [assign tg X.env] := by rfl) : PS X (.Assign [tg] e pos) (wy5 te g) := by
  intro pins s σ H D I h
  refine wpAny_Assign_stores (thn (he pins s σ H _ I h) fun v s1 ⟨x, H1, I1, r1, q1⟩ => ?_) hs hw
  rw [h1]
  exact thn (hg pins s1 σ H1 x v _ I1 r1 q1) fun _ s2 q => q
theorem yk8 {i : Nat} {x : Str} {e : Expr} {te : TE} {pos' : Pos} (hN : X.N.Nodup) (hi : X.N[i]? = some x) (hx : Loc X.env.scope x) (he : PE X e te) (hs : swapsWith e (some (.Name x pos')) pos.line X.env = pure false := by rfl) (hf : X.fn x = true \/ X.env.scope.names.lookup x = some .local := by first | exact .inl rfl | exact .inr rfl | assumption) :
    PS X (.Assign [.Name x pos'] e pos) (wy5 te (yg2 i)) := by
  intro pins s σ H D I h
  refine wpAny_Assign_Name (thn (he pins s σ H _ I h) fun v s1 ⟨y, H1, I1, r1, q1⟩ => ?_) hs
  exact xl1 I1 hN hi hx r1 (fun s2 I2 => ⟨_, H1, I2, q1⟩) hf
end
section
variable {X : Cx} {pos : Pos}
noncomputable def wy6 (c : TT) (tb : TS) : TS := fun D σ H => ∃ W : Nat -> St -> Hp -> Prop, (∃ m, W m σ H) /\ ∀ m σ H, W m σ H ->
  c σ H fun b H1 => if b = true then ∃ N : St -> Hp -> Prop, (∀ σ' H', N σ' H' -> ∃ m', m' < m /\ W m' σ' H') /\ tb { D with nx := N, ct := N, bk := D.nx } σ H1 else D.nx σ H1
theorem wi3 {c : Expr} {body : List Stmt} {tc : TT} {tb : TS} (hp : PassesOwn (model X.prog X.w) X.A X.env X.xe) (hc : PT X c tc) (hb : PSs X body tb) : PS X (.While c body [] pos) (wy6 tc tb) := by
  intro pins s σ H D I h
  obtain ⟨W, ⟨m0, w0⟩, turn⟩ := h
  refine wpAny_While (codeAny_whileLoop (fun n s' => ∃ σ' H', Inv X pins σ' H' s' /\ W n σ' H') ?_ m0 ⟨σ, H, I, w0⟩)
  rintro n s1 ⟨σ1, H1, I1, w1⟩
  refine wpAny_passesOwn hp (thn (hc pins s1 σ1 H1 _ I1 (turn n σ1 H1 w1)) fun b s2 ⟨H2, I2, q2⟩ => ?_)
  cases b with
  | true =>
    obtain ⟨N, hN, q2⟩ := q2
    rw [if_pos rfl]
    refine wpAny_passesOwn hp (thn (hb pins s2 σ1 H2 _ I2 q2) fun f s3 q3 => ?_)
    cases f with
    | next =>
      obtain ⟨σ3, H3, I3, n3⟩ := q3
      obtain ⟨m', hm, w3⟩ := hN σ3 H3 n3
      exact ⟨m', hm, σ3, H3, I3, w3⟩
    | cont =>
      obtain ⟨σ3, H3, I3, n3⟩ := q3
      obtain ⟨m', hm, w3⟩ := hN σ3 H3 n3
      exact ⟨m', hm, σ3, H3, I3, w3⟩
    | brk => exact q3
    | ret v => exact q3
  | false =>
    rw [if_neg Bool.false_ne_true]
    exact wpAny_execs_nil ⟨σ1, H2, I2, q2⟩
end
structure It where
  go : Nat -> Hp -> Prop
  yld : Nat -> Hp -> V -> Hp -> Prop
  stop : Nat -> Hp -> Prop
noncomputable def yh9 (X : Cx) (pins : List (Addr × Obj)) (H : Hp) (b : Addr) : Prop :=
  H b = none /\ b ≠ X.env.locals /\ b ∉ X.fs /\ (b ∈ X.ex \/ X.s₀.heap.objs.size <= b) /\ (∀ x c, X.env.cells.lookup x = some c -> c ≠ b) /\ ∀ p ∈ X.pn ++ pins, p.1 ≠ b
theorem Inv.fpOk {X : Cx} {pins : List (Addr × Obj)} {σ : St} {H H' : Hp} {s : Shared} {b : Addr} (I : Inv X pins σ H s) (hb : s.heap.objs.size <= b) (hn : H' b = none) : yh9 X pins H' b := by
  refine ⟨hn, Nat.ne_of_gt (Nat.lt_of_lt_of_le I.lt hb), I.nofs hb, .inr (Nat.le_trans I.sz hb), fun x c e z => ?_, fun p hp z => ?_⟩
  . obtain ⟨v, q⟩ := I.cell x c e
    exact absurd (Nat.lt_of_lt_of_le q.lt (by rw [z]; exact hb)) (Nat.lt_irrefl _)
  . exact absurd (Nat.lt_of_lt_of_le (Heap.lt_size (I.pin p hp).1) (by rw [z]; exact hb)) (Nat.lt_irrefl _)
structure Turn (P : Program) (w : World) (K : PySem.W.Frag) (tg : Expr) (J : It) (fp : List Addr) (it : Addr) (tn : Nat -> Heap -> Prop) : Prop where
  mem : it ∈ fp
  obj : ∀ i h, tn i h -> ∀ b ∈ fp, ∃ o, h.get? b = some o /\ ∀ v, o.data ≠ .cell v
  keep : ∀ i h h', tn i h -> (∀ b ∈ fp, ∀ o, h.get? b = some o -> h'.get? b = some o) -> tn i h'
  item : ∀ (X : Cx), X.prog = P -> X.w = w -> X.K = K -> X.calm = true -> ∀ (i : Nat) (pins : List (Addr × Obj)) (s : Shared) (σ : St) (H : Hp) (E : Value -> Shared -> Prop), Inv X pins σ H s -> (∀ b ∈ fp, yh9 X pins H b) -> tn i s.heap -> J.go i H ->
    wpAny (model P w) X.A (pyNext (.ref it)) (fun r s1 => ∃ u, r = some u /\
      wpAny (model P w) X.A (letOwnedTupleGo tg (.ref it) u) (fun _ s2 => ∃ x H', Inv X pins σ H' s2 /\ zg4 x u /\ J.yld i H x H' /\ tn (i + 1) s2.heap /\ ∀ b ∈ fp, H' b = none) E s1) E s
  done : ∀ (X : Cx), X.prog = P -> X.w = w -> X.K = K -> X.calm = true -> ∀ (i : Nat) (pins : List (Addr × Obj)) (s : Shared) (σ : St) (H : Hp) (E : Value -> Shared -> Prop), Inv X pins σ H s -> (∀ b ∈ fp, yh9 X pins H b) -> tn i s.heap -> J.stop i H ->
    wpAny (model P w) X.A (pyNext (.ref it)) (fun r s1 => r = none /\ Inv X pins σ H s1) E s
  self : ∀ (A : Around) (i : Nat) (s : Shared) (Q : Value -> Shared -> Prop) (E : Value -> Shared -> Prop), tn i s.heap -> Q (.ref it) s -> wpAny (model P w) A (pyIter (.ref it)) Q E s
noncomputable abbrev TI := St -> Hp -> (It -> Hp -> Prop) -> Prop
noncomputable def PIE (X : Cx) (pins : List (Addr × Obj)) (σ : St) (tg : Expr) (R : It -> Hp -> Prop) (itv : Value) (s2 : Shared) : Prop :=
  ∃ (it : Addr) (fp : List Addr) (tn : Nat -> Heap -> Prop) (J : It) (H' : Hp), itv = .ref it /\ Inv X pins σ H' s2 /\ Turn X.prog X.w X.K tg J fp it tn /\ tn 0 s2.heap /\ (∀ b ∈ fp, yh9 X pins H' b) /\ R J H'
noncomputable def PI (X : Cx) (tg iter : Expr) (wi : TI) : Prop :=
  ∀ (pins : List (Addr × Obj)) (s : Shared) (σ : St) (H : Hp) (R : It -> Hp -> Prop), Inv X pins σ H s -> wi σ H R ->
    wpAny (model X.prog X.w) X.A (eval iter X.env) (fun v s1 => wpAny (model X.prog X.w) X.A (pyIter v) (PIE X pins σ tg R) X.xe s1) X.xe s
theorem xu8 {M : Model} {A : Around} {E : Value -> Shared -> Prop} {s : Shared} {tg : Expr} {it : Addr} {u : Value} {o : Obj} {n : String} {vs : Array Value} {Q : Unit -> Shared -> Prop} (ho : s.heap.get? it = some o) (hc : o.cls = .type n) (hd : o.data = .fields vs)
    (hn : ["enumerate", "zip", "dict_itemiterator", "dict_reverseitemiterator", "odict_iterator", "itertools.zip_longest", "itertools.pairwise"].contains n = false) (hQ : Q () s) : wpAny M A (letOwnedTupleGo tg (.ref it) u) Q E s := by
  unfold letOwnedTupleGo
  cases tg <;> first
    | exact wpAny_pure hQ
    | (cases u <;> first
        | exact wpAny_pure hQ
        | (refine wpAny_bind (wpAny_load ho ?_)
           rw [hc, hd]
           show wpAny M A (if (["enumerate", "zip", "dict_itemiterator", "dict_reverseitemiterator", "odict_iterator", "itertools.zip_longest", "itertools.pairwise"].contains n && vs[0]? == some (rawInt _)) = true then _ else _) Q E s
           rw [if_neg (by intro h; rw [hn, Bool.false_and] at h; cases h)]
           exact wpAny_pure hQ))
noncomputable def Itl (K : PySem.W.Frag) (a : Addr) : It :=
  ⟨fun i H => ∃ xs x, SqL K H a xs /\ xs[i]? = some x, fun i H x H' => H' = H /\ ∀ xs, SqL K H a xs -> xs[i]? = some x, fun i H => ∃ xs, SqL K H a xs /\ xs.length <= i⟩
noncomputable def Itt (K : PySem.W.Frag) (a : Addr) : It :=
  ⟨fun i H => ∃ xs x, SqT K H a xs /\ xs[i]? = some x, fun i H x H' => H' = H /\ ∀ xs, SqT K H a xs -> xs[i]? = some x, fun i H => ∃ xs, SqT K H a xs /\ xs.length <= i⟩
noncomputable def Itr (lo : Int) (n : Nat) : It := ⟨fun i _ => i < n, fun i H x H' => H' = H /\ x = .int (lo + i), fun i _ => n <= i⟩
theorem wb2 {P : Program} {w : World} {K : PySem.W.Frag} {tg : Expr} (a it : Addr) : Turn P w K tg (Itl K a) [it] it (fun i h => h.IsListIter it a i) where
  mem := by simp
  obj := fun i h st b hb => by
    have e : b = it := by simpa using hb
    subst e
    obtain ⟨o, e, c, d⟩ := st
    exact ⟨o, e, fun v z => by rw [d] at z; cases z⟩
  keep := fun i h h' st k => st.at fun o e => k it (by simp) o e
  item := by
    intro X hP hw hK hc i pins s σ H E I hf st hg
    subst hP hw hK
    obtain ⟨xs, x, hq, hx⟩ := hg
    obtain ⟨its, rv, p, hz⟩ := I.list hq
    obtain ⟨u, hu, ru⟩ := rv.get hx
    obtain ⟨f0, f1, f2, f3, f4, f5⟩ := hf it (by simp)
    refine wpAny_pyNext_list_item st p.isList (x := u) (by simpa using hu) fun h' st' sb => ?_
    have I1 : Inv X pins σ H { s with heap := h' } := I.turned (t' := s.toks) (fun b o hb e => (sb.2 b hb).trans e) f0 f1 f3 f4 f5
    obtain ⟨o, e, c, d⟩ := id st'
    exact ⟨u, rfl, xu8 (s := { s with heap := h' }) e c d (by decide) ⟨x, H, I1, ru, ⟨rfl, fun ys hy => by rw [I.list_inj hy hq]; exact hx⟩, st', fun b hb => (hf b hb).1⟩⟩
  done := by
    intro X hP hw hK hc i pins s σ H E I hf st hg
    subst hP hw hK
    obtain ⟨xs, hq, hx⟩ := hg
    obtain ⟨its, rv, p, hz⟩ := I.list hq
    obtain ⟨f0, f1, f2, f3, f4, f5⟩ := hf it (by simp)
    have hl := rv.length
    exact wpAny_pyNext_list_end (I.ok.hd hc) st p.isList (by simp; omega) fun h' eb => ⟨rfl, I.turned (t' := s.toks) (fun b o hb e => eb b o hb e) f0 f1 f3 f4 f5⟩
  self := fun _ _ _ _ _ st h => wpAny_pyIter_listiter st h
theorem xu9 {P : Program} {w : World} {K : PySem.W.Frag} {tg : Expr} (a it : Addr) : Turn P w K tg (Itt K a) [it] it (fun i h => h.IsTupleIter it a i) where
  mem := by simp
  obj := fun i h st b hb => by
    have e : b = it := by simpa using hb
    subst e
    obtain ⟨o, e, c, d⟩ := st
    exact ⟨o, e, fun v z => by rw [d] at z; cases z⟩
  keep := fun i h h' st k => st.at fun o e => k it (by simp) o e
  item := by
    intro X hP hw hK hc i pins s σ H E I hf st hg
    subst hP hw hK
    obtain ⟨xs, x, hq, hx⟩ := hg
    obtain ⟨its, rv, p, hz⟩ := I.tuple hq
    obtain ⟨u, hu, ru⟩ := rv.get hx
    obtain ⟨f0, f1, f2, f3, f4, f5⟩ := hf it (by simp)
    refine wpAny_pyNext_tuple_item st (show s.heap.IsTuple a its.toArray from p) (x := u) (by simpa using hu) fun h' st' sb => ?_
    have I1 : Inv X pins σ H { s with heap := h' } := I.turned (t' := s.toks) (fun b o hb e => (sb.2 b hb).trans e) f0 f1 f3 f4 f5
    obtain ⟨o, e, c, d⟩ := id st'
    exact ⟨u, rfl, xu8 (s := { s with heap := h' }) e c d (by decide) ⟨x, H, I1, ru, ⟨rfl, fun ys hy => by rw [I.tuple_inj hy hq]; exact hx⟩, st', fun b hb => (hf b hb).1⟩⟩
  done := by
    intro X hP hw hK hc i pins s σ H E I hf st hg
    subst hP hw hK
    obtain ⟨xs, hq, hx⟩ := hg
    obtain ⟨its, rv, p, hz⟩ := I.tuple hq
    obtain ⟨f0, f1, f2, f3, f4, f5⟩ := hf it (by simp)
    have hl := rv.length
    exact wpAny_pyNext_tuple_end (I.ok.hd hc) st (show s.heap.IsTuple a its.toArray from p) (by simp; omega) fun h' eb => ⟨rfl, I.turned (t' := s.toks) (fun b o hb e => eb b o hb e) f0 f1 f3 f4 f5⟩
  self := fun _ _ _ _ _ st h => wpAny_pyIter_tupleiter st h
theorem xv0 {P : Program} {w : World} {K : PySem.W.Frag} {tg : Expr} (it : Addr) (lo : Int) (n : Nat) : Turn P w K tg (Itr lo n) [it] it (fun i h => IsRangeIter h it (lo + (i : Nat) * 1) ((n : Int) - (i : Nat)) 1) where
  mem := by simp
  obj := fun i h st b hb => by
    have e : b = it := by simpa using hb
    subst e
    exact ⟨_, st, fun v z => by
      have z' : Data.fields _ = Data.cell v := z
      cases z'⟩
  keep := fun i h h' st k => k it (by simp) _ st
  item := by
    intro X hP hw hK hc i pins s σ H E I hf st hg
    subst hP hw hK
    obtain ⟨f0, f1, f2, f3, f4, f5⟩ := hf it (by simp)
    have W := Walks.range (prog := X.prog) (w := X.w) (I.ok.hd hc) it lo 1 n
    refine W.item i s _ _ hg st fun v h' tk hv st' kk => ?_
    obtain ⟨t, rfl⟩ := hv
    have I1 : Inv X pins σ H { s with heap := h', toks := tk } := I.turned (fun b o hb e => kk b o (by simpa using hb) e) f0 f1 f3 f4 f5
    refine ⟨_, rfl, xu8 (s := { s with heap := h', toks := tk }) (n := "range_iterator") st' rfl rfl (by decide) ⟨.int (lo + i), H, I1, ⟨t, ?_⟩, ⟨rfl, rfl⟩, st', fun b hb => (hf b hb).1⟩⟩
    rw [Int.mul_one]
  done := by
    intro X hP hw hK hc i pins s σ H E I hf st hg
    subst hP hw hK
    obtain ⟨f0, f1, f2, f3, f4, f5⟩ := hf it (by simp)
    exact wpAny_pyNext_range_end (I.ok.hd hc) st (by have : n <= i := hg; omega) fun h' eb => ⟨rfl, I.turned (t' := s.toks) (fun b o hb e => eb b o hb e) f0 f1 f3 f4 f5⟩
  self := fun _ _ _ _ _ st h => wpAny_pyIter_rangeiter st h
end L2
namespace L2
open PySem PySem.Spec PyProof.Rows
section
variable {X : Cx} {tg : Expr}
theorem xl2 {pins : List (Addr × Obj)} {σ : St} {H : Hp} {s : Shared} {R : It -> Hp -> Prop} {E : Value -> Shared -> Prop} {lo hi : Int} {t u v : Tok} {tk : Nat} (I : Inv X pins σ H s) (h1 : -(2 ^ 62) <= lo) (h2 : lo < 2 ^ 62) (h3 : -(2 ^ 62) <= hi) (h4 : hi < 2 ^ 62)
    (q : R (Itr lo (hi - lo).toNat) H) : wpAny (model X.prog X.w) X.A (pyIter (.ref s.heap.objs.size)) (PIE X pins σ tg R) E { s with heap := s.heap.push { cls := .type "range", data := .fields #[.int lo t, .int hi u, .int 1 v] }, toks := tk } := by
  refine wpAny_pyIter_range (IsRange.new ..) (small_one h1 h2 h3 h4) ?_
  have I1 : Inv X pins σ H { s with heap := s.heap.push { cls := .type "range", data := .fields #[.int lo t, .int hi u, .int 1 v] }, toks := tk } := I.kept fun b o e => Heap.get?_push_of_some _ e
  refine ⟨(s.heap.push { cls := .type "range", data := .fields #[.int lo t, .int hi u, .int 1 v] }).objs.size, [(s.heap.push { cls := .type "range", data := .fields #[.int lo t, .int hi u, .int 1 v] }).objs.size], _, _, H, rfl,
    I1.kept (t' := tk) fun b o e => Heap.get?_push_of_some _ e, xv0 _ lo (hi - lo).toNat, ?_, fun b hb => ?_, q⟩
  . have e1 : lo + ((0 : Nat) : Int) * 1 = lo := by simp
    have e2 : (((hi - lo).toNat : Nat) : Int) - ((0 : Nat) : Int) = Builtin.Range.rangeSize lo hi 1 := by rw [rangeSize_one]; split <;> omega
    show IsRangeIter _ _ (lo + ((0 : Nat) : Int) * 1) ((((hi - lo).toNat : Nat) : Int) - ((0 : Nat) : Int)) 1
    rw [e1, e2]
    exact Heap.get?_push_size _ rfl
  . have e : b = (s.heap.push { cls := .type "range", data := .fields #[.int lo t, .int hi u, .int 1 v] }).objs.size := by simpa using hb
    subst e
    exact I1.fpOk (Nat.le_refl _) (I1.hok.fresh (Nat.le_refl _))
noncomputable def kb4 (ta : TA) : TI := fun σ H R => ta σ H fun vs H1 => ∃ j : Int, vs = [.int j] /\ -(2 ^ 62) <= j /\ j < 2 ^ 62 /\ R (Itr 0 j.toNat) H1
noncomputable def kb5 (ta : TA) : TI := fun σ H R => ta σ H fun vs H1 => ∃ i j : Int, vs = [.int i, .int j] /\ (-(2 ^ 62) <= i /\ i < 2 ^ 62 /\ -(2 ^ 62) <= j /\ j < 2 ^ 62) /\ R (Itr i (j - i).toNat) H1
theorem wb3 {a : Expr} {ta : TA} {p pos : Pos} (hg : Gl X "range") (hm : X.mg "range" = none) (ha : PA X [a] ta) (hs : starEach [a] X.env = [(false, eval a X.env)] := by rfl) : PI X tg (.Call (.Name "range" p) [a] [] pos) (kb4 ta) := by
  intro pins s σ H R I h
  refine Call_ (yq4 I hg hm boot_range (PyProof.Rows.callWith_type1 (thn (ha pos pins s σ H _ I h) fun us s1 ⟨vs, H1, I1, r1, q1⟩ => ?_) hs rfl))
  obtain ⟨j, e, q1, q2, q⟩ := q1
  subst e
  cases r1 with
  | cons r rr =>
    cases rr
    obtain ⟨t, rfl⟩ := r
    exact call_range_1 (xl2 I1 (by omega) (by omega) q1 q2 (by simpa using q))
theorem wb4 {a b : Expr} {ta : TA} {p pos : Pos} (hg : Gl X "range") (hm : X.mg "range" = none) (ha : PA X [a, b] ta) (hs : starEach [a, b] X.env = [(false, eval a X.env), (false, eval b X.env)] := by rfl) (hs2 : starEach [b] X.env = [(false, eval b X.env)] := by rfl) :
    PI X tg (.Call (.Name "range" p) [a, b] [] pos) (kb5 ta) := by
  intro pins s σ H R I h
  refine Call_ (yq4 I hg hm boot_range (PyProof.Rows.callWith_type1 (thn (ha pos pins s σ H _ I h) fun us s1 ⟨vs, H1, I1, r1, q1⟩ => ?_) (by rw [hs, hs2]) (by rw [hs2]; rfl)))
  obtain ⟨i, j, e, ⟨q1, q2, q3, q4⟩, q⟩ := q1
  subst e
  cases r1 with
  | cons r rr =>
    cases rr with
    | cons r' rr =>
      cases rr
      obtain ⟨t, rfl⟩ := r
      obtain ⟨t', rfl⟩ := r'
      exact call_range_2 (xl2 I1 q1 q2 q3 q4 q)
noncomputable def ke1 (wi : TI) (g : TG) (tb : TS) : TS := fun D σ H => wi σ H fun J H1 => ∃ W : Nat -> Nat -> St -> Hp -> Prop, (∃ m, W 0 m σ H1) /\ ∀ i m σ H, W i m σ H ->
  (J.stop i H /\ D.nx σ H) \/ (J.go i H /\ ∃ N : St -> Hp -> Prop, (∀ σ' H', N σ' H' -> ∃ m', m' < m /\ W (i + 1) m' σ' H') /\ ∀ x H', J.yld i H x H' -> g x σ H' fun σ2 H2 => tb { D with nx := N, ct := N, bk := D.nx } σ2 H2)
noncomputable def ym1 (fp : List Addr) (h : Heap) : List (Addr × Obj) := fp.filterMap fun b => (h.get? b).map fun o => (b, o)
theorem yg0 {fp : List Addr} {h : Heap} {b : Addr} {o : Obj} (hb : b ∈ fp) (e : h.get? b = some o) : (b, o) ∈ ym1 fp h := List.mem_filterMap.mpr ⟨b, hb, by rw [e]; rfl⟩
theorem wb5 {fp : List Addr} {h : Heap} {p : Addr × Obj} (hp : p ∈ ym1 fp h) : p.1 ∈ fp /\ h.get? p.1 = some p.2 := by
  obtain ⟨b, hb, e⟩ := List.mem_filterMap.mp hp
  cases q : h.get? b with
  | none => rw [q] at e; cases e
  | some o =>
    rw [q] at e
    have e' : (b, o) = p := Option.some.inj e
    subst e'
    exact ⟨hb, q⟩
theorem Inv.pinned {pins : List (Addr × Obj)} {σ : St} {H : Hp} {s : Shared} {fp : List Addr} (I : Inv X pins σ H s) (hf : ∀ b ∈ fp, yh9 X pins H b) (ho : ∀ b ∈ fp, ∃ o, s.heap.get? b = some o /\ ∀ v, o.data ≠ .cell v) : Inv X (pins ++ ym1 fp s.heap) σ H s :=
  I.pins_of fun p hp => (List.mem_append.mp hp).elim (fun z => I.pin p (List.mem_append_right _ z)) fun z => by
    obtain ⟨hb, e⟩ := wb5 z
    obtain ⟨f0, f1, f2, _⟩ := hf p.1 hb
    obtain ⟨o, e', d⟩ := ho p.1 hb
    rw [e] at e'; cases e'
    exact ⟨e, f0, f1, f2, d⟩
theorem Inv.unpinned {pins pl : List (Addr × Obj)} {σ : St} {H : Hp} {s : Shared} (I : Inv X (pins ++ pl) σ H s) : Inv X pins σ H s := I.pins_of fun p hp => I.pin p (List.mem_append_right _ (List.mem_append_left _ hp))
theorem wb6 {iter : Expr} {body : List Stmt} {wi : TI} {g : TG} {tb : TS} {pos : Pos} (hp : PassesOwn (model X.prog X.w) X.A X.env X.xe) (hc : X.calm = true) (hi : PI X tg iter wi) (hg : PG X tg g) (hb : PSs X body tb)
    (hs : ∀ x, foldedSetIterable iter X.env x = pure x := by intro _; rfl) : PS X (.For tg iter body [] pos) (ke1 wi g tb) := by
  intro pins s σ H D I h
  refine wpAny_For (thn (hi pins s σ H _ I h) fun v s1 h1 => thn h1 fun itv s2 h2 => ?_) hs
  obtain ⟨it, fp, tn, J, H2, e, I2, T, st2, f2, W, ⟨m0, w0⟩, turn⟩ := h2
  subst e
  have stat : ∀ {H' : Hp}, (∀ b ∈ fp, H' b = none) -> ∀ b ∈ fp, yh9 X pins H' b := fun hn b hb => ⟨hn b hb, (f2 b hb).2⟩
  refine codeAny_forLoop_any (fun n s' => ∃ i σ' H', Inv X pins σ' H' s' /\ tn i s'.heap /\ (∀ b ∈ fp, H' b = none) /\ W i n σ' H') ?_ m0 ⟨0, σ, H2, I2, st2, fun b hb => (f2 b hb).1, w0⟩
  rintro n s3 ⟨i, σ3, H3, I3, st3, fr3, w3⟩
  rcases turn i n σ3 H3 w3 with ⟨stop, qn⟩ | ⟨go, N, hN, step⟩
  . refine wpAny_passesOwn hp (thn (T.done X rfl rfl rfl hc i pins s3 σ3 H3 X.xe I3 (stat fr3) st3 stop) fun r s4 ⟨hr, I4⟩ => ?_)
    subst hr
    exact wpAny_execs_nil ⟨σ3, H3, I4, qn⟩
  . refine wpAny_passesOwn hp (thn (T.item X rfl rfl rfl hc i pins s3 σ3 H3 X.xe I3 (stat fr3) st3 go) fun r s4 ⟨u, hr, h4⟩ => ?_)
    subst hr
    refine wpAny_passesOwn hp (thn h4 fun _ s5 ⟨x, H5, I5, r5, y5, st5, fr5⟩ => ?_)
    have I5' := I5.pinned (stat fr5) (T.obj _ _ st5)
    refine wpAny_passesOwn hp (thn (hg _ s5 σ3 H5 x u _ I5' r5 (step x H5 y5)) fun _ s6 ⟨σ6, H6, I6, q6⟩ => ?_)
    refine wpAny_passesOwn hp (thn (hb _ s6 σ6 H6 _ I6 q6) fun f s7 q7 => ?_)
    have again : ∀ {σ7 : St} {H7 : Hp}, Inv X (pins ++ ym1 fp s5.heap) σ7 H7 s7 -> N σ7 H7 -> ∃ m, m < n /\ ∃ i σ' H', Inv X pins σ' H' s7 /\ tn i s7.heap /\ (∀ b ∈ fp, H' b = none) /\ W i m σ' H' := fun {σ7 H7} I7 n7 => by
      obtain ⟨m', hm, w7⟩ := hN σ7 H7 n7
      refine ⟨m', hm, i + 1, σ7, H7, I7.unpinned, T.keep _ _ _ st5 fun b hb o e => (I7.pin (b, o) (List.mem_append_right _ (List.mem_append_right _ (yg0 hb e)))).1, fun b hb => ?_, w7⟩
      obtain ⟨o, e, d⟩ := T.obj _ _ st5 b hb
      exact (I7.pin (b, o) (List.mem_append_right _ (List.mem_append_right _ (yg0 hb e)))).2.1
    cases f with
    | next => obtain ⟨σ7, H7, I7, n7⟩ := q7; exact again I7 n7
    | cont => obtain ⟨σ7, H7, I7, n7⟩ := q7; exact again I7 n7
    | brk => obtain ⟨σ7, H7, I7, q7⟩ := q7; exact ⟨σ7, H7, I7.unpinned, q7⟩
    | ret v => obtain ⟨x7, σ7, H7, I7, r7, q7⟩ := q7; exact ⟨x7, σ7, H7, I7.unpinned, r7, q7⟩
end
end L2
namespace L2
open PySem PySem.Spec PyProof.Rows
noncomputable abbrev R2 := V -> V -> Hp -> VK -> Prop
noncomputable def OpR (X : Cx) (f : Value -> Value -> Sem Value) (r : R2) : Prop :=
  ∀ (pins : List (Addr × Obj)) (s : Shared) (σ : St) (H : Hp) (x y : V) (v u : Value) (Q : VK), Inv X pins σ H s -> zg4 x v -> zg4 y u -> r x y H Q ->
    wpAny (model X.prog X.w) X.A (f v u) (EP X pins σ Q) X.xe s
noncomputable def UnR (X : Cx) (f : Value -> Sem Value) (r : V -> Hp -> VK -> Prop) : Prop :=
  ∀ (pins : List (Addr × Obj)) (s : Shared) (σ : St) (H : Hp) (x : V) (v : Value) (Q : VK), Inv X pins σ H s -> zg4 x v -> r x H Q ->
    wpAny (model X.prog X.w) X.A (f v) (EP X pins σ Q) X.xe s
noncomputable def zk7 (X : Cx) (f : Value) (r : List V -> Hp -> VK -> Prop) : Prop :=
  ∀ (pins : List (Addr × Obj)) (s : Shared) (σ : St) (H : Hp) (xs : List V) (us : List Value) (Q : VK), Inv X pins σ H s -> zd5 xs us -> r xs H Q ->
    wpAny (model X.prog X.w) X.A (call f us) (EP X pins σ Q) X.xe s
noncomputable def ke2 (X : Cx) (r : V -> Hp -> (Bool -> Hp -> Prop) -> Prop) : Prop :=
  ∀ (pins : List (Addr × Obj)) (s : Shared) (σ : St) (H : Hp) (x : V) (v : Value) (Q : Bool -> Hp -> Prop), Inv X pins σ H s -> zg4 x v -> r x H Q ->
    wpAny (model X.prog X.w) X.A (truthy v) (TP X pins σ Q) X.xe s
noncomputable def tOp (r : R2) (ta tb : TE) : TE := fun σ H Q => ta σ H fun x H1 => tb σ H1 fun y H2 => r x y H2 Q
noncomputable def tUn (r : V -> Hp -> VK -> Prop) (ta : TE) : TE := fun σ H Q => ta σ H fun x H1 => r x H1 Q
noncomputable def rI (C : Int -> Int -> Prop) (g : Int -> Int -> V) : R2 := fun x y H Q => ∃ i j, x = .int i /\ y = .int j /\ C i j /\ Q (g i j) H
noncomputable def rI0 (g : Int -> Int -> V) : R2 := fun x y H Q => ∃ i j, x = .int i /\ y = .int j /\ Q (g i j) H
noncomputable def rU (g : Int -> V) : V -> Hp -> VK -> Prop := fun x H Q => ∃ i, x = .int i /\ Q (g i) H
section
variable {X : Cx} {a b c : Expr} {ta tb tc : TE} {pos : Pos}
theorem wi4 (ha : PE X a ta) (hb : PE X b tb) {pins : List (Addr × Obj)} {s : Shared} {σ : St} {H : Hp} {R : V -> V -> Hp -> Prop} (I : Inv X pins σ H s)
    (h : ta σ H fun x H1 => tb σ H1 fun y H2 => R x y H2) {Q : Value -> Shared -> Prop} {f : Value -> Value -> Sem Value}
    (hf : ∀ v u s2 x y H2, Inv X pins σ H2 s2 -> zg4 x v -> zg4 y u -> R x y H2 -> wpAny (model X.prog X.w) X.A (f v u) Q X.xe s2) :
    wpAny (model X.prog X.w) X.A (eval a X.env) (fun v s₁ => wpAny (model X.prog X.w) X.A (eval b X.env) (fun u s₂ => wpAny (model X.prog X.w) X.A (f v u) Q X.xe s₂) X.xe s₁) X.xe s := by
  refine thn (ha pins s σ H _ I h) fun v s1 ⟨x, H1, I1, r1, q1⟩ => ?_
  refine thn (hb pins s1 σ H1 _ I1 q1) fun u s2 ⟨y, H2, I2, r2, q2⟩ => ?_
  exact hf v u s2 x y H2 I2 r1 r2 q2
theorem zn6 {op : Operator} {r : R2} (ho : OpR X (binaryOp op) r) (ha : PE X a ta) (hb : PE X b tb) : PE X (.BinOp a op b pos) (tOp r ta tb) := by
  intro pins s σ H Q I h
  exact wpAny_BinOp (wi4 ha hb I h fun v u s2 x y H2 I2 rx ry q => ho pins s2 σ H2 x y v u Q I2 rx ry q)
theorem wz9 {op : UnaryOp} {r : V -> Hp -> VK -> Prop} (ho : UnR X (unaryOp op) r) (ha : PE X a ta) : PE X (.UnaryOp op a pos) (tUn r ta) := by
  intro pins s σ H Q I h
  exact UnaryOp_ (thn (ha pins s σ H _ I h) fun v s1 ⟨x, H1, I1, r1, q1⟩ => ho pins s1 σ H1 x v Q I1 r1 q1)
theorem opI {f : Value -> Value -> Sem Value} {C : Int -> Int -> Prop} {g : Int -> Int -> Int}
    (rule : ∀ (i j : Int) (t u : Tok) (s : Shared) (Q : Value -> Shared -> Prop) (E : Value -> Shared -> Prop), C i j -> Q (.int (g i j) s.toks) { s with toks := s.toks + 1 } -> wpAny (model X.prog X.w) X.A (f (.int i t) (.int j u)) Q E s) :
    OpR X f (rI C fun i j => .int (g i j)) := by
  intro pins s σ H x y v u Q I rx ry h
  obtain ⟨i, j, rfl, rfl, hc, q⟩ := h
  obtain ⟨t, rfl⟩ := rx
  obtain ⟨t', rfl⟩ := ry
  exact rule i j t t' s _ _ hc ⟨.int (g i j), H, I.tok _, ⟨_, rfl⟩, q⟩
theorem wi5 {f : Value -> Value -> Sem Value} {g : Int -> Int -> Int}
    (rule : ∀ (i j : Int) (t u : Tok) (s : Shared) (Q : Value -> Shared -> Prop) (E : Value -> Shared -> Prop), Q (.int (g i j) s.toks) { s with toks := s.toks + 1 } -> wpAny (model X.prog X.w) X.A (f (.int i t) (.int j u)) Q E s) :
    OpR X f (rI0 fun i j => .int (g i j)) := by
  intro pins s σ H x y v u Q I rx ry h
  obtain ⟨i, j, rfl, rfl, q⟩ := h
  obtain ⟨t, rfl⟩ := rx
  obtain ⟨t', rfl⟩ := ry
  exact rule i j t t' s _ _ ⟨.int (g i j), H, I.tok _, ⟨_, rfl⟩, q⟩
theorem xv1 {f : Value -> Value -> Sem Value} {g : Int -> Int -> Bool}
    (rule : ∀ (i j : Int) (t u : Tok) (s : Shared) (Q : Value -> Shared -> Prop) (E : Value -> Shared -> Prop), Q (.bool (g i j)) s -> wpAny (model X.prog X.w) X.A (f (.int i t) (.int j u)) Q E s) :
    OpR X f (rI0 fun i j => .bl (g i j)) := by
  intro pins s σ H x y v u Q I rx ry h
  obtain ⟨i, j, rfl, rfl, q⟩ := h
  obtain ⟨t, rfl⟩ := rx
  obtain ⟨t', rfl⟩ := ry
  exact rule i j t t' s _ _ ⟨.bl (g i j), H, I, rfl, q⟩
noncomputable def ke3 (i j : Int) : Prop := 0 < j /\ j < 1073741824
noncomputable def wn6 (i j : Int) : Prop := (-(2 ^ 64) < i /\ i < 2 ^ 64) \/ (-(2 ^ 64) < j /\ j < 2 ^ 64)
theorem wn6.ok {i j : Int} (h : wn6 i j) : IntMulOk i j := by
  rcases h with ⟨h1, h2⟩ | ⟨h1, h2⟩
  . exact .of_left (intBits_le_64 h1 h2)
  . exact .of_right (intBits_le_64 h1 h2)
theorem xv2 (k : Nat) : (0 : Int) <= 2 ^ k := by
  rw [two_pow_cast]
  exact Int.natCast_nonneg _
theorem yk9 : OpR X (binaryOp .Add) (rI0 fun i j => .int (i + j)) := wi5 fun _ _ _ _ _ _ _ q => add_int q
theorem wu3 : OpR X (binaryOp .Sub) (rI0 fun i j => .int (i - j)) := wi5 fun _ _ _ _ _ _ _ q => sub_int q
theorem yb0 : OpR X (binaryOp .Mult) (rI wn6 fun i j => .int (i * j)) := opI fun _ _ _ _ _ _ _ hc q => mul_int q hc.ok
theorem xr6 : OpR X (binaryOp .FloorDiv) (rI ke3 fun i j => .int (i / j)) := opI fun i j _ _ _ _ _ hc q => by
  have h1 : (0 : Int) < j := hc.1
  have h2 : j < 1073741824 := hc.2
  exact floordiv_int (by omega) (by rw [Int.fdiv_eq_ediv_of_nonneg i (by omega)]; exact q) (.inl (PyProof.noPylong_small (by omega)))
theorem yy5 : OpR X (binaryOp .Mod) (rI (fun _ j => 0 < j) fun i j => .int (i % j)) := opI fun i j _ _ _ _ _ hc q => by
  have h1 : (0 : Int) < j := hc
  exact mod_int' (by omega) (by rw [Int.fmod_eq_emod_of_nonneg i (by omega)]; exact q)
theorem wu4 : OpR X (binaryOp .RShift) (rI (fun _ j => 0 <= j) fun i j => .int (i / 2 ^ j.toNat)) := opI fun i j _ _ _ _ _ hc q =>
  rshift_int hc (by rw [Int.fdiv_eq_ediv_of_nonneg i (xv2 _)]; exact q)
theorem wb7 : OpR X (binaryOp .BitAnd) (rI0 fun i j => .int (Builtin.bitAnd i j)) := wi5 fun _ _ _ _ _ _ _ q => and_int q
theorem unI {f : Value -> Sem Value} {g : Int -> Int}
    (rule : ∀ (i : Int) (t : Tok) (s : Shared) (Q : Value -> Shared -> Prop) (E : Value -> Shared -> Prop), Q (.int (g i) s.toks) { s with toks := s.toks + 1 } -> wpAny (model X.prog X.w) X.A (f (.int i t)) Q E s) :
    UnR X f (rU fun i => .int (g i)) := by
  intro pins s σ H x v Q I rx h
  obtain ⟨i, rfl, q⟩ := h
  obtain ⟨t, rfl⟩ := rx
  exact rule i t s _ _ ⟨.int (g i), H, I.tok _, ⟨_, rfl⟩, q⟩
theorem wu5 : UnR X (unaryOp .USub) (rU fun i => .int (-i)) := unI fun _ _ _ _ _ q => neg_int q
end
noncomputable def wy7 : V -> V -> Bool
  | .non, .non => true | .non, .int _ => true | .int _, .non => true | .non, .bl _ => true | .bl _, .non => true | .non, .str _ => true | .str _, .non => true
  | .int _, .int _ => true | .bl _, .bl _ => true | .str _, .str _ => true | .byt _, .byt _ => true
  | .int _, .str _ => true | .str _, .int _ => true | .bl _, .str _ => true | .str _, .bl _ => true
  | _, _ => false
noncomputable def rEq : R2 := fun x y H Q => wy7 x y = true /\ Q (.bl (decide (x = y))) H
noncomputable def rNe : R2 := fun x y H Q => wy7 x y = true /\ Q (.bl (!decide (x = y))) H
theorem xr7 {i j : Int} : decide (V.int i = V.int j) = (i == j) := by
  rw [Bool.eq_iff_iff]
  simp
theorem wb8 {i j : Bool} : decide (V.bl i = V.bl j) = (i == j) := by
  rw [Bool.eq_iff_iff]
  simp
theorem xr8 {i j : Str} : decide (V.str i = V.str j) = (i == j) := by
  rw [Bool.eq_iff_iff]
  simp
theorem xr9 {i j : Array UInt8} : decide (V.byt i = V.byt j) = (i.toList == j.toList) := by
  rw [Bool.eq_iff_iff]
  cases i
  cases j
  simp
section
variable {X : Cx} {a b c : Expr} {ta tb tc : TE} {pos : Pos}
theorem zi2 {pins : List (Addr × Obj)} {σ : St} {H : Hp} {s : Shared} {Q : VK} {k k' : Bool} (I : Inv X pins σ H s) (q : Q (.bl k) H) (e : k = k') : EP X pins σ Q (.bool k') s := by
  subst e
  exact ⟨.bl k, H, I, rfl, q⟩
theorem xv3 : OpR X (compareOp .Eq) rEq := by
  intro pins s σ H x y v u Q I rx ry h
  obtain ⟨hs, q⟩ := h
  cases x with
  | non =>
    cases rx
    cases y with
    | non => cases ry; exact PySem.EqNone.eq_none_none (zi2 I q (by simp))
    | bl j => cases ry; exact PySem.EqNone.eq_none_bool (zi2 I q (by simp))
    | int j => obtain ⟨t', rfl⟩ := ry; exact PySem.EqNone.eq_none_int (zi2 I q (by simp))
    | str j => obtain ⟨t', rfl⟩ := ry; exact PySem.EqNone.eq_none_str (zi2 I q (by simp))
    | _ => exact absurd (show false = true from hs) Bool.false_ne_true
  | bl i =>
    cases rx
    cases y with
    | non => cases ry; exact PySem.EqNone.eq_bool_none (zi2 I q (by simp))
    | bl j => cases ry; exact eq_bool (zi2 I q wb8)
    | str j => obtain ⟨t', rfl⟩ := ry; exact PySem.EqMixed.eq_bool_str (zi2 I q (by simp))
    | _ => exact absurd (show false = true from hs) Bool.false_ne_true
  | int i =>
    obtain ⟨t, rfl⟩ := rx
    cases y with
    | non => cases ry; exact PySem.EqNone.eq_int_none (zi2 I q (by simp))
    | int j => obtain ⟨t', rfl⟩ := ry; exact eq_int (zi2 I q xr7)
    | str j => obtain ⟨t', rfl⟩ := ry; exact PySem.EqMixed.eq_int_str (zi2 I q (by simp))
    | _ => exact absurd (show false = true from hs) Bool.false_ne_true
  | str i =>
    obtain ⟨t, rfl⟩ := rx
    cases y with
    | non => cases ry; exact PySem.EqNone.eq_str_none (zi2 I q (by simp))
    | bl j => cases ry; exact PySem.EqMixed.eq_str_bool (zi2 I q (by simp))
    | int j => obtain ⟨t', rfl⟩ := ry; exact PySem.EqMixed.eq_str_int (zi2 I q (by simp))
    | str j => obtain ⟨t', rfl⟩ := ry; exact eq_str (zi2 I q xr8)
    | _ => exact absurd (show false = true from hs) Bool.false_ne_true
  | byt i =>
    obtain ⟨t, rfl⟩ := rx
    cases y with
    | byt j => obtain ⟨t', rfl⟩ := ry; exact PySem.W.eq_bytes (zi2 I q xr9)
    | _ => exact absurd (show false = true from hs) Bool.false_ne_true
  | _ => cases y <;> exact absurd (show false = true from hs) Bool.false_ne_true
theorem wo2 : OpR X (compareOp .NotEq) rNe := by
  intro pins s σ H x y v u Q I rx ry h
  obtain ⟨hs, q⟩ := h
  cases x with
  | non =>
    cases rx
    cases y with
    | non => cases ry; exact PySem.EqNone.ne_none_none (zi2 I q (by simp))
    | bl j => cases ry; exact PySem.EqNone.ne_none_bool (zi2 I q (by simp))
    | int j => obtain ⟨t', rfl⟩ := ry; exact PySem.EqNone.ne_none_int (zi2 I q (by simp))
    | str j => obtain ⟨t', rfl⟩ := ry; exact PySem.EqNone.ne_none_str (zi2 I q (by simp))
    | _ => exact absurd (show false = true from hs) Bool.false_ne_true
  | bl i =>
    cases rx
    cases y with
    | non => cases ry; exact PySem.EqNone.ne_bool_none (zi2 I q (by simp))
    | bl j => cases ry; exact ne_bool (zi2 I q (congrArg not wb8))
    | str j => obtain ⟨t', rfl⟩ := ry; exact PySem.EqMixed.ne_bool_str (zi2 I q (by simp))
    | _ => exact absurd (show false = true from hs) Bool.false_ne_true
  | int i =>
    obtain ⟨t, rfl⟩ := rx
    cases y with
    | non => cases ry; exact PySem.EqNone.ne_int_none (zi2 I q (by simp))
    | int j => obtain ⟨t', rfl⟩ := ry; exact ne_int (zi2 I q (congrArg not xr7))
    | str j => obtain ⟨t', rfl⟩ := ry; exact PySem.EqMixed.ne_int_str (zi2 I q (by simp))
    | _ => exact absurd (show false = true from hs) Bool.false_ne_true
  | str i =>
    obtain ⟨t, rfl⟩ := rx
    cases y with
    | non => cases ry; exact PySem.EqNone.ne_str_none (zi2 I q (by simp))
    | bl j => cases ry; exact PySem.EqMixed.ne_str_bool (zi2 I q (by simp))
    | int j => obtain ⟨t', rfl⟩ := ry; exact PySem.EqMixed.ne_str_int (zi2 I q (by simp))
    | str j => obtain ⟨t', rfl⟩ := ry; exact ne_str (zi2 I q (congrArg not xr8))
    | _ => exact absurd (show false = true from hs) Bool.false_ne_true
  | byt i =>
    obtain ⟨t, rfl⟩ := rx
    cases y with
    | byt j => obtain ⟨t', rfl⟩ := ry; exact PySem.W.ne_bytes (zi2 I q (congrArg not xr9))
    | _ => exact absurd (show false = true from hs) Bool.false_ne_true
  | _ => cases y <;> exact absurd (show false = true from hs) Bool.false_ne_true
theorem ka0 : OpR X (compareOp .Lt) (rI0 fun i j => .bl (decide (i < j))) := xv1 fun _ _ _ _ _ _ _ q => lt_int q
theorem ka1 : OpR X (compareOp .LtE) (rI0 fun i j => .bl (decide (i <= j))) := xv1 fun _ _ _ _ _ _ _ q => le_int q
theorem ka2 : OpR X (compareOp .Gt) (rI0 fun i j => .bl (decide (j < i))) := xv1 fun _ _ _ _ _ _ _ q => gt_int q
theorem ka3 : OpR X (compareOp .GtE) (rI0 fun i j => .bl (decide (j <= i))) := xv1 fun _ _ _ _ _ _ _ q => ge_int q
theorem wu6 : OpR X (compareOp .Is) (fun x y H Q => y = .non /\ Q (.bl (decide (x = .non))) H) := by
  intro pins s σ H x y v u Q I rx ry h
  obtain ⟨rfl, q⟩ := h
  cases ry
  refine is_none_gen (zi2 I q ?_)
  cases x <;> first
    | (cases rx; rfl)
    | (obtain ⟨t, rfl⟩ := rx; rfl)
theorem OpR.or {f : Value -> Value -> Sem Value} {r r' : R2} (h : OpR X f r) (h' : OpR X f r') : OpR X f (fun x y H Q => r x y H Q \/ r' x y H Q) := by
  intro pins s σ H x y v u Q I rx ry q
  rcases q with q | q
  . exact h pins s σ H x y v u Q I rx ry q
  . exact h' pins s σ H x y v u Q I rx ry q
theorem ze9 (b : Expr) {op : CmpOp} (h : op ≠ .In := by decide) (h2 : op ≠ .NotIn := by decide) : behindInMarks op b = false := by
  have e1 : (op == CmpOp.In) = false := by cases op <;> first | rfl | exact absurd rfl h
  have e2 : (op == CmpOp.NotIn) = false := by cases op <;> first | rfl | exact absurd rfl h2
  cases b <;> simp [behindInMarks, e1, e2]
theorem xs0 {op : CmpOp} {r : R2} (ho : OpR X (compareOp op) r) (ha : PE X a ta) (hb : PE X b tb) (hm : behindInMarks op b = false) : PE X (.Compare a [op] [b] pos) (tOp r ta tb) := by
  intro pins s σ H Q I h
  exact wpAny_Compare1 (wi4 ha hb I h fun v u s2 x y H2 I2 rx ry q => ho pins s2 σ H2 x y v u Q I2 rx ry q) hm
noncomputable def kb6 (t : TE) : TT := fun σ H Q => t σ H fun x H' => ∃ k, x = .bl k /\ Q k H'
theorem xs1 {op : CmpOp} {r : R2} (ho : OpR X (compareOp op) r) (ha : PE X a ta) (hb : PE X b tb) (hm : behindInMarks op b = false) : PT X (.Compare a [op] [b] pos) (kb6 (tOp r ta tb)) := by
  intro pins s σ H Q I h
  refine wpAny_isTrue_Compare1 (thn (ha pins s σ H _ I h) fun v s1 ⟨x, H1, I1, r1, q1⟩ => thn (hb pins s1 σ H1 _ I1 q1) fun u s2 ⟨y, H2, I2, r2, q2⟩ =>
    thn (ho pins s2 σ H2 x y v u _ I2 r1 r2 q2) fun c s3 ⟨z, H3, I3, r3, k, e, q3⟩ => ?_) hm
  subst e
  cases r3
  exact wpAny_truthy_bool ⟨H3, I3, q3⟩
noncomputable def wn7 (K : PySem.W.Frag) (x : V) (H : Hp) (k : Bool) : Prop :=
  match x with
  | .non => k = false
  | .bl b => k = b
  | .int i => k = (i != 0)
  | .str y => y.length <= sizeLine /\ k = ((y.length : Int) != 0)
  | .byt y => y.size <= sizeLine /\ k = ((y.size : Int) != 0)
  | .ref p => (∃ xs, SqL K H p xs /\ k = !xs.isEmpty) \/ (∃ xs, SqT K H p xs /\ k = !xs.isEmpty) \/ ∃ kvs, H p = some (.dK kvs) /\ k = !kvs.isEmpty
  | _ => False
theorem xv4 {κ : Type} {kvs : List (κ × V)} {vs : List (κ × Value)} (r : KV kvs vs) : (!vs.isEmpty) = !kvs.isEmpty := by
  cases r <;> rfl
theorem yy6 {xs : List V} {its : List Value} (r : zd5 xs its) : (!its.toArray.isEmpty) = !xs.isEmpty := by
  cases r <;> simp
theorem yh0 : (sizeLine : Nat) < 2 ^ 63 := by rw [sizeLine_eq]; decide
theorem wu7 : ke2 X (fun x H Q => ∃ k, wn7 X.K x H k /\ Q k H) := by
  intro pins s σ H x v Q I rx h
  obtain ⟨k, e, q⟩ := h
  have hl := yh0
  have hs : sizeLine = 16777216 := sizeLine_eq
  cases x with
  | non =>
    cases rx
    have e' : k = false := e
    subst e'
    exact truthy_none ⟨H, I, q⟩
  | bl b =>
    cases rx
    have e' : k = b := e
    subst e'
    exact wpAny_truthy_bool ⟨H, I, q⟩
  | int i =>
    obtain ⟨t, rfl⟩ := rx
    have e' : k = (i != 0) := e
    subst e'
    exact PySem.P.truthy_int ⟨H, I, q⟩
  | str y =>
    obtain ⟨t, rfl⟩ := rx
    obtain ⟨hy, e'⟩ : y.length <= sizeLine /\ k = ((y.length : Int) != 0) := e
    subst e'
    exact PySem.P.truthy_str (by omega) ⟨H, I.tok _, q⟩
  | byt y =>
    obtain ⟨t, rfl⟩ := rx
    obtain ⟨hy, e'⟩ : y.size <= sizeLine /\ k = ((y.size : Int) != 0) := e
    subst e'
    exact PySem.W.truthy_bytes (by omega) ⟨H, I.tok _, q⟩
  | ref p =>
    cases rx
    have e' : (∃ xs, SqL X.K H p xs /\ k = !xs.isEmpty) \/ (∃ xs, SqT X.K H p xs /\ k = !xs.isEmpty) \/ ∃ kvs, H p = some (.dK kvs) /\ k = !kvs.isEmpty := e
    rcases e' with ⟨xs, hx, e'⟩ | ⟨xs, hx, e'⟩ | ⟨kvs, hx, e'⟩
    . subst e'
      obtain ⟨its, r, pl, hz⟩ := I.list hx
      have hlen := r.length
      exact wpAny_truthy_list pl.isList (by simp only [List.size_toArray]; omega) ⟨H, I.tok _, by rw [yy6 r]; exact q⟩
    . subst e'
      obtain ⟨its, r, pl, hz⟩ := I.tuple hx
      have hlen := r.length
      exact truthy_tuple pl (by simp only [List.size_toArray]; omega) ⟨H, I.tok _, by rw [yy6 r]; exact q⟩
    . subst e'
      obtain ⟨hz, hS, vs, r, m⟩ : kvs.length <= sizeLine /\ (p == sysModules) = false /\ ∃ vs, KV kvs vs /\ s.heap.DictOf (xg0 X.prog X.w) p vs := I.hok p _ hx
      have hlen : kvs.length = vs.length := Paired.length r
      exact wpAny_truthy_dict hS m (by omega) ⟨H, I.tok _, by rw [xv4 r]; exact q⟩
  | _ => exact (show False from e).elim
theorem xl3 (ha : PE X a ta) (he : ∀ whole, isTrue a X.env whole = (do let v <- whole; standAt a.pos; holding [v] (truthy v))) :
    PT X a (fun σ H Q => ta σ H fun x H' => ∃ k, wn7 X.K x H' k /\ Q k H') := by
  intro pins s σ H Q I h
  exact isTrue_plain (thn (ha pins s σ H _ I h) fun v s1 ⟨x, H1, I1, r1, q1⟩ => wu7 pins s1 σ H1 x v Q I1 r1 q1) (he _)
theorem xv5 : OpR X (binaryOp .Add) (fun x y H Q => ∃ i j, x = .str i /\ y = .str j /\ i.length + j.length <= sizeLine /\ Q (.str (i ++ j)) H) := by
  intro pins s σ H x y v u Q I rx ry h
  obtain ⟨i, j, rfl, rfl, hz, q⟩ := h
  obtain ⟨t, rfl⟩ := rx
  obtain ⟨t', rfl⟩ := ry
  exact add_str (fun t' tk => ⟨.str (i ++ j), H, I.tok _, ⟨_, rfl⟩, q⟩) hz
theorem ye1 {x : V} {us : List Value} (r : zd5 [x] us) : ∃ u, us = [u] /\ zg4 x u := by
  cases r with
  | cons r1 r2 => cases r2; exact ⟨_, rfl, r1⟩
theorem xv6 {x y : V} {us : List Value} (r : zd5 [x, y] us) : ∃ u w', us = [u, w'] /\ zg4 x u /\ zg4 y w' := by
  cases r with
  | cons r1 r2 =>
    cases r2 with
    | cons r3 r4 => cases r4; exact ⟨_, _, rfl, r1, r3⟩
theorem wb9 (hc : X.calm = true) : zk7 X (.builtin "max") (fun xs H Q => ∃ i j, xs = [.int i, .int j] /\ Q (.int (if j > i then j else i)) H) := by
  intro pins s σ H xs us Q I r h
  obtain ⟨i, j, rfl, q⟩ := h
  obtain ⟨u, w', rfl, ⟨t, rfl⟩, ⟨t', rfl⟩⟩ := xv6 r
  refine max_two_ints (I.ok.hd hc) fun h' tk k => ⟨_, H, I.kept k, ?_, q⟩
  by_cases hj : j > i
  . rw [if_pos hj, if_pos hj]; exact ⟨_, rfl⟩
  . rw [if_neg hj, if_neg hj]; exact ⟨_, rfl⟩
theorem xg3 : zk7 X (.type "int") (fun xs H Q => (∃ i, xs = [.int i] /\ Q (.int i) H) \/ ∃ k, xs = [.bl k] /\ Q (.int (if k then 1 else 0)) H) := by
  intro pins s σ H xs us Q I r h
  rcases h with ⟨i, rfl, q⟩ | ⟨k, rfl, q⟩
  . obtain ⟨u, rfl, t, rfl⟩ := ye1 r
    exact call_int_int ⟨.int i, H, I, ⟨_, rfl⟩, q⟩
  . obtain ⟨u, rfl, r1⟩ := ye1 r
    cases r1
    exact call_int_bool ⟨.int (if k then 1 else 0), H, I.tok _, ⟨_, rfl⟩, q⟩
end
end L2
namespace L2
open PySem PySem.Spec PyProof.Rows
structure ObjM (h : Heap) (x dx C : Addr) (mA : Str -> Option Value) : Prop where
  obj : h.get? x = some (PySem.W.instObj C dx)
  ns : h.Ns1 dx mA
  ne : dx ≠ x
theorem wc0 {h : Heap} {dx : Addr} {mA : Str -> Option Value} (n : h.Ns1 dx mA) : ∃ od, h.get? dx = some od /\ ∀ name, PySem.W.lookIn name od = some (mA name) := by
  obtain ⟨o, es, ep, ho, hd, hk, _, hm⟩ := n
  refine ⟨o, ho, fun name => ?_⟩
  have e := hm name
  unfold nsFind findBy at e
  rw [<- Array.find?_toList] at e
  unfold PySem.W.lookIn
  rw [hd]
  dsimp only
  split
  . rename_i y q
    rw [q] at e
    exact congrArg some e
  . rename_i q
    rw [q] at e
    have a : es.toList.any (·.refKey) = false := by
      rw [List.any_eq_false]
      intro y hy
      obtain ⟨z, t, hkey⟩ := hk y (Array.mem_toList_iff.mp hy)
      simp [DictEntry.refKey, hkey]
    have a' : ¬ es.toList.any (·.refKey) = true := by rw [a]; exact Bool.false_ne_true
    rw [if_neg a']
    exact congrArg some e
theorem ObjM.look {h : Heap} {x dx C : Addr} {mA : Str -> Option Value} (I : ObjM h x dx C mA) : ∃ od, PySem.W.InstAt h x (PySem.W.instObj C dx) C (some od) /\ ∀ name, PySem.W.lookIn name od = some (mA name) :=
  let ⟨od, ho, hl⟩ := wc0 I.ns
  ⟨od, ⟨I.obj, rfl, rfl, ho⟩, hl⟩
section
variable {prog : Program} {w : World} {A : Around} {E : Value -> Shared -> Prop} {s : Shared} {K : PySem.W.Frag} {x dx C f : Addr} {mA : Str -> Option Value} {name : Str} {v : Value}
theorem xs2 {expr : Bool} {Q : Value -> Shared -> Prop} (X : K.In s.heap) (I : ObjM s.heap x dx C mA) (hg : PySem.W.plainGet K C name = true) (hh : PySem.W.hasDictIn K C = true)
    (ha : PySem.W.findIn K (.ref C) name = some none) (hv : mA name = some v) (hv' : PySem.W.handedIn v = true) (h : Q v { s with toks := s.toks + 1 }) :
    wpAny (model prog w) A (getAttr (.ref x) name expr) Q E s := by
  obtain ⟨od, J, hl⟩ := I.look
  exact PySem.W.get_value X J (PySem.W.plainGet_of hg).1 (PySem.W.findObj_own hh ha rfl (by rw [hl, hv])) hv' h
theorem wi6 {pl : Sem Bool} {Q : Value × List Value -> Shared -> Prop} (X : K.In s.heap) (I : ObjM s.heap x dx C mA) (hg : PySem.W.plainGet K C name = true)
    (hf : PySem.W.findIn K (.ref C) name = some (some (.ref f))) (ht : PySem.W.isFn K (.ref f) = true) (hv : mA name = none) (h : Q (.ref f, [.ref x]) s) :
    wpAny (model prog w) A (getMethod (.ref x) name pl) Q E s := by
  obtain ⟨od, J, hl⟩ := I.look
  exact PySem.W.method_fn X J (PySem.W.plainGet_of hg).1 (PySem.W.plainGet_of hg).2 hf (beq_iff_eq.mp ht) (by show (PySem.W.lookIn name od).map (·.isSome) = some false; rw [hl, hv]; rfl) h
theorem wp9 {ns : List Str} {Q : Unit -> Shared -> Prop} (X : K.In s.heap) (I : ObjM s.heap x dx C mA)
    (hs : PySem.W.findIn K (.ref C) "__setattr__" = some (some (.builtin "object.__setattr__"))) (hp : PySem.W.plainOver K C = true) (ht : PySem.W.takerIn K C name = some none) (hh : PySem.W.hasDictIn K C = true)
    (hw : PySem.Within mA ns) (hsz : ns.length <= sizeLine)
    (h : ∀ h', ObjM h' x dx C (fun y => if y = name then some v else mA y) -> Heap.SameBut dx s.heap h' -> Q () { s with heap := h', toks := s.toks + 2 }) :
    wpAny (model prog w) A (setAttr (.ref x) name v) Q E s := by
  obtain ⟨od, J, hl⟩ := I.look
  refine PySem.W.set_plain X J hs (PySem.W.osa_open (s := { s with toks := s.toks + 1 }) (r := none) X J hp ht fun b => ?_)
  obtain ⟨cd, hc, hd'⟩ := PySem.W.any_some hh
  have hx : s.heap.get? x = some ⟨.ref C, some dx, .plain, #[]⟩ := I.obj
  refine wpAny_bind (wpAny_pure (wpAny_bind (wpAny_bind (wpAny_loadPart hx (wpAny_bind (PySem.W.Looks.here (s := { s with toks := s.toks + 1 }) (PySem.W.looks_clsIn X hc) ?_))))))
  rw [hd']
  refine wpAny_pure (a := some dx) (wpAny_bind (wpAny_pure (wpAny_bind ?_)))
  refine wpAny_nsSet1 (s := { s with toks := s.toks + 1 }) I.ns fun h' hn2 hs2 => ?_
  obtain ⟨oD, esD, epD, hoD, hdD, hcD⟩ := hn2.count (PySem.Within.cons name v hw)
  refine wpAny_bind (wpAny_lookBehind hoD (by rw [hdD]; exact pastItsLine_dict (Nat.le_trans hcD (by rw [List.length_cons]; omega))) ?_)
  exact wpAny_pure (h _ ⟨(hs2.2 _ (Ne.symm I.ne)).trans I.obj, hn2, I.ne⟩ hs2)
theorem wi7 {R : Result -> Shared -> Prop} {vs : List Value} {kw : List (Str × Value)} (X : K.In s.heap) (hm : PySem.W.makesIn K C = true)
    (hi : PySem.W.findIn K (.ref C) "__init__" = some (some (.ref f))) (hf : PySem.W.typeIn K (.ref f) = some (.type "function"))
    (h : codeAny (model prog w) (A.under (.builtin "type.__call__" ⟨.ref C :: vs, kw⟩)) (.call (.ref f) ⟨.ref (s.heap.objs.size + 1) :: vs, kw⟩) (PySem.W.InitBack (s.heap.objs.size + 1) R)
      { s with heap := (s.heap.push PySem.W.emptyDict).push (PySem.W.instObj C s.heap.objs.size) }) :
    codeAny (model prog w) A (.call (.ref C) ⟨vs, kw⟩) R s := by
  obtain ⟨hh, g, d, t, os⟩ := s
  exact PySem.W.make_core (PySem.W.makes_of X hm) (PySem.W.looks_findIn X hi) (fun self => PySem.W.bind_fn X self hf) (.inl rfl) h
end
noncomputable def zp2 (f : Str) (v : V) : List (Str × V) -> List (Str × V)
  | [] => [(f, v)]
  | (g, x) :: r => if g = f then (g, v) :: r else (g, x) :: zp2 f v r
theorem yv9 (f g : Str) (v : V) : ∀ fs : List (Str × V), (zp2 f v fs).lookup g = if g = f then some v else fs.lookup g
  | [] => by
    show List.lookup g [(f, v)] = _
    by_cases h : g = f
    . have hb : (g == f) = true := beq_iff_eq.mpr h
      simp only [List.lookup, hb, if_pos h]
    . have hb : (g == f) = false := beq_eq_false_iff_ne.mpr h
      simp only [List.lookup, hb, if_neg h]
  | (k, x) :: r => by
    have ih := yv9 f g v r
    rw [show zp2 f v ((k, x) :: r) = (if k = f then (k, v) :: r else (k, x) :: zp2 f v r) from rfl]
    by_cases hk : k = f
    . rw [if_pos hk]
      by_cases h : g = k
      . have hb : (g == k) = true := beq_iff_eq.mpr h
        simp only [List.lookup, hb, if_pos (h.trans hk)]
      . have hb : (g == k) = false := beq_eq_false_iff_ne.mpr h
        simp only [List.lookup, hb, if_neg (fun e : g = f => h (e.trans hk.symm))]
    . rw [if_neg hk]
      by_cases h : g = k
      . have hb : (g == k) = true := beq_iff_eq.mpr h
        simp only [List.lookup, hb, if_neg (fun e : g = f => hk (h.symm.trans e))]
      . have hb : (g == k) = false := beq_eq_false_iff_ne.mpr h
        simp only [List.lookup, hb]
        exact ih
theorem yq6 (f : Str) (v : V) : ∀ fs : List (Str × V), f ∈ (zp2 f v fs).map (·.1) /\ ∀ g, g ∈ fs.map (·.1) -> g ∈ (zp2 f v fs).map (·.1)
  | [] => ⟨by simp [zp2], fun g h => by simp at h⟩
  | (k, x) :: r => by
    obtain ⟨i1, i2⟩ := yq6 f v r
    rw [show zp2 f v ((k, x) :: r) = (if k = f then (k, v) :: r else (k, x) :: zp2 f v r) from rfl]
    by_cases hk : k = f
    . rw [if_pos hk]
      subst hk
      exact ⟨by simp, fun g h => by simpa using h⟩
    . rw [if_neg hk]
      refine ⟨?_, fun g h => ?_⟩
      . rw [List.map_cons]
        exact List.mem_cons_of_mem _ i1
      . rw [List.map_cons] at h |-
        rcases List.mem_cons.mp h with e | e
        . exact List.mem_cons.mpr (.inl e)
        . exact List.mem_cons_of_mem _ (i2 g e)
theorem yw0 (f : Str) (v : V) : ∀ fs : List (Str × V), (zp2 f v fs).length <= fs.length + 1
  | [] => by simp [zp2]
  | (k, x) :: r => by
    have ih := yw0 f v r
    rw [show zp2 f v ((k, x) :: r) = (if k = f then (k, v) :: r else (k, x) :: zp2 f v r) from rfl]
    by_cases hk : k = f
    . rw [if_pos hk, List.length_cons, List.length_cons]; omega
    . rw [if_neg hk, List.length_cons, List.length_cons]; omega
theorem zv8.some_of {v : V} {o : Option Value} (r : zv8 (some v) o) : ∃ u, o = some u /\ zg4 v u := by
  cases o with
  | none => exact (show False from r).elim
  | some u => exact ⟨u, rfl, r⟩
theorem zv8.none_of {o : Option Value} (r : zv8 none o) : o = none := by
  cases o with
  | none => rfl
  | some u => exact (show False from r).elim
theorem xg4 {v : V} {u : Value} (r : zg4 v u) : PySem.W.handedIn u = true := by
  cases v with
  | non => cases (show u = Value.none from r); rfl
  | bl b => cases (show u = Value.bool b from r); rfl
  | int i => obtain ⟨t, e⟩ := (show ∃ t, u = Value.int i t from r); cases e; rfl
  | str x => obtain ⟨t, e⟩ := (show ∃ t, u = Value.str x t from r); cases e; rfl
  | byt b => obtain ⟨t, e⟩ := (show ∃ t, u = Value.bytes b t from r); cases e; rfl
  | flt b => obtain ⟨t, e⟩ := (show ∃ t, u = Value.float b t from r); cases e; rfl
  | ref a => cases (show u = Value.ref a from r); rfl
  | ty n => cases (show u = Value.type n from r); rfl
section
variable {P : Program} {w : World} {H H' : Hp} {h h' : Heap} {a C dx : Addr} {fs fs' : List (Str × V)}
theorem yt4 (hok : HOk P w H h) (e : H a = some (.ins C dx fs)) : ∃ mA, ObjM h a dx C mA /\ (∀ f, zv8 (fs.lookup f) (mA f)) /\ PySem.Within mA (fs.map (·.1)) /\ fs.length <= 1000 /\ H dx = some (.own a) := by
  obtain ⟨d, z, ne, ob, mA, n, r, q⟩ := (show zm8 P w H h a (.ins C dx fs) from hok a _ e)
  exact ⟨mA, ⟨ob, n, ne⟩, r, q, z, d⟩
end
structure Cls (K : PySem.W.Frag) (C : Addr) : Prop where
  pg : PySem.W.plainGet K C Str.empty = true
  hd : PySem.W.hasDictIn K C = true
  po : PySem.W.plainOver K C = true
  sa : PySem.W.findIn K (.ref C) "__setattr__" = some (some (.builtin "object.__setattr__"))
theorem Cls.get {K : PySem.W.Frag} {C : Addr} (c : Cls K C) (f : Str) : PySem.W.plainGet K C f = true := c.pg
noncomputable def zg9 (K : PySem.W.Frag) (C : Addr) (f : Str) : Prop := PySem.W.findIn K (.ref C) f = some none
theorem zg9.taker {K : PySem.W.Frag} {C : Addr} {f : Str} (n : zg9 K C f) : PySem.W.takerIn K C f = some none := by
  unfold PySem.W.takerIn
  rw [show PySem.W.findIn K (.ref C) f = some none from n]
  rfl
structure Con (K : PySem.W.Frag) (C : Addr) (f : Str) (v : V) (u : Value) : Prop where
  at_ : PySem.W.findIn K (.ref C) f = some (some u)
  rel : zg4 v u
  get : PySem.W.specialIn K u "__get__" = some none
  cp : PySem.W.copiedNames.contains f = false
structure Meth (K : PySem.W.Frag) (C : Addr) (m : Str) (f : Addr) : Prop where
  at_ : PySem.W.findIn K (.ref C) m = some (some (.ref f))
  fn : PySem.W.isFn K (.ref f) = true
  kp : PySem.W.keepIn K (.ref f) = true
section
variable {X : Cx} {pins : List (Addr × Obj)} {σ : St} {H : Hp} {s : Shared} {a C dx : Addr} {fs : List (Str × V)} {f : Str} {v : V} {A : Around} {E : Value -> Shared -> Prop}
theorem xv7 {b : Bool} {Q : Value -> Shared -> Prop} (I : Inv X pins σ H s) (e : H a = some (.ins C dx fs)) (c : Cls X.K C) (n : zg9 X.K C f) (l : fs.lookup f = some v)
    (h : ∀ u s', Inv X pins σ H s' -> zg4 v u -> Q u s') : wpAny (model X.prog X.w) A (getAttr (.ref a) f b) Q E s := by
  obtain ⟨mA, O, r, _, _, _⟩ := yt4 I.hok e
  obtain ⟨u, hu, ru⟩ := zv8.some_of (v := v) (o := mA f) (by rw [<- l]; exact r f)
  exact xs2 I.kIn O (c.get f) c.hd n hu (xg4 ru) (h u _ (I.tok _) ru)
theorem yy7 {m : Str} {g : Addr} {pl : Sem Bool} {Q : Value × List Value -> Shared -> Prop} (I : Inv X pins σ H s) (e : H a = some (.ins C dx fs)) (c : Cls X.K C) (k : Meth X.K C m g) (l : fs.lookup m = none)
    (h : Q (.ref g, [.ref a]) s) : wpAny (model X.prog X.w) A (getMethod (.ref a) m pl) Q E s := by
  obtain ⟨mA, O, r, _, _, _⟩ := yt4 I.hok e
  have hn : mA m = none := zv8.none_of (by rw [<- l]; exact r m)
  exact wi6 I.kIn O (c.get m) k.at_ k.fn hn h
theorem xv8 {y : V} {u : Value} {Q : Unit -> Shared -> Prop} (I : Inv X pins σ H s) (e : H a = some (.ins C dx fs)) (c : Cls X.K C) (n : zg9 X.K C f) (hl : fs.length < 1000) (ry : zg4 y u)
    (h : ∀ s', Inv X pins σ (upd H a (.ins C dx (zp2 f y fs))) s' -> Q () s') : wpAny (model X.prog X.w) A (setAttr (.ref a) f u) Q E s := by
  obtain ⟨mA, O, r, wi, _, ho⟩ := yt4 I.hok e
  have hz : (fs.map (·.1)).length <= sizeLine := by rw [List.length_map, sizeLine_eq]; omega
  refine wp9 I.kIn O c.sa c.po n.taker c.hd wi hz fun h' O' sb => h _ ?_
  have hd : ∃ o, h'.get? dx = some o := let ⟨o, _, _, e', _⟩ := O'.ns; ⟨o, e'⟩
  refine I.write (x := a) (e := dx) (by rw [e]; exact True.intro) (.inr ho) (fun b q hb z => (sb.2 b hb).trans z) hd ?_
  refine ⟨by rw [zg3 O.ne]; exact ho, ?_, O.ne, O'.obj, _, O'.ns, fun g => ?_, fun g hg => ?_⟩
  . have := yw0 f y fs; omega
  . show zv8 ((zp2 f y fs).lookup g) (if g = f then some u else mA g)
    rw [yv9]
    by_cases q : g = f
    . rw [if_pos q, if_pos q]; exact ry
    . rw [if_neg q, if_neg q]; exact r g
  . by_cases q : g = f
    . rw [q]; exact (yq6 f y fs).1
    . refine (yq6 f y fs).2 g (wi g fun z => hg ?_)
      show (if g = f then some u else mA g) = none
      rw [if_neg q]; exact z
theorem Inv.made (I : Inv X pins σ H s) : Inv X pins σ (upd (upd H s.heap.objs.size (.own (s.heap.objs.size + 1))) (s.heap.objs.size + 1) (.ins C s.heap.objs.size []))
    { s with heap := (s.heap.push PySem.W.emptyDict).push (PySem.W.instObj C s.heap.objs.size) } := by
  have e1 : (s.heap.push PySem.W.emptyDict).get? s.heap.objs.size = some PySem.W.emptyDict := Heap.get?_push_size s.heap rfl
  have e2 : ((s.heap.push PySem.W.emptyDict).push (PySem.W.instObj C s.heap.objs.size)).get? (s.heap.objs.size + 1) = some (PySem.W.instObj C s.heap.objs.size) := by
    have := Heap.get?_push_size (s.heap.push PySem.W.emptyDict) (o := PySem.W.instObj C s.heap.objs.size) rfl
    rwa [Heap.size_push] at this
  have e3 : (s.heap.push PySem.W.emptyDict).Ns s.heap.objs.size (fun _ => none) := ⟨PySem.W.emptyDict, #[], _, e1, rfl, (fun e he => absurd he (by simp)), fun _ => rfl⟩
  have I1 := I.laid (a := s.heap.objs.size) (o := .own (s.heap.objs.size + 1)) (h' := s.heap.push PySem.W.emptyDict) (t' := s.toks) (fun b u q => Heap.get?_push_of_some _ q) (Nat.le_refl _) ⟨_, e1⟩
  refine I1.laid (a := s.heap.objs.size + 1) (o := .ins C s.heap.objs.size []) (t' := s.toks) (fun b u q => Heap.get?_push_of_some _ q) (Nat.le_of_eq (Heap.size_push _ _)) ?_
  have ne : s.heap.objs.size ≠ s.heap.objs.size + 1 := Nat.ne_of_lt (Nat.lt_succ_self _)
  refine ⟨by rw [zg3 ne, zi9], Nat.zero_le _, ne, e2, fun _ => none, (Heap.Ns1.of_empty e3).at fun o q => Heap.get?_push_of_some _ q, fun _ => True.intro, fun y hy => absurd rfl hy⟩
theorem xs3 {prog : Program} {w : World} {env : Env} {e : Expr} {f : Str} {pos : Pos} {s : Shared} {Q : Value -> Shared -> Prop} (hb : attributeBase e f env (eval e env) = eval e env)
    (h : wpAny (model prog w) A (eval e env) (fun o s₁ => wpAny (model prog w) A (getAttr o f true) Q E s₁) E s) : wpAny (model prog w) A (eval (.Attribute e f pos) env) Q E s :=
  Attribute_any_ h (by rw [arm_eval_Attribute, hb])
end
noncomputable def ke4 (K : PySem.W.Frag) (ta : TE) (f : Str) : TE := fun σ H Q => ta σ H fun x H1 => ∃ a C dx fs v, x = .ref a /\ H1 a = some (.ins C dx fs) /\ Cls K C /\ zg9 K C f /\ fs.lookup f = some v /\ Q v H1
noncomputable def ke5 (K : PySem.W.Frag) (ta tv : TE) (f : Str) : TS := fun D σ H => tv σ H fun y H1 => ta σ H1 fun x H2 => ∃ a C dx fs, x = .ref a /\ H2 a = some (.ins C dx fs) /\ Cls K C /\ zg9 K C f /\ fs.length < 1000 /\
  D.nx σ (upd H2 a (.ins C dx (zp2 f y fs)))
section
variable {X : Cx} {o e value : Expr} {f : Str} {pos pos' tpos : Pos} {ta tv : TE}
theorem wu8 (he : PE X e ta) (hb : attributeBase e f X.env (eval e X.env) = eval e X.env) : PE X (.Attribute e f pos) (ke4 X.K ta f) := by
  intro pins s σ H Q I h
  refine xs3 hb (thn (he pins s σ H _ I h) fun u s1 ⟨x, H1, I1, rx, a, C, dx, fs, v, ex, ea, c, n, l, q⟩ => ?_)
  subst ex
  obtain rfl : u = Value.ref a := rx
  exact xv7 I1 ea c n l fun u' s2 I2 ru => ⟨v, H1, I2, ru, q⟩
theorem wu9 (ha : PE X o ta) (hv : PE X value tv) (hs : swapsWith value (some (.Attribute o f pos')) pos.line X.env = pure false) : PS X (.Assign [.Attribute o f pos'] value pos) (ke5 X.K ta tv f) := by
  intro pins s σ H D I h
  refine plainObj_wpAny_Assign_Attribute (thn (hv pins s σ H _ I h) fun u s1 ⟨y, H1, I1, ry, q⟩ => thn (ha pins s1 σ H1 _ I1 q) fun ov s2 ⟨x, H2, I2, rx, a, C, dx, fs, ex, ea, c, n, l, q2⟩ => ?_) hs
  subst ex
  obtain rfl : ov = Value.ref a := rx
  exact xv8 I2 ea c n l ry fun s3 I3 => ⟨σ, _, I3, q2⟩
end
section
variable {X : Cx} {pins : List (Addr × Obj)} {σ : St} {H : Hp} {s : Shared} {A : Around} {E : Value -> Shared -> Prop} {Q : Value -> Shared -> Prop} {c : Value} {b : Bool}
inductive TyOf (K : PySem.W.Frag) (H : Hp) : V -> Value -> Prop where
  | non : TyOf K H .non (.type "NoneType")
  | bl (x : Bool) : TyOf K H (.bl x) (.type "bool")
  | int (i : Int) : TyOf K H (.int i) (.type "int")
  | str (x : Str) : TyOf K H (.str x) (.type "str")
  | flt (x : UInt64) : TyOf K H (.flt x) (.type "float")
  | lst {a : Addr} {xs : List V} (e : H a = some (.lst xs)) : TyOf K H (.ref a) (.type "list")
  | frz {a : Addr} {o : Obj} {xs : List V} (e : H a = some (.frz o (.lst xs))) : TyOf K H (.ref a) (.type "list")
  | tup {a : Addr} {xs : List V} (e : H a = some (.tup xs)) : TyOf K H (.ref a) (.type "tuple")
  | dK {a : Addr} {kvs : List (Key × V)} (e : H a = some (.dK kvs)) : TyOf K H (.ref a) (.type "dict")
  | dT {a : Addr} {kvs : List (List Key × V)} (e : H a = some (.dT kvs)) : TyOf K H (.ref a) (.type "dict")
  | ins {a C dx : Addr} {fs : List (Str × V)} (e : H a = some (.ins C dx fs)) (cl : Cls K C) (ha : PySem.W.findIn K (.ref C) "__class__" = some (some (.builtin "object.__class__")))
      (hn : PySem.W.specialIn K (.builtin "object.__class__") "__get__" = some (some (.builtin "getset_descriptor.__get__"))) (htk : PySem.W.takesIn K (.builtin "object.__class__") = some true)
      (hm : PySem.W.mroIn K C (.type "object") = some true) : TyOf K H (.ref a) (.ref C)
theorem wc1 {x : V} {u t : Value} (I : Inv X pins σ H s) (rx : zg4 x u) (ty : TyOf X.K H x t) (e : PySem.W.kitOne X.K t c = some b) (h : ∀ tk, Q (.bool b) { s with toks := tk }) :
    wpAny (model X.prog X.w) A (call (.builtin "isinstance") [u, c]) Q E s := by
  cases ty with
  | non => cases (show u = Value.none from rx); exact PySem.W.kia_one PySem.W.kitx_none I.kIn True.intro e (fun z => nomatch z) h
  | bl y => cases (show u = Value.bool y from rx); exact PySem.W.kia_one PySem.W.kitx_bool I.kIn True.intro e (fun z => nomatch z) h
  | int i => obtain ⟨t, q⟩ := (show ∃ t, u = Value.int i t from rx); cases q; exact PySem.W.kia_one PySem.W.kitx_int I.kIn True.intro e (fun z => nomatch z) h
  | str y => obtain ⟨t, q⟩ := (show ∃ t, u = Value.str y t from rx); cases q; exact PySem.W.kia_one PySem.W.kitx_str I.kIn True.intro e (fun z => nomatch z) h
  | flt y => obtain ⟨t, q⟩ := (show ∃ t, u = Value.float y t from rx); cases q; exact PySem.W.kia_one PySem.W.kitx_float I.kIn True.intro e (fun z => nomatch z) h
  | @lst a xs ea =>
    cases (show u = Value.ref a from rx)
    obtain ⟨_, _, n, _, h1⟩ := (show zm8 X.prog X.w H s.heap a (.lst xs) from I.hok a _ ea)
    exact PySem.W.kia_one PySem.W.kitx_list I.kIn ⟨_, h1, rfl⟩ e (fun z => nomatch z) h
  | @frz a ob xs ea =>
    cases (show u = Value.ref a from rx)
    obtain ⟨_, _, _, n, _, h1⟩ := (show zm8 X.prog X.w H s.heap a (.frz ob (.lst xs)) from I.hok a _ ea)
    exact PySem.W.kia_one PySem.W.kitx_list I.kIn ⟨_, h1, rfl⟩ e (fun z => nomatch z) h
  | @tup a xs ea =>
    cases (show u = Value.ref a from rx)
    obtain ⟨_, _, _, p⟩ := (show zm8 X.prog X.w H s.heap a (.tup xs) from I.hok a _ ea)
    obtain ⟨o, h1, h2, _⟩ := p
    exact PySem.W.kia_one PySem.W.kitx_tuple I.kIn ⟨o, h1, h2⟩ e (fun z => nomatch z) h
  | @dK a kvs ea =>
    cases (show u = Value.ref a from rx)
    obtain ⟨_, _, vs, _, p⟩ := (show zm8 X.prog X.w H s.heap a (.dK kvs) from I.hok a _ ea)
    obtain ⟨o, es, ep, h1, h2, _⟩ := p
    exact PySem.W.kia_one PySem.W.kitx_dict I.kIn ⟨o, h1, h2.1⟩ e (fun z => nomatch z) h
  | @dT a kvs ea =>
    cases (show u = Value.ref a from rx)
    obtain ⟨_, _, xs, _, o, es, ep, h1, h2, _⟩ := (show zm8 X.prog X.w H s.heap a (.dT kvs) from I.hok a _ ea)
    exact PySem.W.kia_one PySem.W.kitx_dict I.kIn ⟨o, h1, h2.1⟩ e (fun z => nomatch z) h
  | @ins a C dx fs ea cl ha hn htk hm =>
    cases (show u = Value.ref a from rx)
    obtain ⟨mA, O, _⟩ := yt4 I.hok ea
    obtain ⟨od, J, _⟩ := O.look
    exact PySem.W.kia_one (PySem.W.kitx_own (cl.get _) cl.hd ha hn htk hm) I.kIn J e (fun z => nomatch z) h
end
end L2
namespace L2
open PySem PySem.Spec PyProof.Rows
structure Room (k : Nat) (A : Around) : Prop where
  hd : A.handled = none
  dp : A.depth + 3 * k + 5 < recursionLimit
  un : A.units + 16 * k + 200 < cLine
theorem Room.mono {j k : Nat} {A : Around} (r : Room k A) (h : j <= k) : Room j A := ⟨r.hd, by have := r.dp; omega, by have := r.un; omega⟩
theorem Room.deeper {k : Nat} {A : Around} (r : Room (k + 1) A) (env : Env) : Room k (A.deeper env) :=
  ⟨r.hd, by have := r.dp; show A.depth + 1 + 3 * k + 5 < _; omega, by have := r.un; show A.units + 3 + 16 * k + 200 < _; omega⟩
theorem xv9 {A : Around} {C : Addr} {us : List Value} {kw : List (Str × Value)} : (A.under (.builtin "type.__call__" ⟨.ref C :: us, kw⟩)).depth = A.depth + 1 := by
  first | rfl | simp [Around.under, Code.weight, Code.isCreation, Code.isGuard, Code.isCaller, Code.frames, Code.isFrame, guardIds]
theorem xw0 {A : Around} {C : Addr} {us : List Value} {kw : List (Str × Value)} : (A.under (.builtin "type.__call__" ⟨.ref C :: us, kw⟩)).units = A.units + 1 := by
  first | rfl | simp [Around.under, Code.cUnits, Code.frames, Code.isFrame]
theorem Room.make {k : Nat} {A : Around} (r : Room (k + 1) A) (C : Addr) (us : List Value) (kw : List (Str × Value)) : Room k (A.under (.builtin "type.__call__" ⟨.ref C :: us, kw⟩)) :=
  ⟨r.hd, by have := r.dp; rw [xv9]; omega, by have := r.un; rw [xw0]; omega⟩
theorem Room.depth {k : Nat} {A : Around} (r : Room k A) : A.depth < recursionLimit := by have := r.dp; omega
theorem Room.units {k : Nat} {A : Around} (r : Room k A) : A.units + 64 < cLine := by have := r.un; omega
theorem Room.units0 {k : Nat} {A : Around} (r : Room k A) : A.units < cLine := by have := r.un; omega
noncomputable def xz8 : TA := fun _ H Q => Q [] H
noncomputable def kb7 (ta : TE) (tr : TA) : TA := fun σ H Q => ta σ H fun x H1 => tr σ H1 fun xs H2 => Q (x :: xs) H2
section
variable {X : Cx} {e : Expr} {es : List Expr} {te : TE} {t : TA} {pos : Pos}
theorem yb1 : PA X [] xz8 := fun _ _ _ _ H Q I h => Calls.spliced_nil ⟨[], H, I, .nil, h⟩
theorem zo1 (ha : PE X e te) (hr : PA X es t) (hs : starEach (e :: es) X.env = (false, eval e X.env) :: starEach es X.env := by rfl) : PA X (e :: es) (kb7 te t) := by
  intro pos pins s σ H Q I h
  rw [hs]
  show wpAny _ _ (spliced ((false, eval e X.env) :: backTo pos (starEach es X.env))) _ _ s
  refine Calls.spliced_cons (thn (ha pins s σ H _ I h) fun u s1 ⟨x, H1, I1, r1, q1⟩ => ?_)
  exact thn (hr pos pins s1 σ H1 _ I1 q1) fun us s2 ⟨xs, H2, I2, r2, q2⟩ => ⟨x :: xs, H2, I2, .cons r1 r2, q2⟩
noncomputable def ke6 (t : TA) : TE := fun σ H Q => t σ H fun xs H1 => xs.length <= sizeLine /\ ∀ p, H1 p = none -> Q (.ref p) (upd H1 p (.tup xs))
noncomputable def ke7 (t : TA) : TE := fun σ H Q => t σ H fun xs H1 => xs.length <= sizeLine /\ ∀ p, H1 p = none -> Q (.ref p) (upd H1 p (.lst xs))
theorem wv0 {x1} (h : PA X es t) : PE X (.Tuple es x1 pos) (ke6 t) := by
  intro pins s σ H Q I hq
  refine wpAny_Tuple_spliced (thn (h pos pins s σ H _ I hq) fun us s1 ⟨xs, H1, I1, r, z, q⟩ => ⟨by rw [<- r.length]; exact z, ?_⟩)
  have hf : H1 s1.heap.objs.size = none := I1.hok.fresh (Nat.le_refl _)
  refine ⟨.ref s1.heap.objs.size, upd H1 s1.heap.objs.size (.tup xs), I1.laid (t' := s1.toks) (fun b u e => Heap.get?_push_of_some _ e) (Nat.le_refl _) ?_, rfl, q _ hf⟩
  exact ⟨z, us, r, ⟨_, Heap.get?_push_size _ rfl, rfl, _, rfl⟩⟩
theorem wv1 (h : PA X es t) : PE X (.List es pos) (ke7 t) := by
  intro pins s σ H Q I hq
  refine wpAny_List_spliced (thn (h pos pins s σ H _ I hq) fun us s1 ⟨xs, H1, I1, r, z, q⟩ => ⟨by rw [<- r.length]; exact z, ?_⟩)
  have hf : H1 s1.heap.objs.size = none := I1.hok.fresh (Nat.le_refl _)
  refine ⟨.ref s1.heap.objs.size, upd H1 s1.heap.objs.size (.lst xs), I1.laid (t' := s1.toks) (fun b u e => Heap.get?_push_of_some _ e) (Nat.le_refl _) ?_, rfl, q _ hf⟩
  exact ⟨z, us, 0, r, Heap.get?_push_size _ rfl⟩
end
noncomputable abbrev Sp := List V -> Hp -> VK -> XK -> Prop
noncomputable abbrev CXT := List Env -> Hp -> Shared -> XK -> Value -> Shared -> Prop
structure Env0 (P : Program) (w : World) (K : PySem.W.Frag) (mg : Str -> Option Value) (base : Heap) (A : Around) (outer : List Env) (s : Shared) (H : Hp) : Prop where
  frames : A.frames = some outer
  mod : Mod K mg base
  bs : ∀ b o, base.get? b = some o -> s.heap.get? b = some o /\ H b = none
  bsz : base.objs.size <= s.heap.objs.size
  funs : s.heap.FunFrames base outer
  frf : ∀ b ∈ frs outer, H b = none
  hok : HOk P w H s.heap
  bare : AllBare s.gens
noncomputable def CE (outer : List Env) (P : Program) (w : World) (H : Hp) (s : Shared) (Q : VK) (u : Value) (s' : Shared) : Prop :=
  ∃ v H', s'.os = s.os /\ AllBare s'.gens /\ Un (frs outer) [] H H' s.heap s'.heap /\ HOk P w H' s'.heap /\ zg4 v u /\ Q v H'
noncomputable def CR (CX : CXT) (outer : List Env) (P : Program) (w : World) (H : Hp) (s : Shared) (Q : VK) (E : XK) (r : Result) (s' : Shared) : Prop :=
  match r with
  | .ok (.ret u) => CE outer P w H s Q u s'
  | .ok _ => False
  | .error e => CX outer H s E e s'
structure FnOk (P : Program) (w : World) (K : PySem.W.Frag) (mg : Str -> Option Value) (base : Heap) (CX : CXT) (k : Nat) (f : Addr) (fd : FuncData) (ps : List Str) (sp : Sp) : Prop where
  len : ∀ vs H Q E, sp vs H Q E -> vs.length = ps.length
  run : ∀ (A : Around) (outer : List Env) (s : Shared) (H : Hp) (args : Args) (us : List Value) (vs : List V) (Q : VK) (E : XK), Room k A -> Env0 P w K mg base A outer s H -> BindsTo s fd args (ps.zip us) -> zd5 vs us -> sp vs H Q E ->
    codeAny (model P w) A (.call (.ref f) args) (CR CX outer P w H s Q E) s
theorem FnOk.mono {P : Program} {w : World} {K : PySem.W.Frag} {mg : Str -> Option Value} {base : Heap} {CX : CXT} {j k : Nat} {f : Addr} {fd : FuncData} {ps : List Str} {sp : Sp} (F : FnOk P w K mg base CX j f fd ps sp) (h : j <= k) :
    FnOk P w K mg base CX k f fd ps sp := ⟨F.len, fun A outer s H args us vs Q E hr => F.run A outer s H args us vs Q E (hr.mono h)⟩
theorem FnOk.imp {P : Program} {w : World} {K : PySem.W.Frag} {mg : Str -> Option Value} {base : Heap} {CX : CXT} {k : Nat} {f : Addr} {fd : FuncData} {ps : List Str} {sp sp' : Sp} (F : FnOk P w K mg base CX k f fd ps sp)
    (h : ∀ vs H Q E, sp' vs H Q E -> sp vs H Q E) : FnOk P w K mg base CX k f fd ps sp' :=
  ⟨fun vs H Q E q => F.len vs H Q E (h _ _ _ _ q), fun A outer s H args us vs Q E hr he hb hv hs => F.run A outer s H args us vs Q E hr he hb hv (h _ _ _ _ hs)⟩
theorem Env0.make {P : Program} {w : World} {K : PySem.W.Frag} {mg : Str -> Option Value} {base : Heap} {A : Around} {outer : List Env} {s : Shared} {H : Hp} (e : Env0 P w K mg base A outer s H) (C : Addr) (us : List Value) (kw : List (Str × Value)) :
    Env0 P w K mg base (A.under (.builtin "type.__call__" ⟨.ref C :: us, kw⟩)) outer s H := ⟨by first | exact e.frames | (simpa [Around.under, Code.envs, Code.isFrame, pushEnvs] using e.frames), e.mod, e.bs, e.bsz, e.funs, e.frf, e.hok, e.bare⟩
section
variable {X : Cx} {pins : List (Addr × Obj)} {σ : St} {H : Hp} {s s' : Shared}
theorem Inv.env0 (I : Inv X pins σ H s) : Env0 X.prog X.w X.K X.mg X.base X.A X.stack s H :=
  ⟨I.ok.frames, I.ok.mod, I.bs, Nat.le_trans I.ok.bsz I.sz, I.stack, I.stkFree, I.hok, I.bare⟩
theorem Inv.after {Q : VK} {u : Value} (I : Inv X pins σ H s) (h : CE X.stack X.prog X.w H s Q u s') : EP X pins σ Q u s' := by
  obtain ⟨v, H', os, bare, un, hok, r, q⟩ := h
  obtain ⟨hh, g, d, t, os'⟩ := s'
  obtain rfl : os' = s.os := os
  exact ⟨v, H', I.call (h' := hh) (g' := g) (d' := d) (t' := t) (ch := []) un hok bare (fun b z => absurd z (by simp)), r, q⟩
end
noncomputable def xk4 (sp : Sp) (dvs : List V) (E : XK) (t : TA) : TE := fun σ H Q => t σ H fun vs H1 => sp (vs ++ dvs) H1 Q E
noncomputable def wo9 (C : Addr) (m : Str) (sp : Sp) (dvs : List V) (E : XK) (ta : TE) (t : TA) : TE := fun σ H Q => ta σ H fun x H1 => ∃ a dx fs, x = .ref a /\ H1 a = some (.ins C dx fs) /\ fs.lookup m = none /\
  t σ H1 fun vs H2 => sp (x :: (vs ++ dvs)) H2 Q E
noncomputable def kb8 (C : Addr) (sp : Sp) (dvs : List V) (E : XK) (t : TA) : TE := fun σ H Q => t σ H fun vs H1 => ∀ x dx, H1 x = none -> H1 dx = none -> dx ≠ x ->
  sp (.ref x :: (vs ++ dvs)) (upd (upd H1 dx (.own x)) x (.ins C dx [])) (fun v H2 => v = .non /\ Q (.ref x) H2) E
noncomputable def zz0 (K : PySem.W.Frag) (fd : FuncData) (ps : List Str) (ds : List Value) : Prop :=
  ∀ (s : Shared) (us : List Value), K.In s.heap -> (us ++ ds).length = ps.length -> BindsTo s fd ⟨us, []⟩ (ps.zip (us ++ ds))
theorem zz0.all {K : PySem.W.Frag} {fd : FuncData} {ps : List Str} (h : ∀ us : List Value, us.length = ps.length -> bindArgs fd ⟨us, []⟩ = pure (ps.zip us)) : zz0 K fd ps [] := fun s us _ hl => by
  rw [List.append_nil] at hl |-
  exact .of_eq (h us hl)
noncomputable def yf1 (CX : CXT) (X : Cx) (E : XK) : Prop := ∀ (pins : List (Addr × Obj)) (σ : St) (H : Hp) (s : Shared) (e : Value) (s' : Shared), Inv X pins σ H s -> CX X.stack H s E e s' -> X.xe e s'
section
variable {X : Cx} {CX : CXT} {k : Nat} {f C : Addr} {fd : FuncData} {ps : List Str} {sp : Sp} {dvs : List V} {ds : List Value} {E : XK} {x m : Str} {p pos apos : Pos} {e o : Expr} {es : List Expr} {ta : TE} {t : TA}
theorem yy8 {pins : List (Addr × Obj)} {σ : St} {H : Hp} {s : Shared} {Q : VK} {us : List Value} {vs : List V} (F : FnOk X.prog X.w X.K X.mg X.base CX k f fd ps sp) (hr : Room k X.A) (hb : zz0 X.K fd ps ds) (hd : zd5 dvs ds) (hx : yf1 CX X E)
    (I : Inv X pins σ H s) (r : zd5 vs us) (h : sp (vs ++ dvs) H Q E) : wpAny (model X.prog X.w) X.A (call (.ref f) us) (EP X pins σ Q) X.xe s := by
  have r2 : zd5 (vs ++ dvs) (us ++ ds) := r.append hd
  have hl : (us ++ ds).length = ps.length := by rw [<- r2.length]; exact F.len _ _ _ _ h
  refine wpAny_call (codeAny_mono (F.run X.A X.stack s H ⟨us, []⟩ (us ++ ds) (vs ++ dvs) Q E hr I.env0 (hb s us I.kIn hl) r2 h) fun r s' hq => ?_)
  cases r with
  | error e => exact hx pins σ H s e s' I hq
  | ok fl =>
    cases fl with
    | ret u => exact I.after hq
    | next => exact False.elim hq
    | brk => exact False.elim hq
    | cont => exact False.elim hq
theorem wq0 (F : FnOk X.prog X.w X.K X.mg X.base CX k f fd ps sp) (hr : Room k X.A) (hg : Gl X x) (hm : X.mg x = some (.ref f)) (hk : PySem.W.keepIn X.K (.ref f) = true) (hb : zz0 X.K fd ps ds) (hd : zd5 dvs ds) (hx : yf1 CX X E)
    (ha : PA X (e :: es) t) (hdb : (x == ("__debug__" : Str)) = false := by decide) (he : starEach (e :: es) X.env = (false, eval e X.env) :: starEach es X.env := by rfl) (hpl : (backTo pos (starEach es X.env)).any (·.1) = false := by rfl) :
    PE X (.Call (.Name x p) (e :: es) [] pos) (xk4 sp dvs E t) := by
  intro pins s σ H Q I h
  refine wpAny_Call_Name_kw (yt2 I hg hm ?_ hdb)
  refine PySem.W.callWith_K (h₀ := X.base) I.ok.mod.kin hk (thn (ha pos pins s σ H _ I h) fun us s1 ⟨vs, H1, I1, r, q⟩ => ⟨I1.kIn, ?_⟩) he hpl
  exact yy8 F hr hb hd hx I1 r q
theorem wi8 (F : FnOk X.prog X.w X.K X.mg X.base CX k f fd ps sp) (hr : Room k X.A) (hg : Gl X x) (hm : X.mg x = some (.ref f)) (hk : PySem.W.keepIn X.K (.ref f) = true) (hb : zz0 X.K fd ps ds) (hd : zd5 dvs ds) (hx : yf1 CX X E)
    (hdb : (x == ("__debug__" : Str)) = false := by decide) : PE X (.Call (.Name x p) [] [] pos) (xk4 sp dvs E xz8) := by
  intro pins s σ H Q I h
  refine wpAny_Call_Name_kw (yt2 I hg hm ?_ hdb)
  exact PySem.W.callWith_K0 I.kIn hk (yy8 (us := []) F hr hb hd hx I .nil h)
theorem wq1 {pl : Sem Bool} (he : PE X o ta) (c : Cls X.K C) (hm : Meth X.K C m f) (F : FnOk X.prog X.w X.K X.mg X.base CX k f fd ps sp) (hr : Room k X.A) (hb : zz0 X.K fd ps ds) (hd : zd5 dvs ds) (hx : yf1 CX X E) (ha : PA X (e :: es) t)
    (hst : starEach (e :: es) X.env = (false, eval e X.env) :: starEach es X.env := by rfl) (hpl : (backTo pos (starEach es X.env)).any (·.1) = false := by rfl)
    (ht : eval (.Call (.Attribute o m apos) (e :: es) [] pos) X.env = (do
      let ov <- eval o X.env
      standAt apos.atName
      let (f, first) <- holding [ov] (getMethod ov m pl)
      callWith pos f first (backTo pos (starEach (e :: es) X.env)) (backToKw pos (keywordEach [] X.env))) := by rfl) :
    PE X (.Call (.Attribute o m apos) (e :: es) [] pos) (wo9 C m sp dvs E ta t) := by
  intro pins s σ H Q I h
  refine PySem.W.methodCall_KW (pl := pl) (thn (he pins s σ H _ I h) fun u s1 ⟨x, H1, I1, rx, a, dx, fs, ex, ea, l, q⟩ => ?_) ht
  subst ex
  obtain rfl : u = Value.ref a := rx
  refine yy7 I1 ea c hm l ?_
  refine PySem.W.callWith_K (first := [.ref a]) (h₀ := X.base) I.ok.mod.kin hm.kp (thn (ha pos pins s1 σ H1 _ I1 q) fun us s2 ⟨vs, H2, I2, r, q2⟩ => ⟨I2.kIn, ?_⟩) hst hpl
  exact yy8 (us := .ref a :: us) (vs := .ref a :: vs) F hr hb hd hx I2 (.cons rfl r) q2
theorem wi9 {pl : Sem Bool} (he : PE X o ta) (c : Cls X.K C) (hm : Meth X.K C m f) (F : FnOk X.prog X.w X.K X.mg X.base CX k f fd ps sp) (hr : Room k X.A) (hb : zz0 X.K fd ps ds) (hd : zd5 dvs ds) (hx : yf1 CX X E)
    (ht : eval (.Call (.Attribute o m apos) [] [] pos) X.env = (do
      let ov <- eval o X.env
      standAt apos.atName
      let (f, first) <- holding [ov] (getMethod ov m pl)
      callWith pos f first (backTo pos (starEach [] X.env)) (backToKw pos (keywordEach [] X.env))) := by rfl) :
    PE X (.Call (.Attribute o m apos) [] [] pos) (wo9 C m sp dvs E ta xz8) := by
  intro pins s σ H Q I h
  refine PySem.W.methodCall_KW (pl := pl) (thn (he pins s σ H _ I h) fun u s1 ⟨x, H1, I1, rx, a, dx, fs, ex, ea, l, q⟩ => ?_) ht
  subst ex
  obtain rfl : u = Value.ref a := rx
  refine yy7 I1 ea c hm l ?_
  exact PySem.W.callWith_K0 (first := [.ref a]) I1.kIn hm.kp (yy8 (us := [.ref a]) (vs := [.ref a]) F hr hb hd hx I1 (.cons rfl .nil) q)
structure Mk (K : PySem.W.Frag) (C f : Addr) : Prop where
  makes : PySem.W.makesIn K C = true
  init : PySem.W.findIn K (.ref C) "__init__" = some (some (.ref f))
  fn : PySem.W.isFn K (.ref f) = true
  kp : PySem.W.keepIn K (.ref C) = true
theorem wj0 {pins : List (Addr × Obj)} {σ : St} {H : Hp} {s : Shared} {Q : VK} {us : List Value} {vs : List V} (M : Mk X.K C f) (F : FnOk X.prog X.w X.K X.mg X.base CX k f fd ps sp) (hr : Room (k + 1) X.A) (hb : zz0 X.K fd ps ds) (hd : zd5 dvs ds)
    (hx : yf1 CX X E) (I : Inv X pins σ H s) (r : zd5 vs us)
    (h : ∀ x dx, H x = none -> H dx = none -> dx ≠ x -> sp (.ref x :: (vs ++ dvs)) (upd (upd H dx (.own x)) x (.ins C dx [])) (fun v H2 => v = .non /\ Q (.ref x) H2) E) :
    wpAny (model X.prog X.w) X.A (call (.ref C) us) (EP X pins σ Q) X.xe s := by
  have hq := h (s.heap.objs.size + 1) s.heap.objs.size (I.hok.fresh (Nat.le_succ _)) (I.hok.fresh (Nat.le_refl _)) (Nat.ne_of_lt (Nat.lt_succ_self _))
  have I2 := Inv.made (C := C) I
  have r2 : zd5 (V.ref (s.heap.objs.size + 1) :: (vs ++ dvs)) (Value.ref (s.heap.objs.size + 1) :: (us ++ ds)) := .cons rfl (r.append hd)
  have hl : (Value.ref (s.heap.objs.size + 1) :: us ++ ds).length = ps.length := by
    have e := r2.length
    rw [F.len _ _ _ _ hq] at e
    exact e.symm
  refine wpAny_call (wi7 (f := f) I.kIn M.makes M.init (beq_iff_eq.mp M.fn) (codeAny_mono (F.run _ X.stack _ _ ⟨Value.ref (s.heap.objs.size + 1) :: us, []⟩ (Value.ref (s.heap.objs.size + 1) :: (us ++ ds)) _ _ E (hr.make C us [])
    (I2.env0.make C us []) (hb _ (Value.ref (s.heap.objs.size + 1) :: us) I2.kIn hl) r2 hq) fun r s' hq' => ?_))
  cases r with
  | error e => exact hx pins σ _ _ e s' I2 hq'
  | ok fl =>
    cases fl with
    | ret u =>
      obtain ⟨v, H', I3, rv, ev, q3⟩ := I2.after hq'
      subst ev
      exact ⟨rv, ⟨V.ref (s.heap.objs.size + 1), H', I3, rfl, q3⟩⟩
    | next => exact False.elim hq'
    | brk => exact False.elim hq'
    | cont => exact False.elim hq'
theorem wq2 (M : Mk X.K C f) (F : FnOk X.prog X.w X.K X.mg X.base CX k f fd ps sp) (hr : Room (k + 1) X.A) (hg : Gl X x) (hm : X.mg x = some (.ref C)) (hb : zz0 X.K fd ps ds) (hd : zd5 dvs ds) (hx : yf1 CX X E)
    (ha : PA X (e :: es) t) (hdb : (x == ("__debug__" : Str)) = false := by decide) (he : starEach (e :: es) X.env = (false, eval e X.env) :: starEach es X.env := by rfl) (hpl : (backTo pos (starEach es X.env)).any (·.1) = false := by rfl) :
    PE X (.Call (.Name x p) (e :: es) [] pos) (kb8 C sp dvs E t) := by
  intro pins s σ H Q I h
  refine wpAny_Call_Name_kw (yt2 I hg hm ?_ hdb)
  refine PySem.W.callWith_K (h₀ := X.base) I.ok.mod.kin M.kp (thn (ha pos pins s σ H _ I h) fun us s1 ⟨vs, H1, I1, r, q⟩ => ⟨I1.kIn, ?_⟩) he hpl
  exact wj0 M F hr hb hd hx I1 r q
end
section
variable {X : Cx} {CX : CXT} {k : Nat} {f C : Addr} {fd : FuncData} {ps ks : List Str} {sp : Sp} {E : XK} {x m : Str} {p pos apos kpos : Pos} {e o : Expr} {es : List Expr} {kws : List Keyword} {te ta : TE} {t tk : TA} {nm : Option Str}
structure KBinds (K : PySem.W.Frag) (fd : FuncData) (ps ks : List Str) (g : List Value -> List Value -> List Value) (gV : List V -> List V -> List V) : Prop where
  to : ∀ (s : Shared) (us ws : List Value), K.In s.heap -> (g us ws).length = ps.length -> BindsTo s fd ⟨us, ks.zip ws⟩ (ps.zip (g us ws))
  rel : ∀ {vs : List V} {us : List Value} {zs : List V} {ws : List Value}, zd5 vs us -> zd5 zs ws -> zd5 (gV vs zs) (g us ws)
variable {g : List Value -> List Value -> List Value} {gV : List V -> List V -> List V}
end
structure FnScope (N P : List Str) (sc : Scope) : Prop where
  kind : sc.kind = .function
  co : sc.isCoroutine = false
  gen : sc.isGenerator = false
  nd : N.Nodup
  pre : N.take P.length = P
  par : ∀ x ∈ P, sc.names.lookup x = some .local \/ sc.names.lookup x = some .cell
  nofree : ∀ y ∈ sc.names, y.2 ≠ .free
theorem xg5 {kindOf : Str -> Option NameKind} {x : Str} : ∀ {binds : List (Str × Value)} {m : Str -> Option Value}, (∀ v, (x, v) ∉ binds) -> bindL kindOf binds m x = m x
  | [], _, _ => rfl
  | (n, v) :: r, m, h => by
    unfold bindL
    rw [xg5 fun w hw => h w (List.mem_cons_of_mem _ hw)]
    split
    . have : x ≠ n := by rintro rfl; exact h v List.mem_cons_self
      simp [this]
    . rfl
theorem xg6 {kindOf : Str -> Option NameKind} {x : Str} : ∀ {binds : List (Str × Value)} {m : Str -> Option Value}, (∀ v, (x, v) ∉ binds) -> bindC kindOf binds m x = m x
  | [], _, _ => rfl
  | (n, v) :: r, m, h => by
    unfold bindC
    rw [xg6 fun w hw => h w (List.mem_cons_of_mem _ hw)]
    split
    . rfl
    . have : x ≠ n := by rintro rfl; exact h v List.mem_cons_self
      simp [this]
theorem xg7 {kindOf : Str -> Option NameKind} {x : Str} {v : Value} : ∀ {P : List Str} {vs : List Value} {i : Nat} {m : Str -> Option Value}, P.Nodup -> P[i]? = some x -> vs[i]? = some v -> kindOf x = some .local ->
    bindL kindOf (P.zip vs) m x = some v
  | [], _, _, _, _, h, _, _ => by simp at h
  | _ :: _, [], _, _, _, _, h, _ => by simp at h
  | p :: P, w :: vs, 0, m, nd, h1, h2, hk => by
    simp at h1 h2; subst h1; subst h2
    show bindL kindOf ((p, w) :: P.zip vs) m p = _
    unfold bindL
    rw [xg5 fun v hv => (List.nodup_cons.mp nd).1 (List.of_mem_zip hv).1, if_pos hk]
    simp
  | p :: P, w :: vs, i + 1, m, nd, h1, h2, hk => by
    show bindL kindOf ((p, w) :: P.zip vs) m x = _
    unfold bindL
    exact xg7 (i := i) (List.nodup_cons.mp nd).2 (by simpa using h1) (by simpa using h2) hk
theorem xg8 {kindOf : Str -> Option NameKind} {x : Str} {v : Value} : ∀ {P : List Str} {vs : List Value} {i : Nat} {m : Str -> Option Value}, P.Nodup -> P[i]? = some x -> vs[i]? = some v -> kindOf x ≠ some .local ->
    bindC kindOf (P.zip vs) m x = some v
  | [], _, _, _, _, h, _, _ => by simp at h
  | _ :: _, [], _, _, _, _, h, _ => by simp at h
  | p :: P, w :: vs, 0, m, nd, h1, h2, hk => by
    simp at h1 h2; subst h1; subst h2
    show bindC kindOf ((p, w) :: P.zip vs) m p = _
    unfold bindC
    rw [xg6 fun v hv => (List.nodup_cons.mp nd).1 (List.of_mem_zip hv).1, if_neg hk]
    simp
  | p :: P, w :: vs, i + 1, m, nd, h1, h2, hk => by
    show bindC kindOf ((p, w) :: P.zip vs) m x = _
    unfold bindC
    exact xg8 (i := i) (List.nodup_cons.mp nd).2 (by simpa using h1) (by simpa using h2) hk
noncomputable def start (N : List Str) (vs : List V) : St := vs.map some ++ List.replicate (N.length - vs.length) none
noncomputable def yk3 (CX : CXT) (P : Program) (w : World) (K : PySem.W.Frag) (mg : Str -> Option Value) (base : Heap) (N : List Str) (qual : Str) (scope : Scope) (f : Addr) (cd : Value) (A : Around) (outer : List Env) (s : Shared) (H : Hp) (E : XK) : Cx where
  prog := P
  w := w
  K := K
  mg := mg
  base := base
  A := A.deeper (envOfC qual scope s.heap.objs.size f cd)
  N := N
  s₀ := s
  H₀ := H
  env := envOfC qual scope s.heap.objs.size f cd
  outer := outer
  stack := envOfC qual scope s.heap.objs.size f cd :: outer
  ex := []
  calm := true
  fn := fun _ => true
  pn := []
  xe := fun e s' => wpAny (model P w) (A.deeper (envOfC qual scope s.heap.objs.size f cd)) (leaving (envOfC qual scope s.heap.objs.size f cd) e) (fun _ s'' => CX outer H s E e s'') (fun e' s'' => CX outer H s E e' s'') s'
theorem xl4 {sc : Scope} {n : Nat} {x : Str} (h : sc.names.lookup x = some .cell) : ∃ c, (cellsFrom n sc.names []).lookup x = some c := by
  have q := PySem.W.cellsFrom_some sc.names n [] (.inl h)
  exact Option.isSome_iff_exists.mp q
theorem wc2 {CX : CXT} {P : Program} {w : World} {K : PySem.W.Frag} {mg : Str -> Option Value} {base : Heap} {N ps : List Str} {qual : Str} {scope : Scope} {f : Addr} {cd : Value} {A : Around} {outer : List Env} {s s1 : Shared} {H : Hp} {E : XK} {us : List Value} {vs : List V}
    (S : FnScope N ps scope) (hd : A.handled = none) (e0 : Env0 P w K mg base A outer s H) (hl : vs.length = ps.length) (r : zd5 vs us)
    (x : InCallC s s.heap.objs.size (bindL (envOfC qual scope s.heap.objs.size f cd).kindOf (ps.zip us) fun _ => none) (cellsFrom (s.heap.objs.size + 1) scope.names []) (bindC (envOfC qual scope s.heap.objs.size f cd).kindOf (ps.zip us) fun _ => none) s1) :
    Inv (yk3 CX P w K mg base N qual scope f cd A outer s H E) [] (start N vs) H s1 := by
  have hpl : ps.length <= N.length := by have := congrArg List.length S.pre; rw [List.length_take] at this; omega
  obtain ⟨h1, tk, rfl, hk⟩ := x.done
  have noA : ∀ b : Addr, b ∉ (yk3 CX P w K mg base N qual scope f cd A outer s H E).ex := fun b z => absurd (show b ∈ ([] : List Addr) from z) (by simp)
  refine ⟨⟨e0.mod, S.kind, rfl, rfl, Nat.le_refl _, fun y z c h1 h2 => ?_, fun y hy => ?_, fun y c _ h => ?_, fun _ => hd, Around.frames_deeper e0.frames, .inr ⟨rfl, rfl⟩, fun b z => absurd z (noA b), e0.bs, e0.bsz, fun b _ _ => noA b, fun b z => absurd z (noA b), e0.funs, e0.frf⟩,
    rfl, e0.bare, Un.kept hk, ⟨_, x.toInCall.ns, fun i y v h1 h2 h3 => ?_⟩, fun y c h => ⟨_, x.cell y c h⟩, e0.hok.fresh (Nat.le_refl _), fun y c h => ?_, fun p hp => absurd (show p ∈ ([] : List (Addr × Obj)) from hp) (by simp), e0.hok.kept hk, ?_⟩
  . exact name_of_addr x.apart (PySem.mem_of_lookup h1) (PySem.mem_of_lookup h2)
  . have hy : scope.names.lookup y = some .cell \/ scope.names.lookup y = some .free := hy
    rcases hy with hy | hy
    . exact xl4 hy
    . exact absurd rfl (S.nofree _ (PySem.mem_of_lookup hy))
  . exact Nat.le_of_lt (x.above y c (PySem.mem_of_lookup h))
  . have hi : i < vs.length := by
      unfold start at h2
      by_cases hi : i < vs.length
      . exact hi
      . rw [List.getElem?_append_right (by simpa using hi)] at h2
        rw [List.getElem?_replicate] at h2
        split at h2 <;> cases h2
    have ha : vs[i]? = some v := by
      unfold start at h2
      rw [List.getElem?_append_left (by simpa using hi), List.getElem?_map] at h2
      cases e : vs[i]? with
      | none => rw [e] at h2; cases h2
      | some a => rw [e] at h2; cases h2; rfl
    obtain ⟨u, hu, rv⟩ := r.get ha
    have hp : ps[i]? = some y := by
      rw [<- S.pre, List.getElem?_take_of_lt (by omega)]; exact h1
    have ndP : ps.Nodup := by rw [<- S.pre]; exact S.nd.sublist (List.take_sublist _ _)
    refine ⟨u, rv, ?_⟩
    rcases S.par y (List.mem_of_getElem? hp) with k | k
    . exact .inl ⟨k, xg7 ndP hp hu k⟩
    . obtain ⟨c, e⟩ := xl4 (n := s.heap.objs.size + 1) k
      refine .inr ⟨.inl k, c, e, ?_⟩
      have q := x.cell y c e
      rw [xg8 ndP hp hu (by show scope.names.lookup y ≠ _; rw [k]; decide)] at q
      exact q
  . exact e0.hok.fresh (Nat.le_of_lt (x.above y c (PySem.mem_of_lookup h)))
  . unfold start
    show _ = N.length
    rw [List.length_append, List.length_map, List.length_replicate]
    omega
theorem ka4 {CX : CXT} {P : Program} {w : World} {K : PySem.W.Frag} {mg : Str -> Option Value} {base : Heap} {k : Nat} {f : Addr} {name qual : Str} {params : Arguments} {body : List Stmt} {scope : Scope} {dV kV doc pm cdv ct oc : Value} {an od : Option Addr}
    {osl : Array (Option Value)} {N ps : List Str} {sp : Sp} (lk : K.lookup f = some ⟨oc, od, .func (PySem.W.fnOf name qual params body scope dV kV doc pm an cdv ct), osl⟩) (hcd : PySem.W.codeIn K cdv qual = true) (S : FnScope N ps scope)
    (len : ∀ vs H Q E, sp vs H Q E -> vs.length = ps.length)
    (hbody : ∀ (A : Around) (outer : List Env) (s : Shared) (H : Hp) (vs : List V) (Q : VK) (E : XK), Room k (A.deeper (envOfC qual scope s.heap.objs.size f cdv)) -> sp vs H Q E ->
      ∃ t, PSs (yk3 CX P w K mg base N qual scope f cdv A outer s H E) body t /\ t { nx := fun _ H' => Q .non H', rt := Q } (start N vs) H) :
    FnOk P w K mg base CX (k + 1) f (PySem.W.fnOf name qual params body scope dV kV doc pm an cdv ct) ps sp := by
  refine ⟨len, fun A outer s H args us vs Q E hr e0 hb r hsp => ?_⟩
  have hl := len _ _ _ _ hsp
  have KX : K.In s.heap := e0.mod.kin.keeps fun b o e => (e0.bs b o e).1
  have lim : s.heap.NoLimit := e0.mod.nolimit.keeps fun b o e => (e0.bs b o e).1
  have hkind : ∀ y ∈ ps.zip us, scope.names.lookup y.1 = some .local \/ (scope.names.lookup y.1 = some .cell /\ ((cellsFrom (s.heap.objs.size + 1) scope.names []).lookup y.1).isSome = true) := fun ⟨n, v⟩ hy => by
    rcases S.par n (List.of_mem_zip hy).1 with q | q
    . exact .inl q
    . exact .inr ⟨q, PySem.W.cellsFrom_some _ _ _ (.inl q)⟩
  refine codeAny_call_function hr.depth (KX _ _ lk) rfl S.co S.gen rfl (PySem.W.codeRec_of KX hcd) (hb _ _ _ _ ?_)
  refine wpAny_newFunctionEnv_cells S.kind hkind fun env he s1 x => ?_
  subst he
  refine ⟨lim.keeps x.toInCall.keep, codeAny_func ?_⟩
  obtain ⟨t, ht, hq⟩ := hbody A outer s H vs Q E (hr.deeper _) hsp
  have I : Inv (yk3 CX P w K mg base N qual scope f cdv A outer s H E) [] (start N vs) H s1 := wc2 S hr.hd e0 hl r x
  refine wpAny_mono (ht [] s1 (start N vs) H _ I hq) (fun fl s' hs => ?_) fun e s' hs => hs
  have fin : ∀ {σ' : St} {H' : Hp} {v : V} {u : Value}, Inv (yk3 CX P w K mg base N qual scope f cdv A outer s H E) [] σ' H' s' -> zg4 v u -> Q v H' -> CE outer P w H s Q u s' :=
    fun {σ' H' v u} J rv q => ⟨v, H', J.os, J.bare, J.base, J.hok, rv, q⟩
  cases fl with
  | ret u =>
    obtain ⟨v, σ', H', J, rv, q⟩ := hs
    exact fin J rv q
  | next =>
    obtain ⟨σ', H', J, q⟩ := hs
    exact fin (v := V.non) (u := Value.none) J rfl q
  | brk =>
    obtain ⟨_, _, _, q⟩ := hs
    exact False.elim q
  | cont =>
    obtain ⟨_, _, _, q⟩ := hs
    exact False.elim q
end L2
namespace L2
open PySem PySem.Spec PyProof.Rows
section
variable {X : Cx} {x : Str} {p pos : Pos} {e : Expr} {es : List Expr} {t : TA} {id T : String} {r : List V -> Hp -> VK -> Prop}
noncomputable def tCB (r : List V -> Hp -> VK -> Prop) (t : TA) : TE := fun σ H Q => t σ H fun vs H1 => r vs H1 Q
theorem yh1 (hc : zk7 X (.builtin id) r) (hg : Gl X x) (hm : X.mg x = none) (hv : bootBuiltins x = some (.builtin id)) (ha : PA X (e :: es) t) (hn : x ≠ "__name__" := by decide) (hdb : (x == ("__debug__" : Str)) = false := by decide)
    (he : starEach (e :: es) X.env = (false, eval e X.env) :: starEach es X.env := by rfl) (hpl : (backTo pos (starEach es X.env)).any (·.1) = false := by rfl) : PE X (.Call (.Name x p) (e :: es) [] pos) (tCB r t) := by
  intro pins s σ H Q I h
  refine wpAny_Call_Name_kw (yq4 I hg hm hv ?_ hn hdb)
  exact PyProof.Rows.callWith_builtin1 (thn (ha pos pins s σ H _ I h) fun us s1 ⟨vs, H1, I1, r1, q1⟩ => hc pins s1 σ H1 vs us Q I1 r1 q1) he hpl
theorem wc3 (hc : zk7 X (.type T) r) (hg : Gl X x) (hm : X.mg x = none) (hv : bootBuiltins x = some (.type T)) (ha : PA X (e :: es) t) (hn : x ≠ "__name__" := by decide) (hdb : (x == ("__debug__" : Str)) = false := by decide)
    (he : starEach (e :: es) X.env = (false, eval e X.env) :: starEach es X.env := by rfl) (hpl : (backTo pos (starEach es X.env)).any (·.1) = false := by rfl) : PE X (.Call (.Name x p) (e :: es) [] pos) (tCB r t) := by
  intro pins s σ H Q I h
  refine wpAny_Call_Name_kw (yq4 I hg hm hv ?_ hn hdb)
  exact PyProof.Rows.callWith_type1 (thn (ha pos pins s σ H _ I h) fun us s1 ⟨vs, H1, I1, r1, q1⟩ => hc pins s1 σ H1 vs us Q I1 r1 q1) he hpl
end
end L2
namespace HT
open PySem PyProof.Rows
section
open PySem.SeqAt
open PySem.AutoSeq1 (wpAny_loadPart')
open PySem.MeetsSeq PySem.MeetsSeq2 PySem.MeetsSeq3
end
end HT
namespace L2
open PySem PySem.Spec PyProof.Rows
noncomputable abbrev TO := St -> Hp -> (Option Int -> Hp -> Prop) -> Prop
section
variable {X : Cx} {e : Expr} {te : TE} {lo hi : Option Expr} {tl th : TO} {pos p2 : Pos}
noncomputable def SlR (X : Cx) (r : V -> Option Int -> Option Int -> Hp -> VK -> Prop) : Prop :=
  ∀ (pins : List (Addr × Obj)) (s : Shared) (σ : St) (H : Hp) (x : V) (v vl vu : Value) (lo hi : Option Int) (sl : Addr) (Q : VK), Inv X pins σ H s -> zg4 x v -> s.heap.IsSliceOf sl vl vu .none -> IsPart vl lo -> IsPart vu hi -> r x lo hi H Q ->
    ∃ T id, typeLookup (.type T) "__getitem__" = pure (some (.builtin id)) /\ s.TypeIs v T /\ wpAny (model X.prog X.w) X.A (getItem v (.ref sl)) (EP X pins σ Q) X.xe s
theorem SlR.or {r r' : V -> Option Int -> Option Int -> Hp -> VK -> Prop} (h : SlR X r) (h' : SlR X r') : SlR X (fun x lo hi H Q => r x lo hi H Q \/ r' x lo hi H Q) := by
  intro pins s σ H x v vl vu lo hi sl Q I rx hs pl pu q
  rcases q with q | q
  . exact h pins s σ H x v vl vu lo hi sl Q I rx hs pl pu q
  . exact h' pins s σ H x v vl vu lo hi sl Q I rx hs pl pu q
end
end L2
namespace L2
open PySem PySem.Spec PyProof.Rows
noncomputable def ixN (n : Nat) (i : Int) : Option Nat := if 0 <= i then (if i < n then some i.toNat else none) else if -(n : Int) <= i then some (i + n).toNat else none
noncomputable def atI {α : Type} (xs : List α) (i : Int) : Option α := (ixN xs.length i).bind fun j => xs[j]?
theorem yt5 {n : Nat} {i : Int} {j : Nat} (h : ixN n i = some j) : seqIndex? i n = some j /\ j < n /\ -(n : Int) <= i /\ i < n := by
  unfold ixN at h
  by_cases h0 : 0 <= i
  . rw [if_pos h0] at h
    by_cases h1 : i < n
    . rw [if_pos h1] at h
      have e : i.toNat = j := Option.some.inj h
      exact ⟨by rw [seqIndex_of h0 h1, e], by omega, by omega, h1⟩
    . rw [if_neg h1] at h; cases h
  . rw [if_neg h0] at h
    by_cases h1 : -(n : Int) <= i
    . rw [if_pos h1] at h
      have e : (i + n).toNat = j := Option.some.inj h
      exact ⟨by rw [seqIndex_neg (by omega) h1, e], by omega, h1, by omega⟩
    . rw [if_neg h1] at h; cases h
theorem ya6 {α : Type} {xs : List α} {i : Int} {v : α} (h : atI xs i = some v) : ∃ j, seqIndex? i xs.length = some j /\ xs[j]? = some v /\ j < xs.length /\ -(xs.length : Int) <= i /\ i < xs.length := by
  unfold atI at h
  cases e : ixN xs.length i with
  | none => rw [e] at h; cases h
  | some j =>
    rw [e] at h
    obtain ⟨h1, h2, h3, h4⟩ := yt5 e
    exact ⟨j, h1, h, h2, h3, h4⟩
theorem xd4 {α : Type} {xs : List α} {j : Nat} {v : α} (h : xs[j]? = some v) : atI xs (j : Int) = some v := by
  have hj : j < xs.length := (List.getElem?_eq_some_iff.mp h).1
  have e : ixN xs.length (j : Int) = some j := by
    unfold ixN
    rw [if_pos (by omega), if_pos (by omega)]; simp
  unfold atI; rw [e]; exact h
theorem zq0 {α : Type} (xs : List α) (v : α) : atI (xs ++ [v]) (-1) = some v := by
  have hl : (xs ++ [v]).length = xs.length + 1 := by simp
  have e : ixN (xs ++ [v]).length (-1) = some xs.length := by
    unfold ixN
    rw [hl, if_neg (by decide), if_pos (by omega)]
    congr 1
    omega
  unfold atI
  rw [e]
  show (xs ++ [v])[xs.length]? = some v
  simp
noncomputable def yd4 (b : Expr) : Prop := ∀ o i, subscripted b false o i = operate [o, i] (getItem o i)
noncomputable def IxR (X : Cx) (r : R2) : Prop :=
  ∀ (value slice : Expr) (pins : List (Addr × Obj)) (s : Shared) (σ : St) (H : Hp) (x y : V) (v u : Value) (Q : VK), Inv X pins σ H s -> zg4 x v -> zg4 y u -> r x y H Q ->
    subscripted slice false v u = operate [v, u] (getItem v u) -> wpAny (model X.prog X.w) X.A (subscriptTail value slice v u) (EP X pins σ Q) X.xe s
noncomputable def MtR (X : Cx) (id : String) (r : V -> List V -> Hp -> VK -> Prop) : Prop :=
  ∀ (pins : List (Addr × Obj)) (s : Shared) (σ : St) (H : Hp) (x : V) (xs : List V) (v : Value) (us : List Value) (Q : VK), Inv X pins σ H s -> zg4 x v -> zd5 xs us -> r x xs H Q ->
    wpAny (model X.prog X.w) X.A (call (.builtin id) (v :: us)) (EP X pins σ Q) X.xe s
section
variable {X : Cx} {a b : Expr} {ta tb : TE} {pos : Pos}
theorem IxR.or {r r' : R2} (h : IxR X r) (h' : IxR X r') : IxR X (fun x y H Q => r x y H Q \/ r' x y H Q) := by
  intro value slice pins s σ H x y v u Q I rx ry q hs
  rcases q with q | q
  . exact h value slice pins s σ H x y v u Q I rx ry q hs
  . exact h' value slice pins s σ H x y v u Q I rx ry q hs
theorem MtR.or {id : String} {r r' : V -> List V -> Hp -> VK -> Prop} (h : MtR X id r) (h' : MtR X id r') : MtR X id (fun x xs H Q => r x xs H Q \/ r' x xs H Q) := by
  intro pins s σ H x xs v us Q I rx rs q
  rcases q with q | q
  . exact h pins s σ H x xs v us Q I rx rs q
  . exact h' pins s σ H x xs v us Q I rx rs q
theorem xj5 {r : R2} (hr : IxR X r) (ha : PE X a ta) (hb : PE X b tb) (hs : yd4 b) : PE X (.Subscript a b pos) (tOp r ta tb) := by
  intro pins s σ H Q I h
  exact Subscript_ (wi4 ha hb I h fun v u s2 x y H2 I2 rx ry q => hr a b pins s2 σ H2 x y v u Q I2 rx ry q (hs _ _))
noncomputable def wy8 (K : PySem.W.Frag) : R2 := fun x y H Q => ∃ p xs i v, x = .ref p /\ y = .int i /\ SqL K H p xs /\ atI xs i = some v /\ Q v H
noncomputable def wy9 (K : PySem.W.Frag) : R2 := fun x y H Q => ∃ p xs i v, x = .ref p /\ y = .int i /\ SqT K H p xs /\ atI xs i = some v /\ Q v H
noncomputable def wz0 : R2 := fun x y H Q => ∃ z i c, x = .str z /\ y = .int i /\ z.length <= sizeLine /\ atI z.cps.toList i = some c /\ Q (.str ⟨#[c]⟩) H
theorem xd5 : IxR X (wy8 X.K) := by
  intro value slice pins s σ H x y v u Q I rx ry h hs
  obtain ⟨p, xs, i, z, rfl, rfl, hq, he, q⟩ := h
  cases rx
  obtain ⟨t, rfl⟩ := ry
  obtain ⟨its, r, pl, hz⟩ := I.list hq
  obtain ⟨j, h1, h2, h3, h4, h5⟩ := ya6 he
  obtain ⟨w, ew, rw'⟩ := r.get h2
  have hl := r.length
  have hn := yh0
  have fin : EP X pins σ Q w s := ⟨z, H, I, rw', q⟩
  by_cases h0 : 0 <= i
  . have hj : i.toNat = j := by
      rw [seqIndex_of h0 h5] at h1
      exact Option.some.inj h1
    exact item_listR pl.isList h0 (by omega) (by rw [hj]; simpa using ew) fin hs
  . have hj : (i + (its.toArray.size : Int)).toNat = j := by
      rw [seqIndex_neg (by omega) h4] at h1
      rw [List.size_toArray, <- hl]
      exact Option.some.inj h1
    exact subscriptTail_builtinR (x := w) pl.isList.typeIs slot_list_getitem.lookup
      (wpAny_getItem_list_neg (Q := fun r s' => r = w /\ EP X pins σ Q r s') pl.isList (by omega) (by rw [List.size_toArray] <;> omega) (by omega) (by rw [hj]; simpa using ew) ⟨rfl, fin⟩) hs
theorem wv2 : IxR X (wy9 X.K) := by
  intro value slice pins s σ H x y v u Q I rx ry h hs
  obtain ⟨p, xs, i, z, rfl, rfl, hq, he, q⟩ := h
  cases rx
  obtain ⟨t, rfl⟩ := ry
  obtain ⟨its, r, pl, hz⟩ := I.tuple hq
  obtain ⟨j, h1, h2, h3, h4, h5⟩ := ya6 he
  obtain ⟨w, ew, rw'⟩ := r.get h2
  have hl := r.length
  have hn := yh0
  have fin : EP X pins σ Q w s := ⟨z, H, I, rw', q⟩
  exact subscriptTail_builtinR (x := w) pl.typeIs slot_tuple_getitem.lookup
    (getItem_tuple (j := j) (Q := fun r s' => r = w /\ EP X pins σ Q r s') pl (by omega) (by omega) (by rw [List.size_toArray, <- hl]; exact h1) (by simpa using ew) ⟨rfl, fin⟩) hs
theorem wv3 : IxR X wz0 := by
  intro value slice pins s σ H x y v u Q I rx ry h hs
  obtain ⟨z, i, c, rfl, rfl, hz, he, q⟩ := h
  obtain ⟨t, rfl⟩ := rx
  obtain ⟨t', rfl⟩ := ry
  obtain ⟨j, h1, h2, h3, h4, h5⟩ := ya6 he
  have hl : z.cps.toList.length = z.length := by simp [Str.length]
  rw [hl] at h1 h4 h5
  have hn := yh0
  exact tail_any (typeIs_str s z t) slot_str_getitem.lookup (getItem_str (c := c) (by
    have e1 : decide (i < -(2 ^ 63 : Int)) = false := decide_eq_false (by omega)
    have e2 : decide (i >= 2 ^ 63) = false := decide_eq_false (by omega)
    rw [e1, e2, Bool.or_false]) (by rw [h1]; simpa using h2) ⟨.str ⟨#[c]⟩, H, I.tok _, ⟨_, rfl⟩, q⟩) hs
noncomputable def rIx (K : PySem.W.Frag) : R2 := fun x y H Q => wy8 K x y H Q \/ wy9 K x y H Q \/ wz0 x y H Q
theorem wc4 : IxR X (rIx X.K) := xd5.or (wv2.or wv3)
theorem xw1 (its : List Value) (n j : Nat) (u : Value) : Obj.mapSeq (·.setIfInBounds j u) { cls := .type "list", data := .seq its.toArray n } = { cls := .type "list", data := .seq (its.set j u).toArray n } := by
  simp [Obj.mapSeq]
theorem Inv.lst {pins : List (Addr × Obj)} {σ : St} {H : Hp} {s : Shared} {p : Addr} {xs : List V} (I : Inv X pins σ H s) (h : H p = some (.lst xs)) :
    ∃ (its : List Value) (n : Nat), zd5 xs its /\ s.heap.get? p = some { cls := .type "list", data := .seq its.toArray n } /\ xs.length <= sizeLine := by
  obtain ⟨z, its, n, r, e⟩ := I.hok p _ h
  exact ⟨its, n, r, e, z⟩
theorem Inv.lstUpd {pins : List (Addr × Obj)} {σ : St} {H : Hp} {s : Shared} {p : Addr} {xs ys : List V} {its its' : List Value} {n n' : Nat} {f : Obj -> Obj} (I : Inv X pins σ H s) (h : H p = some (.lst xs))
    (ho : s.heap.get? p = some { cls := .type "list", data := .seq its.toArray n }) (hf : f { cls := .type "list", data := .seq its.toArray n } = { cls := .type "list", data := .seq its'.toArray n' }) (r : zd5 ys its') (hz : ys.length <= sizeLine) (t : Nat) :
    Inv X pins σ (upd H p (.lst ys)) { s with heap := s.heap.update p f, toks := t } := by
  have e : (s.heap.update p f).get? p = some { cls := .type "list", data := .seq its'.toArray n' } := by
    rw [Heap.get?_update_self f ho (by rw [hf] <;> rfl), hf]
  refine I.write (x := p) (e := p) (by rw [h]; trivial) (.inl rfl) (fun b u hb q => (Heap.get?_update_other _ _ (Ne.symm hb)).trans q) ⟨_, e⟩ ?_
  exact ⟨hz, its', n', r, e⟩
noncomputable def kb9 : V -> V -> V -> Hp -> (Hp -> Prop) -> Prop := fun o i v H Q => ∃ p xs k j, o = .ref p /\ i = .int k /\ H p = some (.lst xs) /\ ixN xs.length k = some j /\ Q (upd H p (.lst (xs.set j v)))
theorem wj1 : wy3 X kb9 := by
  intro pins s σ H o i v ov iv u Q I ro ri rv h
  obtain ⟨p, xs, k, j, rfl, rfl, hp, hj, q⟩ := h
  cases ro
  obtain ⟨t, rfl⟩ := ri
  obtain ⟨its, n, r, ho, hz⟩ := I.lst hp
  obtain ⟨h1, h2, h3, h4⟩ := yt5 hj
  have hl := r.length
  have hn := yh0
  have I' : Inv X pins σ (upd H p (.lst (xs.set j v))) { s with heap := s.heap.update p (Obj.mapSeq (·.setIfInBounds j u)) } :=
    I.lstUpd hp ho (xw1 its n j u) (r.set rv j) (by rw [List.length_set]; exact hz) s.toks
  by_cases h0 : 0 <= k
  . have hk : k.toNat = j := by
      rw [seqIndex_of h0 h4] at h1
      exact Option.some.inj h1
    exact PySem.W.ki_setAt ho h0 (by omega) (by rw [List.size_toArray, <- hl]; exact h4) (by rw [hk]; exact ⟨_, I', q⟩)
  . have hk : (k + (its.toArray.size : Int)).toNat = j := by
      rw [seqIndex_neg (by omega) h3] at h1
      rw [List.size_toArray, <- hl]
      exact Option.some.inj h1
    exact PySem.W.ki_setBack ho (by omega) (by rw [List.size_toArray, <- hl]; exact h3) (by omega) (by rw [hk]; exact ⟨_, I', q⟩)
noncomputable def zw3 : V -> Bool
  | .non => true
  | .bl _ => true
  | .int _ => true
  | .str _ => true
  | _ => false
noncomputable def eqV : V -> V -> Bool
  | .non, .non => true
  | .bl a, .bl b => a == b
  | .bl a, .int b => (if a then 1 else 0) == b
  | .int a, .bl b => a == (if b then 1 else 0)
  | .int a, .int b => a == b
  | .str a, .str b => a == b
  | _, _ => false
theorem wv4 {A : Around} {s : Shared} {y x : V} {u v : Value} (ry : zg4 y u) (rx : zg4 x v) (fy : zw3 y = true) (fx : zw3 x = true) : SeqAt.EqAt A s u v (eqV y x) := by
  cases y with
  | non =>
    cases ry
    cases x with
    | non => cases rx; exact SeqAt.EqAt.same _
    | bl b => cases rx; exact SeqAt.EqAt.none_bool b
    | int b => obtain ⟨t, rfl⟩ := rx; exact SeqAt.EqAt.none_int b t
    | str b => obtain ⟨t, rfl⟩ := rx; exact SeqAt.EqAt.none_str b t
    | _ => exact absurd (show false = true from fx) Bool.false_ne_true
  | bl a =>
    cases ry
    cases x with
    | non => cases rx; exact SeqAt.EqAt.bool_none a
    | bl b => cases rx; exact SeqAt.EqAt.bool_bool a b
    | int b => obtain ⟨t, rfl⟩ := rx; exact SeqAt.EqAt.bool_int a b t
    | str b => obtain ⟨t, rfl⟩ := rx; exact SeqAt.EqAt.bool_str a b t
    | _ => exact absurd (show false = true from fx) Bool.false_ne_true
  | int a =>
    obtain ⟨t', rfl⟩ := ry
    cases x with
    | non => cases rx; exact SeqAt.EqAt.int_none a t'
    | bl b => cases rx; exact SeqAt.EqAt.int_bool a t' b
    | int b => obtain ⟨t, rfl⟩ := rx; exact SeqAt.EqAt.int_int a t' b t
    | str b => obtain ⟨t, rfl⟩ := rx; exact SeqAt.EqAt.int_str a t' b t
    | _ => exact absurd (show false = true from fx) Bool.false_ne_true
  | str a =>
    obtain ⟨t', rfl⟩ := ry
    cases x with
    | non => cases rx; exact SeqAt.EqAt.str_none a t'
    | bl b => cases rx; exact SeqAt.EqAt.str_bool a t' b
    | int b => obtain ⟨t, rfl⟩ := rx; exact SeqAt.EqAt.str_int a t' b t
    | str b => obtain ⟨t, rfl⟩ := rx; exact SeqAt.EqAt.str_str a t' b t
    | _ => exact absurd (show false = true from fx) Bool.false_ne_true
  | _ => exact absurd (show false = true from fy) Bool.false_ne_true
noncomputable def eqU (x : V) (u : Value) : Bool := match u with
  | .none => eqV .non x
  | .bool b => eqV (.bl b) x
  | .int i _ => eqV (.int i) x
  | .str z _ => eqV (.str z) x
  | _ => false
theorem wc5 {x y : V} {u : Value} (r : zg4 y u) (f : zw3 y = true) : eqU x u = eqV y x := by
  cases y with
  | non => cases r; rfl
  | bl b => cases r; rfl
  | int i => obtain ⟨t, rfl⟩ := r; rfl
  | str z => obtain ⟨t, rfl⟩ := r; rfl
  | _ => exact absurd (show false = true from f) Bool.false_ne_true
theorem xd6 {x : V} : ∀ {xs : List V} {us : List Value}, zd5 xs us -> xs.all zw3 = true -> us.any (eqU x) = xs.any fun y => eqV y x
  | _, _, .nil, _ => rfl
  | y :: xs, u :: us, .cons r t, f => by
    rw [List.all_cons, Bool.and_eq_true] at f
    rw [List.any_cons, List.any_cons, wc5 r f.1, xd6 t f.2]
theorem yw2 {A : Around} {s : Shared} {x : V} {v : Value} (rx : zg4 x v) (fx : zw3 x = true) : ∀ {xs : List V} {us : List Value}, zd5 xs us -> xs.all zw3 = true -> ∀ u ∈ us, SeqAt.EqAt A s u v (eqU x u)
  | _, _, .nil, _ => fun u hu => by cases hu
  | y :: xs, u :: us, .cons r t, f => fun u' hu => by
    rw [List.all_cons, Bool.and_eq_true] at f
    rcases List.mem_cons.mp hu with rfl | hu
    . rw [wc5 r f.1]; exact wv4 r rx f.1 fx
    . exact yw2 rx fx t f.2 u' hu
noncomputable def inV (x : V) (xs : List V) : Bool := xs.any fun y => eqV y x
noncomputable def rIn (K : PySem.W.Frag) (neg : Bool) : R2 := fun x y H Q => ∃ p xs, y = .ref p /\ (SqL K H p xs \/ SqT K H p xs) /\ zw3 x = true /\ xs.all zw3 = true /\ Q (.bl (if neg then !inV x xs else inV x xs)) H
theorem wc6 : OpR X (compareOp .In) (rIn X.K false) := by
  intro pins s σ H x y v u Q I rx ry h
  obtain ⟨p, xs, rfl, hq, fx, fs, q⟩ := h
  cases ry
  rcases hq with hq | hq
  . obtain ⟨its, r, pl, hz⟩ := I.list hq
    refine SeqAt.in_listAt (eqU x) pl.isList (fun w hw => yw2 rx fx r fs w (by simpa using hw)) ⟨.bl _, H, I, rfl, ?_⟩
    rw [show its.toArray.any (eqU x) = its.any (eqU x) by simp, xd6 r fs]
    exact q
  . obtain ⟨its, r, pl, hz⟩ := I.tuple hq
    refine SeqAt.in_tupleAt (eqU x) pl (fun w hw => yw2 rx fx r fs w (by simpa using hw)) ⟨.bl _, H, I, rfl, ?_⟩
    rw [show its.toArray.any (eqU x) = its.any (eqU x) by simp, xd6 r fs]
    exact q
theorem zu1 : zk7 X (.builtin "len") (fun xs H Q => ∃ p ys, xs = [.ref p] /\ (SqL X.K H p ys \/ SqT X.K H p ys) /\ Q (.int ys.length) H) := by
  intro pins s σ H xs us Q I r h
  obtain ⟨p, ys, rfl, hq, q⟩ := h
  obtain ⟨u, rfl, rx⟩ := ye1 r
  cases rx
  have hn := yh0
  rcases hq with hq | hq
  . obtain ⟨its, r', pl, hz⟩ := I.list hq
    have hlen := r'.length
    exact Calls.call_len_list pl.isList (by simp only [List.size_toArray] <;> omega) ⟨.int ys.length, H, I.tok _, ⟨s.toks + 1, by rw [List.size_toArray, hlen]⟩, q⟩
  . obtain ⟨its, r', pl, hz⟩ := I.tuple hq
    have hlen := r'.length
    exact len_tuple pl (by simp only [List.size_toArray] <;> omega) ⟨.int ys.length, H, I.tok _, ⟨s.toks + 1, by rw [List.size_toArray, hlen]⟩, q⟩
theorem xl5 : zk7 X (.builtin "len") (fun xs H Q => ∃ z, xs = [.str z] /\ z.length <= sizeLine /\ Q (.int z.length) H) := by
  intro pins s σ H xs us Q I r h
  obtain ⟨z, rfl, hz, q⟩ := h
  obtain ⟨u, rfl, t, rfl⟩ := ye1 r
  have hn := yh0
  exact len_str (by omega) ⟨.int z.length, H, I.tok _, ⟨_, rfl⟩, q⟩
theorem zk7.or {f : Value} {r r' : List V -> Hp -> VK -> Prop} (h : zk7 X f r) (h' : zk7 X f r') : zk7 X f (fun xs H Q => r xs H Q \/ r' xs H Q) := by
  intro pins s σ H xs us Q I rs q
  rcases q with q | q
  . exact h pins s σ H xs us Q I rs q
  . exact h' pins s σ H xs us Q I rs q
theorem yq7 : zk7 X (.type "list") (fun xs H Q => ∃ p ys, xs = [.ref p] /\ (SqL X.K H p ys \/ SqT X.K H p ys) /\ ∀ l, H l = none -> Q (.ref l) (upd H l (.lst ys))) := by
  intro pins s σ H xs us Q I r h
  obtain ⟨p, ys, rfl, hq, q⟩ := h
  obtain ⟨u, rfl, rx⟩ := ye1 r
  cases rx
  have fin : ∀ (its : List Value), zd5 ys its -> ys.length <= sizeLine -> ∀ (h' : Heap) (c' : Nat), (∀ b o', s.heap.get? b = some o' -> h'.get? b = some o') ->
      h'.get? s.heap.objs.size = some { cls := .type "list", dict := none, data := .seq its.toArray c', slots := #[] } -> EP X pins σ Q (.ref s.heap.objs.size) { s with heap := h' } := fun its r' hz h' c' kp e =>
    ⟨.ref s.heap.objs.size, _, I.laid (t' := s.toks) kp (Nat.le_refl _) (show zm8 X.prog X.w _ h' _ (.lst ys) from ⟨hz, its, c', r', e⟩), rfl, q _ (I.hok.fresh (Nat.le_refl _))⟩
  rcases hq with hq | hq
  . obtain ⟨its, r', pl, hz⟩ := I.list hq
    have hlen := r'.length
    obtain ⟨o, ho, hc, n, hd⟩ := pl.isList
    exact call_list_seq p (.inl rfl) ho hc hd (fun h' c' kp e => fin its r' hz h' c' kp e) (by simp only [List.size_toArray] <;> omega)
  . obtain ⟨its, r', pl, hz⟩ := I.tuple hq
    have hlen := r'.length
    obtain ⟨o, ho, hc, n, hd⟩ := pl
    exact call_list_seq p (.inr rfl) ho hc hd (fun h' c' kp e => fin its r' hz h' c' kp e) (by simp only [List.size_toArray] <;> omega)
theorem yq0 : zk7 X (.type "tuple") (fun xs H Q => ∃ p ys, xs = [.ref p] /\ ((SqL X.K H p ys /\ ∀ l, H l = none -> Q (.ref l) (upd H l (.tup ys))) \/ (SqT X.K H p ys /\ Q (.ref p) H))) := by
  intro pins s σ H xs us Q I r h
  obtain ⟨p, ys, rfl, h⟩ := h
  obtain ⟨u, rfl, rx⟩ := ye1 r
  cases rx
  rcases h with ⟨hq, q⟩ | ⟨hq, q⟩
  . obtain ⟨its, r', pl, hz⟩ := I.list hq
    have hlen := r'.length
    refine call_tuple_list pl.isList (fun h' kp => ?_) (by simp only [List.size_toArray] <;> omega)
    have I1 : Inv X pins σ H { s with heap := h' } := I.kept (t' := s.toks) kp
    have I2 : Inv X pins σ (upd H h'.objs.size (.tup ys)) { s with heap := h'.push { cls := .type "tuple", data := .seq its.toArray } } :=
      I1.laid (t' := s.toks) (fun b o e => Heap.get?_push_of_some _ e) (Nat.le_refl _) (show zm8 X.prog X.w _ _ _ (.tup ys) from ⟨hz, its, r', IsTup.new _ _⟩)
    exact ⟨.ref h'.objs.size, _, I2, rfl, q _ (I1.hok.fresh (Nat.le_refl _))⟩
  . obtain ⟨its, r', pl, hz⟩ := I.tuple hq
    exact call_tuple_same pl ⟨.ref p, H, I, rfl, q⟩
noncomputable def tyV (K : PySem.W.Frag) (T : String) (x : V) (H : Hp) : Prop := match x with
  | .str _ => T = "str"
  | .int _ => T = "int"
  | .ref p => (T = "list" /\ ∃ xs, SqL K H p xs) \/ (T = "tuple" /\ ∃ o, K.lookup p = some o /\ o.cls = .type "tuple" /\ o.dict = none) \/
      (T = "dict" /\ ((∃ kvs, H p = some (.dK kvs)) \/ ∃ kvs, H p = some (.dT kvs))) \/ (T = "set" /\ ∃ S n, H p = some (.set S n))
  | _ => False
theorem yq8 {pins : List (Addr × Obj)} {σ : St} {H : Hp} {s : Shared} {T : String} {x : V} {v : Value} (I : Inv X pins σ H s) (r : zg4 x v) (ty : tyV X.K T x H) :
    s.TypeIs v T /\ ∀ a, v = .ref a -> ∃ ob, s.heap.get? a = some ob /\ ob.dict = none := by
  cases x with
  | str z =>
    obtain ⟨t, rfl⟩ := r
    cases (show T = "str" from ty)
    exact ⟨typeIs_str s z t, fun _ e => nomatch e⟩
  | int i =>
    obtain ⟨t, rfl⟩ := r
    cases (show T = "int" from ty)
    exact ⟨typeIs_int s i t, fun _ e => nomatch e⟩
  | ref p =>
    cases r
    rcases ty with ⟨rfl, xs, hq⟩ | ⟨rfl, o, hk, hc, hd⟩ | ⟨rfl, hk⟩ | ⟨rfl, S, n, hk⟩
    . obtain ⟨its, _, pl, _⟩ := I.list hq
      refine ⟨pl.isList.typeIs, fun a e => ?_⟩
      cases e
      obtain ⟨o, n, e, c, hd, _⟩ := pl
      exact ⟨o, e, hd⟩
    . refine ⟨⟨o, I.kIn p o hk, hc⟩, fun a e => ?_⟩
      cases e
      exact ⟨o, I.kIn _ o hk, hd⟩
    . have z : ∃ o, s.heap.get? p = some o /\ o.ExactDict := by
        rcases hk with ⟨kvs, hk⟩ | ⟨kvs, hk⟩
        . obtain ⟨_, _, _, _, o, _, _, e, ex, _⟩ := I.hok p _ hk
          exact ⟨o, e, ex⟩
        . obtain ⟨_, _, _, _, o, _, _, e, ex, _⟩ := I.hok p _ hk
          exact ⟨o, e, ex⟩
      obtain ⟨o, e, ex⟩ := z
      refine ⟨⟨o, e, ex.1⟩, fun a e2 => ?_⟩
      cases e2
      exact ⟨o, e, ex.2.1⟩
    . obtain ⟨o, _, _, _, e, ex, _⟩ := I.hok p _ hk
      refine ⟨⟨o, e, ex.1⟩, fun a e2 => ?_⟩
      cases e2
      exact ⟨o, e, ex.2.1⟩
  | _ => exact False.elim ty
noncomputable def ke8 (K : PySem.W.Frag) (T : String) (r : V -> List V -> Hp -> VK -> Prop) (to : TE) : TE := fun σ H Q => to σ H fun x H1 => tyV K T x H1 /\ r x [] H1 Q
noncomputable def tBM (K : PySem.W.Frag) (T : String) (r : V -> List V -> Hp -> VK -> Prop) (to : TE) (t : TA) : TE := fun σ H Q => to σ H fun x H1 => tyV K T x H1 /\ t σ H1 fun xs H2 => r x xs H2 Q
variable {o e : Expr} {es : List Expr} {to : TE} {t : TA} {name : Str} {apos cpos : Pos} {T id : String} {r : V -> List V -> Hp -> VK -> Prop}
theorem wv5 (pa : PlainAttrs T) (slot : Slot T name id) (hty : typeOf (.builtin id) = pure (.type "method_descriptor")) (hm : MtR X id r) (ho : PE X o to)
    (hbase : attributeBase o name X.env (eval o X.env) = eval o X.env := by rfl) (hline : (apos.endLine == cpos.line) = true := by rfl) : PE X (.Call (.Attribute o name apos) [] [] cpos) (ke8 X.K T r to) := by
  intro pins s σ H Q I h
  refine wpAny_Call_method0_late hbase hline (thn (ho pins s σ H _ I h) fun v s1 ⟨x, H1, I1, r1, ty, q1⟩ => ?_)
  obtain ⟨h1, h2⟩ := yq8 I1 r1 ty
  exact ⟨T, id, pa, slot, hty, h1, h2, Calls.callWith_builtin rfl (PySem.evalArgs_none (hm pins s1 σ H1 x [] v [] Q I1 r1 .nil q1))⟩
theorem xw2 (pa : PlainAttrs T) (slot : Slot T name id) (hty : typeOf (.builtin id) = pure (.type "method_descriptor")) (hm : MtR X id r) (ho : PE X o to) (ha : PA X (e :: es) t)
    (hbase : attributeBase o name X.env (eval o X.env) = eval o X.env := by rfl)
    (hfew : ((backTo cpos (starEach (e :: es) X.env)).all (fun x => !x.1) && (backToKw cpos (keywordEach [] X.env)).all (fun x => x.1.isSome)
      && decide ((e :: es).length + ([] : List Keyword).length + (if ([] : List Keyword).isEmpty then 0 else 1) < 30)) = true := by rfl)
    (hline : (apos.endLine == cpos.line) = true := by rfl) (hs : starEach (e :: es) X.env = (false, eval e X.env) :: starEach es X.env := by rfl) (hplain : (backTo cpos (starEach es X.env)).any (·.1) = false := by rfl) :
    PE X (.Call (.Attribute o name apos) (e :: es) [] cpos) (tBM X.K T r to t) := by
  intro pins s σ H Q I h
  refine wpAny_Call_method_late hbase hfew hline rfl (thn (ho pins s σ H _ I h) fun v s1 ⟨x, H1, I1, r1, ty, q1⟩ => ?_)
  obtain ⟨h1, h2⟩ := yq8 I1 r1 ty
  refine ⟨T, id, pa, slot, hty, h1, h2, ?_⟩
  have hA := ha cpos pins s1 σ H1 _ I1 q1
  rw [hs] at hA |-
  refine Calls.callWith_builtin (by show (false || (backTo cpos (starEach es X.env)).any (·.1)) = false; rw [hplain] <;> rfl) (Calls.evalArgs_plain ?_)
  exact thn hA fun us s2 ⟨vs, H2, I2, r2, q2⟩ => hm pins s2 σ H2 x vs v us Q I2 r1 r2 q2
end
end L2
namespace L2
open PySem PySem.Spec PyProof.Rows
noncomputable def MtM (X : Cx) (id : String) (r : V -> List V -> Hp -> VK -> Prop) : Prop :=
  ∀ (pins : List (Addr × Obj)) (s : Shared) (σ : St) (H : Hp) (x : V) (xs : List V) (v : Value) (us : List Value) (Q : VK), Inv X pins σ H s -> zg4 x v -> zd5 xs us -> r x xs H Q ->
    wpAny (model X.prog X.w) X.A (call (.builtin id) (v :: us)) (EP X pins σ Q) X.xe s
theorem zd5.one : ∀ {x : V} {us : List Value}, zd5 [x] us -> ∃ u, us = [u] /\ zg4 x u
  | _, _, .cons r .nil => ⟨_, rfl, r⟩
theorem zd5.zero : ∀ {us : List Value}, zd5 [] us -> us = []
  | _, .nil => rfl
theorem zd5.dropLast {xs : List V} {us : List Value} (h : zd5 xs us) : zd5 xs.dropLast us.dropLast := by
  induction h with
  | nil => exact .nil
  | cons r t ih =>
    cases t with
    | nil => exact .nil
    | cons q t' => exact .cons r ih
theorem zd5.eraseIdx : ∀ {xs : List V} {us : List Value} (i : Nat), zd5 xs us -> zd5 (xs.eraseIdx i) (us.eraseIdx i)
  | _, _, _, .nil => .nil
  | _, _, 0, .cons _ t => t
  | _, _, i + 1, .cons r t => .cons r (zd5.eraseIdx i t)
theorem zd5.reverse {xs : List V} {us : List Value} (h : zd5 xs us) : zd5 xs.reverse us.reverse := by
  induction h with
  | nil => exact .nil
  | cons r t ih => rw [List.reverse_cons, List.reverse_cons]; exact zd5.append ih (.cons r .nil)
theorem zd5.rep {xs : List V} {us : List Value} (h : zd5 xs us) : ∀ k : Nat, zd5 (List.replicate k xs).flatten (List.replicate k us).flatten
  | 0 => .nil
  | k + 1 => by
    rw [List.replicate_succ, List.replicate_succ, List.flatten_cons, List.flatten_cons]
    exact zd5.append h (zd5.rep h k)
theorem xw3 {α : Type} (l : List α) : l.eraseIdx (l.length - 1) = l.dropLast := by
  induction l with
  | nil => rfl
  | cons a r ih =>
    cases r with
    | nil => rfl
    | cons b r =>
      have e : (a :: b :: r).length - 1 = ((b :: r).length - 1) + 1 := by
        have h1 : (a :: b :: r).length = r.length + 2 := rfl
        have h2 : (b :: r).length = r.length + 1 := rfl
        omega
      rw [e, List.eraseIdx_cons_succ, ih]
      all_goals rfl
theorem xg9 {α : Type} : ∀ (l : List α) (i : Nat), (l.eraseIdx i).length <= l.length
  | [], _ => Nat.le_refl _
  | _ :: _, 0 => Nat.le_succ _
  | _ :: r, i + 1 => Nat.succ_le_succ (xg9 r i)
section
variable {X : Cx} {pins : List (Addr × Obj)} {σ : St} {H : Hp} {s : Shared} {l b : Addr} {xs ys zs : List V}
theorem Inv.lset {its its' : List Value} {n : Nat} {f : Array Value -> Array Value} {t' : Nat} (I : Inv X pins σ H s) (hH : H l = some (.lst xs))
    (e : s.heap.get? l = some { cls := .type "list", data := .seq its.toArray n }) (hf : f its.toArray = its'.toArray) (hv : zd5 ys its') (hz : ys.length <= sizeLine) :
    Inv X pins σ (upd H l (.lst ys)) { s with heap := s.heap.update l (Obj.mapSeq f), toks := t' } := by
  have q := PySem.IsL.update e f
  rw [hf] at q
  refine I.write (x := l) (e := l) (by rw [hH]; exact trivial) (.inl rfl) (fun b' u hb hu => (Heap.get?_update_other s.heap (Obj.mapSeq f) (Ne.symm hb)).trans hu) ⟨_, q⟩ ?_
  exact ⟨hz, its', _, hv, q⟩
theorem Inv.lnew {its : List Value} {t' : Nat} (I : Inv X pins σ H s) (hv : zd5 ys its) (hz : ys.length <= sizeLine) :
    Inv X pins σ (upd H s.heap.objs.size (.lst ys)) { s with heap := s.heap.push { cls := .type "list", data := .seq its.toArray }, toks := t' } :=
  I.laid (fun _ _ q => Heap.get?_push_of_some _ q) (Nat.le_refl _) ⟨hz, its, 0, hv, Heap.get?_push_size _ rfl⟩
theorem Inv.fresh (I : Inv X pins σ H s) : H s.heap.objs.size = none := I.hok.fresh (Nat.le_refl _)
theorem Inv.lstM (I : Inv X pins σ H s) (hH : H l = some (.lst xs)) : xs.length <= sizeLine /\ ∃ (its : List Value) (n : Nat), zd5 xs its /\ xs.length = its.length /\ s.heap.get? l = some { cls := .type "list", data := .seq its.toArray n } := by
  obtain ⟨z, its, n, r, e⟩ := I.hok l _ hH
  exact ⟨z, its, n, r, r.length, e⟩
end
section
variable {X : Cx}
noncomputable def wt3 : V -> List V -> Hp -> VK -> Prop := fun x vs H Q => ∃ l xs y, x = .ref l /\ vs = [y] /\ H l = some (.lst xs) /\ xs.length < sizeLine /\ Q .non (upd H l (.lst (xs ++ [y])))
theorem xh0 : MtM X "list.append" wt3 := by
  intro pins s σ H x vs v us Q I rx rv h
  obtain ⟨l, xs, y, rfl, rfl, hH, hz, q⟩ := h
  cases rx
  obtain ⟨u, rfl, ru⟩ := rv.one
  obtain ⟨z, its, n, r, hl, e⟩ := I.lstM hH
  refine call_meets F.slot_list_append ⟨_, e, rfl⟩ F.entry_list_append (F.args_list_append_2 _ _) (PySem.list_append l its.toArray n u (by rw [List.size_toArray]; omega)) ⟨e, ?_⟩
  refine ⟨.non, _, I.lset (its' := its ++ [u]) hH e (by simp) (r.append (.cons ru .nil)) ?_, rfl, q⟩
  rw [List.length_append, List.length_singleton]
  omega
noncomputable def ke9 : V -> List V -> Hp -> VK -> Prop := fun x vs H Q => ∃ l xs y, x = .ref l /\ vs = [] /\ H l = some (.lst xs) /\ xs[xs.length - 1]? = some y /\ Q y (upd H l (.lst xs.dropLast))
theorem wv6 : MtM X "list.pop" ke9 := by
  intro pins s σ H x vs v us Q I rx rv h
  obtain ⟨l, xs, y, rfl, rfl, hH, hy, q⟩ := h
  cases rx
  have hus := rv.zero
  subst hus
  obtain ⟨z, its, n, r, hl, e⟩ := I.lstM hH
  obtain ⟨u, hu, ru⟩ := r.get hy
  have hy' : its.toArray[its.toArray.size - 1]? = some u := by
    show its.toArray[its.length - 1]? = some u
    rw [<- Array.getElem?_toList, <- hl]
    exact hu
  refine call_meets F.slot_list_pop ⟨_, e, rfl⟩ F.entry_list_pop (F.args_list_pop_1 _) (MeetsSeq.list_pop_last l its.toArray n u hy' (by rw [List.size_toArray]; omega)) ⟨e, ?_⟩
  refine ⟨y, _, I.lset (its' := its.dropLast) hH e ?_ r.dropLast ?_, ru, q⟩
  . show its.toArray.eraseIdxIfInBounds (its.toArray.size - 1) = its.dropLast.toArray
    rw [List.size_toArray, List.eraseIdxIfInBounds_toArray, xw3]
  . rw [List.length_dropLast]
    omega
noncomputable def wz1 : V -> List V -> Hp -> VK -> Prop := fun x vs H Q => ∃ l xs i k y, x = .ref l /\ vs = [.int i] /\ H l = some (.lst xs) /\ -(2 ^ 63) <= i /\ i < 2 ^ 63 /\ seqIndex? i xs.length = some k /\ xs[k]? = some y /\ Q y (upd H l (.lst (xs.eraseIdx k)))
theorem wj2 : MtM X "list.pop" wz1 := by
  intro pins s σ H x vs v us Q I rx rv h
  obtain ⟨l, xs, i, k, y, rfl, rfl, hH, h1, h2, hk, hy, q⟩ := h
  cases rx
  obtain ⟨u, rfl, ru⟩ := rv.one
  obtain ⟨t, rfl⟩ := ru
  obtain ⟨z, its, n, r, hl, e⟩ := I.lstM hH
  obtain ⟨w, hw, rw'⟩ := r.get hy
  refine call_meets F.slot_list_pop ⟨_, e, rfl⟩ F.entry_list_pop (F.args_list_pop_2 _ _)
    (MeetsSeq.list_pop_at l its.toArray n i t k w (fitsIndex_both h1 h2) (by rw [List.size_toArray, <- hl]; exact hk) (by rw [<- Array.getElem?_toList]; exact hw) (by rw [List.size_toArray]; omega)) ⟨e, ?_⟩
  refine ⟨y, _, I.lset (its' := its.eraseIdx k) hH e ?_ (r.eraseIdx k) ?_, rw', q⟩
  . show its.toArray.eraseIdxIfInBounds k = (its.eraseIdx k).toArray
    rw [List.eraseIdxIfInBounds_toArray]
  . have := xg9 xs k
    omega
end
end L2
namespace Att
open PySem PySem.W PySem.Calls PyProof.Rows
theorem yy9 {P : Params} {h : Heap} : ∀ (ns : List Int) (vs : List Value), WellAll P h vs (ns.map WData.int) -> IntsAre vs ns := by
  intro ns
  induction ns with
  | nil =>
    intro vs w
    rw [List.map_nil] at w
    cases w
    exact .nil
  | cons n ns ih =>
    intro vs w
    rw [List.map_cons] at w
    cases w with
    | cons a b =>
      cases a
      exact .cons _ _ (ih _ b)
theorem wc7 {l : OpenLaw} {n : Nat} (hn : l.most = some n) {P : Params} {h : Heap} {args : List WData} {vals : List Value}
    (hpre : l.row.toRowW.claim.pre args = true) (hwl : WellAll P h vals args) :
    ∃ a vs ns, vals = [Value.ref a] /\ args = [WData.list (ns.map WData.int)] /\ h.get? a = some { cls := .type "list", data := .seq vs.toArray } /\ IntsAre vs ns /\ ns.length <= n := by
  have hsh : WShape.hasAll [] args [.list .int] = true := (pre_splitW hpre).1
  have hc : l.pre.holds [] { args := args } = true := (pre_splitW hpre).2
  obtain ⟨d, r, rfl, h1, h2⟩ := hasAllW_cons hsh
  obtain rfl := hasAllW_nil h2
  obtain ⟨xs, rfl, h3⟩ := hasW_list h1
  obtain ⟨ns, rfl⟩ := items_int h3
  have hlen : ns.length <= n := by
    unfold OpenLaw.pre at hc
    have h4 : (WTm.not (.lt (.lit (.int (n : Int))) (.len (.arg 0)))).holds [] { args := [.list (ns.map .int)] } = true := by
      have h4 := (holds_andW hc).1
      rw [hn] at h4
      exact h4
    have h5 := condW_of h4 (w_not (w_lt w_lit (w_len_list (w_arg rfl))))
    rw [List.length_map] at h5
    refine Nat.le_of_not_lt fun q => ?_
    have q' : (n : Int) < ((ns.length : Nat) : Int) := by omega
    first
      | (rw [decide_eq_true q'] at h5; exact absurd h5 (by decide))
      | (simp at h5; omega)
  cases hwl with
  | cons w1 w2 =>
    cases w2
    cases w1 with
    | list ho hall => exact ⟨_, _, ns, rfl, rfl, ho, yy9 ns _ hall, hlen⟩
theorem wc8 (l : OpenLaw) (args : List WData) : l.row.toRowW.claim.post args (.bool true) args = true :=
  postW_of (r := l.row.toRowW) (X := (true == true))
    (show WShape.has [] (.bool true) .bool = true by first | rfl | decide | simp [WShape.has, WShape.arms, WShape.armsAll])
    (show (WTm.eq .res (.lit (.bool true))).value [] { args := args, res := some (.bool true), after := args } = some (.bool (true == true)) from w_eq_bool (w_res rfl) w_lit) rfl
theorem attach_call {l : OpenLaw} {n : Nat} {q : Program} {loose : List Str} {XP : (Str -> Option Value) -> Heap -> Prop} {YP : World -> Heap -> Prop} {d : DefRec}
    (hn : l.most = some n) (hdf : d.params.defaults = [])
    (call : ∀ (w : World) (s₀ s₁ : Shared) (mg mb : Str -> Option Value) (fa : Addr) (o : Obj) (pm cd doc : Value) (a : Addr) (vs : List Value) (ns : List Int),
      Ground q loose [] XP w s₀ mg mb s₁.heap -> YP w s₁.heap ->
      s₁.heap.get? fa = some o -> o.data = .func (docDef d.name d.params d.body d.scope pm cd doc) -> s₁.heap.CodeRec cd d.name -> mg d.name = some (.ref fa) ->
      s₁.heap.get? a = some { cls := .type "list", data := .seq vs.toArray } -> IntsAre vs ns -> ns.length <= n -> s₁.gens = #[] ->
      codeAny (model l.prog w) callerA (.call (.ref fa) ⟨[.ref a], []⟩) (fun r s' => r = .ok (.ret (.bool true)) /\ OldK s₁.heap s'.heap /\ s'.os = s₁.os /\ AllBare s'.gens) s₁) :
    WalkO q loose XP YP l.row.toRowW d [] (fun f vs => PySem.call f vs) := by
  intro w s₀ s₁ mg mb G Y fa o pm cd doc dV kV ho hd hcd hD hmg hg args vals as hpre hlay hrd hwl hlo
  obtain rfl : dV = .none := Dflts.none hD hdf
  obtain rfl : kV = .none := Dflts.noKw hD
  obtain ⟨a, vs, ns, rfl, rfl, hobj, hints, hlen⟩ := wc7 hn hpre hwl
  refine enter_call (codeAny_mono (call w s₀ s₁ mg mb fa o pm cd doc a vs ns G Y ho (fd_plain hd) hcd hmg hobj hints hlen hg) fun r s' hq => ?_)
  obtain ⟨rfl, h2, h3, h4⟩ := hq
  exact ⟨.inl ⟨.bool true, .bool true, [], rfl, fun _ => rfl, .bool true, wc8 l _, fun _ => ⟨List.Pairwise.nil, fun _ hm => (nomatch hm)⟩⟩, h2, h3, h4⟩
end Att
namespace L2
open PySem PySem.Spec PyProof.Rows
theorem xh1 : ∀ {vs : List Value} {ns : List Int}, IntsAre vs ns -> zd5 (ns.map V.int) vs
  | _, _, .nil => .nil
  | _, _, .cons n t h => .cons ⟨t, rfl⟩ (xh1 h)
noncomputable def wn8 (H : Hp) : Prop := ∀ b, H b = none \/ ∃ o xs, H b = some (.frz o (.lst xs))
theorem wj3 {P : Program} {w : World} {K : PySem.W.Frag} {mg mb : Str -> Option Value} {CX : CXT} {k : Nat} {fa a : Addr} {fd : FuncData} {x : Str} {sp : Sp} {s₁ : Shared} {vs : List Value} {ns : List Int}
    (KX : K.In s₁.heap) (hns : s₁.heap.Ns mainGlobals mg) (hb : s₁.heap.Ns builtinsNs mb) (hbb : ∀ x : Str, x ≠ "__name__" -> mb x = bootBuiltins x) (hlim : s₁.heap.NoLimit) (hg : s₁.gens = #[])
    (ha : s₁.heap.get? a = some { cls := .type "list", data := .seq vs.toArray }) (hi : IntsAre vs ns) (hl : ns.length <= sizeLine) (hr : Room k callerA)
    (F : ∀ base : Heap, K.In base -> base.Ns mainGlobals mg -> FnOk P w K mg base CX k fa fd [x] sp) (hbind : ∀ (s : Shared) (u : Value), BindsTo s fd ⟨[u], []⟩ [(x, u)])
    (hsp : ∀ H : Hp, wn8 H -> SqL K H a (ns.map V.int) -> sp [.ref a] H (fun v _ => v = .bl true) fun _ _ _ => False)
    (hCX : ∀ H e s', CX [] H s₁ (fun _ _ _ => False) e s' -> False) :
    codeAny (model P w) callerA (.call (.ref fa) ⟨[.ref a], []⟩) (fun r s' => r = .ok (.ret (.bool true)) /\ OldK s₁.heap s'.heap /\ s'.os = s₁.os /\ AllBare s'.gens) s₁ := by
  have rv := xh1 hi
  have lenV := hi.length
  have core : ∀ H : Hp, wn8 H -> SqL K H a (ns.map V.int) -> HOk P w H s₁.heap -> (∀ b, H b ≠ none -> b = a) -> (H a ≠ none -> K.lookup a = none) ->
      codeAny (model P w) callerA (.call (.ref fa) ⟨[.ref a], []⟩) (fun r s' => r = .ok (.ret (.bool true)) /\ OldK s₁.heap s'.heap /\ s'.os = s₁.os /\ AllBare s'.gens) s₁ := by
    intro H hO hS hok hA hK
    have base_of : ∀ {b : Addr} {o : Obj}, s₁.heap.get? b = some o -> H b = none -> (yo7 s₁.heap H).get? b = some o := fun e n => wi1 e n
    have noA : ∀ {b : Addr} {o : Obj} {es : Array DictEntry} {ep : Nat}, s₁.heap.get? b = some o -> o.data = .dict es ep -> H b = none := fun {b o es ep} e d => by
      cases q : H b with
      | none => rfl
      | some u =>
        have e' : b = a := hA b (by rw [q]; simp)
        subst e'
        rw [ha] at e; cases e
        have d' : Data.seq vs.toArray _ = Data.dict es ep := d
        cases d'
    have nsK : ∀ {b : Addr} {m : Str -> Option Value}, s₁.heap.Ns b m -> (yo7 s₁.heap H).Ns b m := fun {b m} ⟨o, es, ep, e, d, r⟩ => ⟨o, es, ep, base_of e (noA e d), d, r⟩
    have hKb : K.In (yo7 s₁.heap H) := fun b o e => base_of (KX b o e) (by
      cases q : H b with
      | none => rfl
      | some u =>
        have e' : b = a := hA b (by rw [q]; simp)
        subst e'
        rw [hK (by rw [q]; simp)] at e; cases e)
    have hM : Mod K mg (yo7 s₁.heap H) := ⟨hKb, nsK hns, ⟨mb, nsK hb, hbb⟩, let ⟨mc, h1, h2⟩ := hlim; ⟨mc, nsK h1, h2⟩⟩
    have e0 : Env0 P w K mg (yo7 s₁.heap H) callerA [] s₁ H := ⟨rfl, hM, fun b o e => wp4 e, Nat.le_of_eq (wa5 _ _), trivial, fun b hb => absurd (show b ∈ ([] : List Addr) from hb) (by simp), hok, .of_eq hg⟩
    refine codeAny_mono ((F _ hKb (nsK hns)).run callerA [] s₁ H ⟨[.ref a], []⟩ [.ref a] [.ref a] _ _ hr e0 (hbind s₁ (.ref a)) (.cons rfl .nil) (hsp H hO hS)) fun r s' h => ?_
    cases r with
    | error e => exact (hCX H e s' h).elim
    | ok fl =>
      cases fl with
      | next => exact False.elim h
      | brk => exact False.elim h
      | cont => exact False.elim h
      | ret u =>
        obtain ⟨v, H', os, bare, un, hok', r', q⟩ := h
        have q' : v = .bl true := q
        subst q'
        obtain rfl : u = Value.bool true := r'
        refine ⟨rfl, OldK.of_keep fun b o e => ?_, os, bare⟩
        cases q : H b with
        | none => exact un.keep b o e q (by intro z; exact absurd (show b ∈ ([] : List Addr) from z) (by simp)) (by simp)
        | some u =>
          rcases hO b with z | ⟨ob, xs, z⟩
          . rw [q] at z; cases z
          . have z2 := un.frzs b ob _ z
            obtain ⟨e1, _⟩ := hok b _ z
            obtain ⟨e2, _⟩ := hok' b _ z2
            rw [e] at e1; cases e1
            exact e2
  cases hk : K.lookup a with
  | some o =>
    have e := KX a o hk
    rw [ha] at e
    cases e
    refine core (fun _ => none) (fun _ => .inl rfl) (.inr ⟨_, vs.toArray, _, hk, rfl, rfl, rfl, by rw [List.size_toArray, lenV]; exact hl, by simpa using rv⟩) (fun b u z => by have z' : (none : Option HO) = some u := z; cases z') (fun b z => absurd rfl z) fun z => absurd rfl z
  | none =>
    refine core (fun b => if b = a then some (.frz { cls := .type "list", data := .seq vs.toArray } (.lst (ns.map V.int))) else none) (fun b => ?_) (.inl (.inr ⟨{ cls := .type "list", data := .seq vs.toArray }, if_pos rfl⟩)) (fun b u z => ?_) (fun b z => ?_) fun _ => hk
    . by_cases hb : b = a
      . exact .inr ⟨_, _, if_pos hb⟩
      . exact .inl (if_neg hb)
    . by_cases hb : b = a
      . have z' := (if_pos hb).symm.trans z
        cases z'
        subst hb
        exact ⟨ha, by rw [List.length_map]; exact hl, vs, _, rv, ha⟩
      . have z' := (if_neg hb).symm.trans z
        cases z'
    . by_cases hb : b = a
      . exact hb
      . exact absurd (if_neg hb) z
end L2
namespace L2
open PySem PySem.Spec PyProof.Rows
theorem wq3 {l : PySem.W.OpenLaw} {n k : Nat} {q : Program} {loose : List Str} {XP : (Str -> Option Value) -> Heap -> Prop} {YP : World -> Heap -> Prop} {d : DefRec} {K : Params -> PySem.W.Frag} {CX : World -> CXT} {sp : World -> Sp} {x : Str}
    (hn : l.most = some n) (hn2 : n <= sizeLine) (hdf : d.params.defaults = []) (hr : Room k callerA)
    (hY : ∀ (w : World) (h : Heap), YP w h -> (K w.params).In h)
    (F : ∀ (w : World) (mg : Str -> Option Value) (fa : Addr) (h : Heap), (K w.params).In h -> h.Ns mainGlobals mg -> mg d.name = some (.ref fa) ->
      ∃ fd : FuncData, (∀ (s : Shared) (u : Value), BindsTo s fd ⟨[u], []⟩ [(x, u)]) /\
        ∀ base : Heap, (K w.params).In base -> base.Ns mainGlobals mg -> FnOk l.prog w (K w.params) mg base (CX w) k fa fd [x] (sp w))
    (hsp : ∀ (w : World) (H : Hp) (a : Addr) (ns : List Int), ns.length <= n -> wn8 H -> SqL (K w.params) H a (ns.map V.int) -> sp w [.ref a] H (fun v _ => v = .bl true) fun _ _ _ => False)
    (hCX : ∀ (w : World) (H : Hp) (s : Shared) (e : Value) (s' : Shared), CX w [] H s (fun _ _ _ => False) e s' -> False) :
    PySem.W.WalkO q loose XP YP l.row.toRowW d [] (fun f vs => PySem.call f vs) := by
  refine Att.attach_call hn hdf fun w s₀ s₁ mg mb fa o pm cd doc a vs ns G Y ho hd hcd hmg hobj hints hlen hg => ?_
  have KX := hY w _ Y
  obtain ⟨fd, hb, hF⟩ := F w mg fa _ KX G.T.g hmg
  exact wj3 KX G.T.g G.T.b G.T.builtins G.T.nolimit hg hobj hints (Nat.le_trans hlen hn2) hr hF hb (fun H hO hS => hsp w H a ns hlen hO hS) fun H e s' => hCX w H s₁ e s'
end L2
namespace L2
open PySem PySem.Spec PyProof.Rows
noncomputable def yd5 (s : Stmt) (j : Nat) : Stmt := match s with
  | .ClassDef _ _ _ body _ _ _ _ _ _ _ => body.getD j (.Pass ⟨0, 0, 0, 0⟩)
  | _ => .Pass ⟨0, 0, 0, 0⟩
noncomputable def zg2 (s : Stmt) : Arguments := match s with
  | .FunctionDef _ a _ _ _ _ _ _ _ _ => a
  | _ => { posonlyargs := [], args := [], vararg := none, kwonlyargs := [], kw_defaults := [], kwarg := none, defaults := [] }
noncomputable def zf2 (s : Stmt) : List Stmt := match s with
  | .FunctionDef _ _ b _ _ _ _ _ _ _ => b
  | _ => []
noncomputable def zb1 (s : Stmt) : Scope := match s with
  | .FunctionDef _ _ _ _ _ _ sc _ _ _ => sc
  | _ => { kind := .function, names := [], isGenerator := false, isCoroutine := false }
noncomputable abbrev CX0 : CXT := fun _ _ _ _ _ _ => False
noncomputable abbrev E0 : XK := fun _ _ _ => False
theorem yz0 {X : Cx} : yf1 CX0 X E0 := fun _ _ _ _ _ _ _ h => h.elim
structure Fun (K : PySem.W.Frag) (x qual : Str) (st : Stmt) (f : Addr) (fd : FuncData) : Prop where
  ex : ∃ (oc : Value) (od : Option Addr) (kV doc pm : Value) (an : Option Addr) (cdv ct : Value) (osl : Array (Option Value)),
    fd = PySem.W.fnOf x qual (zg2 st) (zf2 st) (zb1 st) .none kV doc pm an cdv ct /\ K.lookup f = some ⟨oc, od, .func fd, osl⟩ /\ PySem.W.codeIn K cdv qual = true
  kp : PySem.W.keepIn K (.ref f) = true
section
variable {P : Program} {w : World} {K : PySem.W.Frag} {mg : Str -> Option Value} {base : Heap}
theorem Fun.ok {x qual : Str} {st : Stmt} {f : Addr} {fd : FuncData} {N ps : List Str} {k : Nat} {sp : Sp} (F : Fun K x qual st f fd) (S : FnScope N ps (zb1 st)) (len : ∀ vs H Q E, sp vs H Q E -> vs.length = ps.length)
    (hbody : ∀ (cdv : Value) (A : Around) (outer : List Env) (s : Shared) (H : Hp) (vs : List V) (Q : VK) (E : XK), Room k (A.deeper (envOfC qual (zb1 st) s.heap.objs.size f cdv)) -> sp vs H Q E ->
      ∃ t, PSs (yk3 CX0 P w K mg base N qual (zb1 st) f cdv A outer s H E).nox (zf2 st) t /\ t { nx := fun _ H' => Q .non H', rt := Q } (start N vs) H) : FnOk P w K mg base CX0 (k + 1) f fd ps sp := by
  obtain ⟨oc, od, kV, doc, pm, an, cdv, ct, osl, rfl, lk, hcd⟩ := F.ex
  refine ka4 lk hcd S len fun A outer s H vs Q E hr hsp => ?_
  obtain ⟨t, h, q⟩ := hbody cdv A outer s H vs Q E hr hsp
  exact ⟨t, h.nox, q⟩
theorem Fun.binds {x qual : Str} {st : Stmt} {f : Addr} {fd : FuncData} {ps : List Str} (F : Fun K x qual st f fd)
    (h : ∀ (kV doc pm : Value) (an : Option Addr) (cdv ct : Value) (us : List Value), us.length = ps.length -> bindArgs (PySem.W.fnOf x qual (zg2 st) (zf2 st) (zb1 st) .none kV doc pm an cdv ct) ⟨us, []⟩ = pure (ps.zip us)) : zz0 K fd ps [] := by
  obtain ⟨oc, od, kV, doc, pm, an, cdv, ct, osl, rfl, lk, hcd⟩ := F.ex
  exact .all (h kV doc pm an cdv ct)
theorem zq4 {x qual : Str} {st : Stmt} {f : Addr} {oc : Value} {od an : Option Addr} {osl : Array (Option Value)} {kV doc pm cdv ct : Value} (l : K.lookup f = some ⟨oc, od, .func (PySem.W.fnOf x qual (zg2 st) (zf2 st) (zb1 st) .none kV doc pm an cdv ct), osl⟩)
    (c : PySem.W.codeIn K cdv qual = true) (k : PySem.W.keepIn K (.ref f) = true) : Fun K x qual st f (PySem.W.fnOf x qual (zg2 st) (zf2 st) (zb1 st) .none kV doc pm an cdv ct) := ⟨⟨oc, od, kV, doc, pm, an, cdv, ct, osl, rfl, l, c⟩, k⟩
end
theorem xh2 {n : Nat} (h : n <= 1000) : n < sizeLine := Nat.lt_of_le_of_lt h (by decide)
section
variable {X : Cx}
theorem pv (i : Nat) {x : Str} {pos : Pos} (hN : X.N[i]? = some x := by rfl) (hv : Vis X.env.scope x := by first | exact Or.inl rfl | exact Or.inr (Or.inl rfl) | exact Or.inr (Or.inr rfl)) (hd : (x == ("__debug__" : Str)) = false := by decide)
    (hcd : (x == ("__classdict__" : Str)) = false := by decide) : PE X (.Name x pos) (wy1 i) := yk7 hN hv hd hcd
end
theorem kc2 {c A B : Prop} [Decidable c] (h1 : c -> A) (h2 : ¬ c -> B) : if c then A else B := by
  by_cases h : c
  . rw [if_pos h]
    exact h1 h
  . rw [if_neg h]
    exact h2 h
noncomputable def zx3 (H H' : Hp) : Prop := ∀ b o, H b = some o -> H' b = some o
theorem zx3.refl (H : Hp) : zx3 H H := fun _ _ h => h
theorem zx3.trans {H H1 H2 : Hp} (a : zx3 H H1) (b : zx3 H1 H2) : zx3 H H2 := fun c o h => b c o (a c o h)
theorem zx3.free {H H' : Hp} (e : zx3 H H') {l : Addr} (h : H' l = Option.none) : H l = Option.none := by
  cases q : H l with
  | none => rfl
  | some o =>
    rw [e l o q] at h
    cases h
theorem zx3.seq {K : PySem.W.Frag} {H H' : Hp} {a : Addr} {xs : List V} (e : zx3 H H') (h : SqL K H a xs) : SqL K H' a xs := by
  rcases h with (h | ⟨o, h⟩) | h
  . exact .inl (.inl (e _ _ h))
  . exact .inl (.inr ⟨o, e _ _ h⟩)
  . exact .inr h
end L2
namespace L2
open PySem PySem.Spec PyProof.Rows
section
variable {κ : Type} [DecidableEq κ]
noncomputable def yf6 (kvs : List (κ × V)) (k : κ) : Option V := (kvs.find? fun kv => decide (kv.1 = k)).map (·.2)
noncomputable def ys4 (kvs : List (κ × V)) (k : κ) (v : V) : List (κ × V) :=
  if (kvs.any fun kv => decide (kv.1 = k)) = true then kvs.map (fun kv => if kv.1 = k then (kv.1, v) else kv) else kvs ++ [(k, v)]
noncomputable def wp0 (kvs : List (κ × V)) (k : κ) : List (κ × V) := kvs.filter fun kv => decide (kv.1 ≠ k)
theorem yw3 {p : κ × V} {r : List (κ × V)} {k : κ} (e : p.1 = k) : yf6 (p :: r) k = some p.2 := by simp [yf6, List.find?_cons, e]
theorem yw4 {p : κ × V} {r : List (κ × V)} {k : κ} (e : ¬ p.1 = k) : yf6 (p :: r) k = yf6 r k := by simp [yf6, List.find?_cons, e]
theorem xl6 (k : κ) : ∀ kvs : List (κ × V), (kvs.any fun kv => decide (kv.1 = k)) = (yf6 kvs k).isSome
  | [] => rfl
  | p :: r => by
    rw [List.any_cons]
    by_cases e : p.1 = k
    . simp only [yw3 e, decide_eq_true e, Bool.true_or, Option.isSome_some]
    . rw [yw4 e, decide_eq_false e, Bool.false_or]; exact xl6 k r
theorem zv8.isSome_eq {o : Option V} {u : Option Value} (r : zv8 o u) : o.isSome = u.isSome := by
  cases o with
  | none => cases u with
    | none => rfl
    | some _ => exact (show False from r).elim
  | some _ => cases u with
    | none => exact (show False from r).elim
    | some _ => rfl
theorem zv8.getD {o : Option V} {u : Option Value} {d : V} {d' : Value} (r : zv8 o u) (rd : zg4 d d') : zg4 (o.getD d) (u.getD d') := by
  cases o with
  | none => cases u with
    | none => exact rd
    | some _ => exact (show False from r).elim
  | some _ => cases u with
    | none => exact (show False from r).elim
    | some _ => exact r
theorem KV.val {kvs : List (κ × V)} {vs : List (κ × Value)} (r : KV kvs vs) (k : κ) : zv8 (yf6 kvs k) (valueAt vs k) := by
  unfold KV at r
  induction r with
  | nil => exact True.intro
  | @cons p q ps qs h t ih =>
    obtain ⟨h1, h2⟩ := h
    by_cases e : p.1 = k
    . have e' : q.1 = k := h1.symm.trans e
      have b : valueAt (q :: qs) k = some q.2 := by simp [valueAt, List.find?_cons, e']
      rw [yw3 e, b]; exact h2
    . have e' : ¬ q.1 = k := fun z => e (h1.trans z)
      have b : valueAt (q :: qs) k = valueAt qs k := by simp [valueAt, List.find?_cons, e']
      rw [yw4 e, b]; exact ih
theorem KV.any {kvs : List (κ × V)} {vs : List (κ × Value)} (r : KV kvs vs) (k : κ) : (kvs.any fun kv => decide (kv.1 = k)) = vs.any fun kv => decide (kv.1 = k) := by
  unfold KV at r
  induction r with
  | nil => rfl
  | cons h t ih => rw [List.any_cons, List.any_cons, ih, h.1]
theorem KV.repl {kvs : List (κ × V)} {vs : List (κ × Value)} (r : KV kvs vs) (k : κ) {y : V} {u : Value} (ry : zg4 y u) :
    KV (kvs.map fun kv => if kv.1 = k then (kv.1, y) else kv) (vs.map fun kv => if kv.1 = k then (kv.1, u) else kv) := by
  unfold KV at r |-
  induction r with
  | nil => exact .nil
  | @cons p q ps qs h t ih =>
    rw [List.map_cons, List.map_cons]
    refine .cons ?_ ih
    obtain ⟨h1, h2⟩ := h
    by_cases e : p.1 = k
    . rw [if_pos e, if_pos (h1.symm.trans e)]; exact ⟨h1, ry⟩
    . rw [if_neg e, if_neg (fun z => e (h1.trans z))]; exact ⟨h1, h2⟩
theorem KV.put {kvs : List (κ × V)} {vs : List (κ × Value)} (r : KV kvs vs) (k : κ) {y : V} {u : Value} (ry : zg4 y u) : KV (ys4 kvs k y) (stored vs k u) := by
  unfold ys4 stored
  rw [r.any k]
  by_cases e : (vs.any fun kv => decide (kv.1 = k)) = true
  . rw [if_pos e, if_pos e]; exact r.repl k ry
  . rw [if_neg e, if_neg e]; exact Paired.snoc r ⟨rfl, ry⟩
theorem KV.drop {kvs : List (κ × V)} {vs : List (κ × Value)} (r : KV kvs vs) (k : κ) : KV (wp0 kvs k) (without vs k) := by
  unfold KV at r |-
  unfold wp0 without
  induction r with
  | nil => exact .nil
  | @cons p q ps qs h t ih =>
    obtain ⟨h1, h2⟩ := h
    rw [List.filter_cons, List.filter_cons]
    by_cases e : p.1 = k
    . have a : ¬ decide (p.1 ≠ k) = true := by simp [e]
      have b : ¬ decide (q.1 ≠ k) = true := by simp [h1.symm.trans e]
      rw [if_neg a, if_neg b]; exact ih
    . have e' : ¬ q.1 = k := fun z => e (h1.trans z)
      have a : decide (p.1 ≠ k) = true := by simp [e]
      have b : decide (q.1 ≠ k) = true := by simp [e']
      rw [if_pos a, if_pos b]; exact .cons ⟨h1, h2⟩ ih
theorem KV.length {kvs : List (κ × V)} {vs : List (κ × Value)} (r : KV kvs vs) : kvs.length = vs.length := Paired.length r
end
noncomputable abbrev KT (H : Hp) : List (List Key × V) -> List (List Key × Addr × Value) -> Prop := Paired fun p q => p.1 = q.1 /\ H q.2.1 = some (.tup (p.1.map kV)) /\ zg4 p.2 q.2.2
theorem KT.val {H : Hp} {kvs : List (List Key × V)} {xs : List (List Key × Addr × Value)} (r : KT H kvs xs) (k : List Key) : zv8 (yf6 kvs k) ((atKey xs k).map (·.2)) := by
  induction r with
  | nil => exact True.intro
  | @cons p q ps qs h t ih =>
    obtain ⟨h1, _, h2⟩ := h
    by_cases e : p.1 = k
    . have e' : q.1 = k := h1.symm.trans e
      have b : atKey (q :: qs) k = some q.2 := by simp [atKey, List.find?_cons, e']
      rw [yw3 e, b]; exact h2
    . have e' : ¬ q.1 = k := fun z => e (h1.trans z)
      have b : atKey (q :: qs) k = atKey qs k := by simp [atKey, List.find?_cons, e']
      rw [yw4 e, b]; exact ih
theorem KT.repl {H : Hp} {kvs : List (List Key × V)} {xs : List (List Key × Addr × Value)} (r : KT H kvs xs) (k : List Key) {y : V} {u : Value} (ry : zg4 y u) :
    KT H (kvs.map fun kv => if kv.1 = k then (kv.1, y) else kv) (xs.map (putAt k u)) := by
  induction r with
  | nil => exact .nil
  | @cons p q ps qs h t ih =>
    rw [List.map_cons, List.map_cons]
    refine .cons ?_ ih
    obtain ⟨h1, h2, h3⟩ := h
    unfold putAt
    by_cases e : p.1 = k
    . rw [if_pos e, if_pos (h1.symm.trans e)]; exact ⟨h1, h2, ry⟩
    . rw [if_neg e, if_neg (fun z => e (h1.trans z))]; exact ⟨h1, h2, h3⟩
theorem KT.put {H : Hp} {kvs : List (List Key × V)} {xs : List (List Key × Addr × Value)} (r : KT H kvs xs) (k : List Key) {b : Addr} {y : V} {u : Value} (hb : H b = some (.tup (k.map kV))) (ry : zg4 y u) :
    KT H (ys4 kvs k y) (storedH xs k b u) := by
  have e : (kvs.any fun kv => decide (kv.1 = k)) = (atKey xs k).isSome := by
    rw [xl6, (r.val k).isSome_eq, Option.isSome_map]
  unfold ys4 storedH
  rw [e]
  by_cases q : (atKey xs k).isSome = true
  . rw [if_pos q, if_pos q]; exact r.repl k ry
  . rw [if_neg q, if_neg q]; exact Paired.snoc r ⟨rfl, hb, ry⟩
theorem KT.keeps {H H' : Hp} {kvs : List (List Key × V)} {xs : List (List Key × Addr × Value)} (r : KT H kvs xs) (ht : ∀ b ys, H b = some (.tup ys) -> H' b = some (.tup ys)) : KT H' kvs xs :=
  Paired.mapP r fun _ _ z => ⟨z.1, ht _ _ z.2.1, z.2.2⟩
noncomputable def xz9 (H : Hp) (a : Addr) (y : V) (r : Option V) : Prop :=
  (∃ kvs k, Rd H a (.dK kvs) /\ y = kV k /\ r = yf6 kvs k) \/ ∃ kvs k b, Rd H a (.dT kvs) /\ y = .ref b /\ H b = some (.tup (k.map kV)) /\ r = yf6 kvs k
noncomputable def wa0 (H : Hp) (a : Addr) (y v : V) (H' : Hp) : Prop :=
  (∃ kvs k, H a = some (.dK kvs) /\ y = kV k /\ kvs.length < sizeLine /\ H' = upd H a (.dK (ys4 kvs k v))) \/
  ∃ kvs k b, H a = some (.dT kvs) /\ y = .ref b /\ H b = some (.tup (k.map kV)) /\ kvs.length < sizeLine /\ H' = upd H a (.dT (ys4 kvs k v))
theorem xz9.k {H : Hp} {a : Addr} {kvs : List (Key × V)} {k : Key} (e : H a = some (.dK kvs)) : xz9 H a (kV k) (yf6 kvs k) := .inl ⟨kvs, k, .inl e, rfl, rfl⟩
theorem xz9.t {H : Hp} {a b : Addr} {kvs : List (List Key × V)} {k : List Key} (e : H a = some (.dT kvs)) (eb : H b = some (.tup (k.map kV))) : xz9 H a (.ref b) (yf6 kvs k) := .inr ⟨kvs, k, b, .inl e, rfl, eb, rfl⟩
theorem wa0.k {H : Hp} {a : Addr} {kvs : List (Key × V)} {k : Key} {v : V} (e : H a = some (.dK kvs)) (hl : kvs.length < sizeLine) : wa0 H a (kV k) v (upd H a (.dK (ys4 kvs k v))) := .inl ⟨kvs, k, e, rfl, hl, rfl⟩
theorem wa0.t {H : Hp} {a b : Addr} {kvs : List (List Key × V)} {k : List Key} {v : V} (e : H a = some (.dT kvs)) (eb : H b = some (.tup (k.map kV))) (hl : kvs.length < sizeLine) :
    wa0 H a (.ref b) v (upd H a (.dT (ys4 kvs k v))) := .inr ⟨kvs, k, b, e, rfl, eb, hl, rfl⟩
structure M1 (X : Cx) (o : Expr) (m : Str) (apos : Pos) (e : Expr) (cpos : Pos) : Prop where
  base : attributeBase o m X.env (eval o X.env) = eval o X.env
  few : ((backTo cpos (starEach [e] X.env)).all (fun x => !x.1) && (backToKw cpos (keywordEach [] X.env)).all (fun x => x.1.isSome)
    && decide (([e] : List Expr).length + ([] : List Keyword).length + (if ([] : List Keyword).isEmpty then 0 else 1) < 30)) = true
  line : (apos.endLine == cpos.line) = true
  trees : backTo cpos (starEach [e] X.env) = [(false, eval e X.env)]
structure M2 (X : Cx) (o : Expr) (m : Str) (apos : Pos) (e f : Expr) (cpos : Pos) : Prop where
  base : attributeBase o m X.env (eval o X.env) = eval o X.env
  few : ((backTo cpos (starEach [e, f] X.env)).all (fun x => !x.1) && (backToKw cpos (keywordEach [] X.env)).all (fun x => x.1.isSome)
    && decide (([e, f] : List Expr).length + ([] : List Keyword).length + (if ([] : List Keyword).isEmpty then 0 else 1) < 30)) = true
  line : (apos.endLine == cpos.line) = true
  trees : backTo cpos (starEach [e, f] X.env) = [(false, eval e X.env), (false, eval f X.env)]
end L2
namespace L2
open PySem PySem.Spec PyProof.Rows
structure Dn (K : PySem.W.Frag) (mg : Str -> Option Value) (x : Str) (st : Stmt) (ps : List Str) (f : Addr) (fd : FuncData) : Prop where
  F : Fun K x x st f fd
  b : zz0 K fd ps []
  m : mg x = some (.ref f)
section
variable {X : Cx} {x : Str} {st : Stmt} {ps : List Str} {f : Addr} {fd : FuncData} {k : Nat} {sp : Sp} {p pos : Pos} {e : Expr} {es : List Expr} {t : TA}
theorem xj6 (D : Dn X.K X.mg x st ps f fd) (G : FnOk X.prog X.w X.K X.mg X.base CX0 k f fd ps sp) (hr : Room k X.A) (hg : Gl X x) (ha : PA X (e :: es) t)
    (hdb : (x == ("__debug__" : Str)) = false := by decide) (he : starEach (e :: es) X.env = (false, eval e X.env) :: starEach es X.env := by rfl) (hpl : (backTo pos (starEach es X.env)).any (·.1) = false := by rfl) :
    PE X (.Call (.Name x p) (e :: es) [] pos) (xk4 sp [] E0 t) := wq0 G hr hg D.m D.F.kp D.b .nil yz0 ha hdb he hpl
theorem wv7 (D : Dn X.K X.mg x st ps f fd) (G : FnOk X.prog X.w X.K X.mg X.base CX0 k f fd ps sp) (hr : Room k X.A) (hg : Gl X x)
    (hdb : (x == ("__debug__" : Str)) = false := by decide) : PE X (.Call (.Name x p) [] [] pos) (xk4 sp [] E0 xz8) := wi8 G hr hg D.m D.F.kp D.b .nil yz0 hdb
end
theorem zx3.seqT {K : PySem.W.Frag} {H H' : Hp} {a : Addr} {xs : List V} (e : zx3 H H') (h : SqT K H a xs) : SqT K H' a xs := by
  rcases h with (h | ⟨o, h⟩) | h
  . exact .inl (.inl (e _ _ h))
  . exact .inl (.inr ⟨o, e _ _ h⟩)
  . exact .inr h
theorem wj4 {H : Hp} {p : Addr} (h : H p = none) (o : HO) : zx3 H (upd H p o) := fun b u q => by rw [zg3 (zy4 q h)]; exact q
theorem xj7 {n : Nat} (h : n <= 1000) : n <= sizeLine := Nat.le_of_lt (xh2 h)
noncomputable def ym2 (H : Hp) : V -> Option String
  | .non => some "NoneType"
  | .bl _ => some "bool"
  | .int _ => some "int"
  | .str _ => some "str"
  | .ref a => match H a with
    | some (.lst _) => some "list"
    | some (.frz _ (.lst _)) => some "list"
    | some (.tup _) => some "tuple"
    | some (.dK _) => some "dict"
    | _ => none
  | _ => none
noncomputable def xb7 (t c : String) : Bool := decide (t = c) || (decide (t = "bool") && decide (c = "int"))
noncomputable def kinds : List String := ["NoneType", "bool", "int", "str", "list", "tuple", "dict"]
theorem xl7 (K : PySem.W.Frag) : ∀ t ∈ kinds, ∀ c ∈ ["bool", "int", "str", "list", "tuple", "dict"], PySem.W.kitOne K (.type t) (.type c) = some (xb7 t c) := by
  intro t ht c hc
  simp only [kinds, List.mem_cons, List.not_mem_nil, or_false] at ht hc
  rcases ht with rfl | rfl | rfl | rfl | rfl | rfl | rfl <;> rcases hc with rfl | rfl | rfl | rfl | rfl | rfl <;> rfl
theorem wc9 {K : PySem.W.Frag} {H : Hp} {x : V} {t : String} (h : ym2 H x = some t) : TyOf K H x (.type t) /\ t ∈ kinds := by
  cases x with
  | non => cases h; exact ⟨.non, by decide⟩
  | bl b => cases h; exact ⟨.bl b, by decide⟩
  | int i => cases h; exact ⟨.int i, by decide⟩
  | str x => cases h; exact ⟨.str x, by decide⟩
  | ref a =>
    have h' : (match H a with
      | some (.lst _) => some "list"
      | some (.frz _ (.lst _)) => some "list"
      | some (.tup _) => some "tuple"
      | some (.dK _) => some "dict"
      | _ => none) = some t := h
    cases e : H a with
    | none => rw [e] at h'; cases h'
    | some o =>
      rw [e] at h'
      cases o with
      | lst xs => cases h'; exact ⟨.lst e, by decide⟩
      | tup xs => cases h'; exact ⟨.tup e, by decide⟩
      | dK kvs => cases h'; exact ⟨.dK e, by decide⟩
      | frz ob u =>
        cases u with
        | lst xs => cases h'; exact ⟨.frz e, by decide⟩
        | _ => cases h'
      | _ => cases h'
  | _ => cases h
section
variable {X : Cx}
theorem wj5 : zk7 X (.builtin "isinstance") (fun xs H Q => ∃ x c t, xs = [x, .ty c] /\ ym2 H x = some t /\ c ∈ ["bool", "int", "str", "list", "tuple", "dict"] /\ Q (.bl (xb7 t c)) H) := by
  intro pins s σ H xs us Q I r h
  obtain ⟨x, c, t, rfl, ht, hc, q⟩ := h
  obtain ⟨u, v, rfl, rx, rc⟩ := xv6 r
  cases (show v = Value.type c from rc)
  obtain ⟨ty, hk⟩ := wc9 (K := X.K) ht
  exact wc1 I rx ty (xl7 X.K t hk c hc) fun tk => ⟨.bl (xb7 t c), H, I.tok tk, rfl, q⟩
end
end L2
namespace L2
open PySem PySem.Spec PyProof.Rows
theorem ym7 {env : Env} : ∀ (names : List (Str × NameKind)) (cs : List (Str × Addr)),
    (∀ y ∈ names, y.2 = .free -> ∃ c, env.cells.lookup y.1 = some c) -> (∀ x c, cs.lookup x = some c -> env.cells.lookup x = some c) ->
    ∃ cl, (forIn names cs fun (y : Str × NameKind) (r : List (Str × Addr)) =>
        (if (y.2 == .free) = true then (do let a <- cellOf env y.1; pure (ForInStep.yield ((y.1, a) :: r))) else pure (ForInStep.yield r) : Sem (ForInStep (List (Str × Addr))))) = pure cl /\
      (∀ x c, cl.lookup x = some c -> env.cells.lookup x = some c) /\ (∀ x c, cs.lookup x = some c -> ∃ c', cl.lookup x = some c') /\ (∀ y ∈ names, y.2 = .free -> ∃ c, cl.lookup y.1 = some c)
  | [], cs, _, hc => ⟨cs, rfl, hc, fun x c h => ⟨c, h⟩, fun y hy => absurd hy (List.not_mem_nil)⟩
  | (n, k) :: r, cs, hn, hc => by
    have hr : ∀ y ∈ r, y.2 = .free -> ∃ c, env.cells.lookup y.1 = some c := fun y hy => hn y (List.mem_cons_of_mem _ hy)
    by_cases hk : k = .free
    . subst hk
      obtain ⟨c, e⟩ := hn (n, .free) List.mem_cons_self rfl
      have hc' : ∀ x c', ((n, c) :: cs).lookup x = some c' -> env.cells.lookup x = some c' := fun x c' h => by
        rw [List.lookup_cons] at h
        cases hx : x == n with
        | true =>
          rw [hx] at h
          have e1 : x = n := by simpa using hx
          have e2 : c = c' := Option.some.inj h
          rw [e1, <- e2]; exact e
        | false => rw [hx] at h; exact hc x c' h
      obtain ⟨cl, h1, h2, h3, h4⟩ := ym7 (env := env) r ((n, c) :: cs) hr hc'
      refine ⟨cl, ?_, h2, fun x c' h => ?_, fun y hy hf => ?_⟩
      . rw [List.forIn_cons]
        have e0 : cellOf env n = pure c := by unfold cellOf; rw [e]
        simp only [e0]
        exact h1
      . cases hx : x == n with
        | true =>
          have e1 : x = n := by simpa using hx
          exact h3 x c (by rw [List.lookup_cons, hx])
        | false => exact h3 x c' (by rw [List.lookup_cons, hx]; exact h)
      . rcases List.mem_cons.mp hy with e1 | hy
        . rw [e1]; exact h3 n c (by rw [List.lookup_cons]; simp)
        . exact h4 y hy hf
    . obtain ⟨cl, h1, h2, h3, h4⟩ := ym7 (env := env) r cs hr hc
      refine ⟨cl, ?_, h2, h3, fun y hy hf => ?_⟩
      . rw [List.forIn_cons]
        have e0 : (k == NameKind.free) = false := by simpa using hk
        simp only [e0]
        exact h1
      . rcases List.mem_cons.mp hy with e1 | hy
        . rw [e1] at hf; exact absurd hf hk
        . exact h4 y hy hf
theorem xw4 {env : Env} {scope : Scope} (h : ∀ y ∈ scope.names, y.2 = .free -> ∃ c, env.cells.lookup y.1 = some c) :
    ∃ cl, closureFor scope env = pure cl /\ (∀ x c, cl.lookup x = some c -> env.cells.lookup x = some c) /\ (∀ y ∈ scope.names, y.2 = .free -> ∃ c, cl.lookup y.1 = some c) := by
  obtain ⟨cl, h1, h2, _, h4⟩ := ym7 (env := env) scope.names [] h (fun x c e => by simp at e)
  refine ⟨cl, ?_, h2, h4⟩
  have e : ((forIn scope.names [] fun (y : Str × NameKind) (r : List (Str × Addr)) =>
        (if (y.2 == .free) = true then (do let a <- cellOf env y.1; pure (ForInStep.yield ((y.1, a) :: r))) else pure (ForInStep.yield r) : Sem (ForInStep (List (Str × Addr))))) >>= fun s => pure s) = pure cl := by rw [h1]; rfl
  exact e
structure CScope (sc : Scope) (NX N : List Str) (pick : List (Option Nat)) (scope : Scope) : Prop where
  kind : scope.kind = .function
  nocell : ∀ y ∈ scope.names, y.2 ≠ .cell
  names : ∀ y ∈ scope.names, y.2 = .local -> scope.names.lookup y.1 = some .local
  frees : ∀ y ∈ scope.names, y.2 = .free -> sc.names.lookup y.1 = some .cell \/ sc.names.lookup y.1 = some .free
  pk : ∀ p ∈ N.zip pick, ∀ j ∈ p.2, NX[j]? = some p.1 /\ scope.names.lookup p.1 = some .free
  nd : N.Nodup
  len : pick.length = N.length
noncomputable def yf7 (pick : List (Option Nat)) (σ : St) : St := pick.map fun o => o.bind fun j => (σ[j]?).join
noncomputable def cxB (X : Cx) (N : List Str) (scope : Scope) (cl : List (Str × Addr)) (fp : List Addr) (s : Shared) (H : Hp) : Cx where
  prog := X.prog
  w := X.w
  K := X.K
  mg := X.mg
  base := X.base
  A := X.A
  N := N
  s₀ := s
  H₀ := H
  env := compEnvC scope cl s.heap.objs.size X.env
  outer := X.stack
  stack := X.stack
  ex := fp
  fn := fun _ => false
  calm := X.calm
  pn := []
  xe := fun _ _ => False
noncomputable def PTs (X : Cx) (ifs : List Expr) (t : TT) : Prop :=
  ∀ (pins : List (Addr × Obj)) (s : Shared) (σ : St) (H : Hp) (Q : Bool -> Hp -> Prop), Inv X pins σ H s -> t σ H Q ->
    wpAny (model X.prog X.w) X.A (forIn ifs true fun c r => if r = true then do let ok <- isTrue c X.env (eval c X.env); pure (ForInStep.yield ok) else pure (ForInStep.yield r)) (TP X pins σ Q) X.xe s
noncomputable def kf0 : TT := fun _ H Q => Q true H
theorem wv8 {X : Cx} : PTs X [] kf0 := fun pins s σ H Q I h => wpAny_tests_nil ⟨H, I, h⟩
section
variable {prog : Program} {w : World} {A : Around} {R : Result -> Shared -> Prop} {s : Shared}
theorem wd0 {elt target iter : Expr} {ifs : List Expr} {scope : Scope} {pos : Pos} {it acc : Value} {env : Env} (I : Nat -> Shared -> Prop)
    (turn : ∀ n s, I n s -> wpAny (model prog w) A (pyNext it) (fun r s1 => match r with
      | none => R (.ok .next) s1
      | some v => wpAny (model prog w) A (letOwnedTupleGo target it v) (fun _ s1 => wpAny (model prog w) A (assign target env v) (fun _ s2 =>
          wpAny (model prog w) A (forIn ifs true fun c r => if r = true then do let ok <- isTrue c env (eval c env); pure (ForInStep.yield ok) else pure (ForInStep.yield r)) (fun ok s3 =>
            if ok = true then wpAny (model prog w) A (eval elt env) (fun x s4 =>
              wpAny (model prog w) A (call (.builtin "list.append") [acc, x]) (fun _ s5 => ∃ m, m < n /\ I m s5) (fun _ _ => False) s4) (fun _ _ => False) s3
            else ∃ m, m < n /\ I m s3) (fun _ _ => False) s2) (fun _ _ => False) s1) (fun _ _ => False) s1) (fun _ _ => False) s)
    (n : Nat) (h : I n s) : codeAny (model prog w) A (.compLoop (.ListComp elt [⟨target, iter, ifs, 0⟩] scope pos) 0 it acc env) R s := by
  refine codeAny_loop rfl I (fun n s hI => ?_) n h
  show wpAny _ A ((compTurn (.ListComp elt [⟨target, iter, ifs, 0⟩] scope pos) 0 it acc env).onRaise (fun x => do noteFrame x env; theTreesLotGoes x)) _ _ s
  refine wpAny_noted ?_
  rw [compTurn_list]
  refine wpAny_bind (wpAny_standAt (wpAny_bind (wpAny_mono (turn n s hI) (fun r s1 h1 => ?_) fun _ _ z => z.elim)))
  cases r with
  | none => exact wpAny_pure h1
  | some v =>
    refine wpAny_bind (wpAny_mono h1 (fun _ s1 h1 => wpAny_bind (wpAny_mono h1 (fun _ s2 h2 => wpAny_bind (wpAny_mono h2 (fun ok s3 h3 => ?_) fun _ _ z => z.elim)) fun _ _ z => z.elim)) fun _ _ z => z.elim)
    cases ok with
    | false => exact wpAny_pure ⟨rfl, h3⟩
    | true =>
      exact wpAny_bind (wpAny_bind (wpAny_mono h3 (fun x s4 h4 => wpAny_bind (wpAny_mono h4 (fun _ s5 h5 => wpAny_pure (wpAny_pure ⟨rfl, h5⟩)) fun _ _ z => z.elim)) fun _ _ z => z.elim))
end
noncomputable def wz2 (pick : List (Option Nat)) (wi : TI) (g : TG) (tt : TT) (te : TE) (σ : St) (H : Hp) (Q : Addr -> Hp -> Prop) : Prop := wi σ H fun J H1 => ∀ D, H1 D = none ->
  ∃ W : Nat -> Nat -> St -> Hp -> Prop, (∃ m, W 0 m (yf7 pick σ) (upd H1 D (.lst []))) /\ ∀ i m σ' H', W i m σ' H' ->
    (J.stop i H' /\ Q D H') \/ (J.go i H' /\ ∀ x H2, J.yld i H' x H2 -> g x σ' H2 fun σ3 H3 => tt σ3 H3 fun b H4 =>
      if b = true then te σ3 H4 fun y H5 => ∃ ys, H5 D = some (.lst ys) /\ ys.length < sizeLine /\ ∃ m', m' < m /\ W (i + 1) m' σ3 (upd H5 D (.lst (ys ++ [y]))) else ∃ m', m' < m /\ W (i + 1) m' σ3 H4)
noncomputable def kc0 (pick : List (Option Nat)) (wi : TI) (g : TG) (tt : TT) (te : TE) : TE := fun σ H Q => wz2 pick wi g tt te σ H fun D H' => Q (.ref D) H'
section
variable {X : Cx} {sc : Scope} {NX N : List Str} {pick : List (Option Nat)} {elt tg iter : Expr} {ifs : List Expr} {scope : Scope} {pos : Pos} {wi : TI} {g : TG} {tt : TT} {te : TE}
theorem zs3 {env : Env} : ∀ {names : List (Str × NameKind)} {x : Str} {k : NameKind}, (∀ y ∈ names, y.2 ≠ .cell) ->
    (names.map fun (n, k) => if (k == NameKind.free && env.scope.kind == .function && env.kindOf n == some .cell) then (n, NameKind.cell) else (n, k)).lookup x = some k -> (k = .cell \/ k = .free) -> (x, NameKind.free) ∈ names
  | [], _, _, _, h, _ => by simp at h
  | (n, k0) :: r, x, k, hn, h, hk => by
    have hr : ∀ y ∈ r, y.2 ≠ .cell := fun y hy => hn y (List.mem_cons_of_mem _ hy)
    have h' : List.lookup x ((if (k0 == NameKind.free && env.scope.kind == .function && env.kindOf n == some .cell) = true then (n, NameKind.cell) else (n, k0)) :: (r.map fun (n, k) => if (k == NameKind.free && env.scope.kind == .function && env.kindOf n == some .cell) then (n, NameKind.cell) else (n, k))) = some k := h
    by_cases hc : (k0 == NameKind.free && env.scope.kind == .function && env.kindOf n == some .cell) = true
    . rw [if_pos hc, List.lookup_cons] at h'
      cases hx : x == n with
      | true =>
        have e1 : x = n := by simpa using hx
        have e2 : k0 = .free := by
          simp only [Bool.and_eq_true, beq_iff_eq] at hc
          exact hc.1.1
        rw [e1, e2]; exact List.mem_cons_self
      | false => rw [hx] at h'; exact List.mem_cons_of_mem _ (zs3 hr h' hk)
    . rw [if_neg hc, List.lookup_cons] at h'
      cases hx : x == n with
      | true =>
        rw [hx] at h'
        have e1 : x = n := by simpa using hx
        have e2 : k0 = k := Option.some.inj h'
        have e3 : k0 = .free := by
          rcases hk with z | z
          . exact absurd (e2.trans z) (hn (n, k0) List.mem_cons_self)
          . exact e2.trans z
        rw [e1, e3]; exact List.mem_cons_self
      | false => rw [hx] at h'; exact List.mem_cons_of_mem _ (zs3 hr h' hk)
theorem yi4 {env : Env} : ∀ {names : List (Str × NameKind)} {x : Str}, names.lookup x = some .free ->
    (names.map fun (n, k) => if (k == NameKind.free && env.scope.kind == .function && env.kindOf n == some .cell) then (n, NameKind.cell) else (n, k)).lookup x = some .cell \/
    (names.map fun (n, k) => if (k == NameKind.free && env.scope.kind == .function && env.kindOf n == some .cell) then (n, NameKind.cell) else (n, k)).lookup x = some .free
  | [], _, h => by simp at h
  | (n, k0) :: r, x, h => by
    have ih := @yi4 env r x
    show List.lookup x ((if (k0 == NameKind.free && env.scope.kind == .function && env.kindOf n == some .cell) = true then (n, NameKind.cell) else (n, k0)) :: _) = _ \/ List.lookup x ((if (k0 == NameKind.free && env.scope.kind == .function && env.kindOf n == some .cell) = true then (n, NameKind.cell) else (n, k0)) :: _) = _
    rw [List.lookup_cons] at h
    cases hx : x == n with
    | true =>
      rw [hx] at h
      have e : k0 = .free := Option.some.inj h
      subst e
      by_cases hc : (NameKind.free == NameKind.free && env.scope.kind == .function && env.kindOf n == some .cell) = true
      . rw [if_pos hc]; left; rw [List.lookup_cons, hx]
      . rw [if_neg hc]; right; rw [List.lookup_cons, hx]
    | false =>
      rw [hx] at h
      rcases ih h with z | z
      . left
        by_cases hc : (k0 == NameKind.free && env.scope.kind == .function && env.kindOf n == some .cell) = true
        . rw [if_pos hc, List.lookup_cons, hx]; exact z
        . rw [if_neg hc, List.lookup_cons, hx]; exact z
      . right
        by_cases hc : (k0 == NameKind.free && env.scope.kind == .function && env.kindOf n == some .cell) = true
        . rw [if_pos hc, List.lookup_cons, hx]; exact z
        . rw [if_neg hc, List.lookup_cons, hx]; exact z
theorem wd1 {pins : List (Addr × Obj)} {σ : St} {H : Hp} {s : Shared} {cl : List (Str × Addr)} {fp : List Addr} {h' : Heap} {tk : Nat} (S : CScope sc NX N pick scope) (hsc : X.env.scope = sc) (hNX : X.N = NX)
    (I : Inv X pins σ H s) (hf : ∀ b ∈ fp, yh9 X pins H b) (ho : ∀ b ∈ fp, ∃ o, s.heap.get? b = some o)
    (c1 : ∀ x c, cl.lookup x = some c -> X.env.cells.lookup x = some c) (c2 : ∀ y ∈ scope.names, y.2 = .free -> ∃ c, cl.lookup y.1 = some c)
    (hns : h'.Ns s.heap.objs.size fun _ => none) (hk : ∀ b o, s.heap.get? b = some o -> h'.get? b = some o) :
    Inv (cxB X N scope cl fp s H) [] (yf7 pick σ) H { s with heap := h', toks := tk } := by
  have lt : ∀ b ∈ fp, b < s.heap.objs.size := fun b hb => by obtain ⟨o, e⟩ := ho b hb; exact Heap.lt_size e
  refine ⟨⟨I.ok.mod, S.kind, I.ok.glob, I.ok.blt, Nat.le_refl _, fun x y c h1 h2 => I.ok.inj x y c (c1 x c h1) (c1 y c h2), fun x hx => ?_, fun x c z => absurd z (by simp [cxB]), I.ok.hd, I.ok.frames, .inl rfl,
    fun b hb => ⟨Nat.ne_of_lt (lt b hb), fun x c e => (hf b hb).2.2.2.2.1 x c (c1 x c e)⟩, I.bs, Nat.le_trans I.ok.bsz I.sz, fun b o e hb => ?_, fun b hb z => ?_, I.stack, I.stkFree⟩,
    rfl, I.bare, Un.kept hk, ⟨_, hns, fun i x v h1 h2 h3 => ?_⟩, fun x c e => ?_, I.hok.fresh (Nat.le_refl _), fun x c e => I.freeC x c (c1 x c e), fun p hp => absurd (show p ∈ ([] : List (Addr × Obj)) from hp) (by simp), I.hok.kept hk, ?_⟩
  . have hx' : (relabel scope X.env).names.lookup x = some .cell \/ (relabel scope X.env).names.lookup x = some .free := hx
    have hm : (x, NameKind.free) ∈ scope.names := by
      rcases hx' with z | z
      . exact zs3 S.nocell z (.inl rfl)
      . exact zs3 S.nocell z (.inr rfl)
    exact c2 _ hm rfl
  . rcases (hf b hb).2.2.2.1 with z | z
    . exact I.ok.noex b o e z
    . exact absurd (Nat.lt_of_lt_of_le (Heap.lt_size e) (Nat.le_trans I.ok.bsz z)) (Nat.lt_irrefl _)
  . rcases List.mem_cons.mp (I.stkSub b z) with z | z
    . exact (hf b hb).2.1 z
    . exact (hf b hb).2.2.1 z
  ·
    have hN' : N[i]? = some x := h1
    have h2' : (yf7 pick σ)[i]? = some (some v) := h2
    unfold yf7 at h2'
    rw [List.getElem?_map] at h2'
    cases ep : pick[i]? with
    | none => rw [ep] at h2'; cases h2'
    | some o =>
      rw [ep] at h2'
      cases o with
      | none => cases h2'
      | some j =>
        have h4 : (σ[j]?).join = some v := Option.some.inj h2'
        have h5 : σ[j]? = some (some v) := by
          cases e : σ[j]? with
          | none => rw [e] at h4; cases h4
          | some q => rw [e] at h4; exact congrArg some h4
        have hz : (x, some j) ∈ N.zip pick := by
          refine List.mem_of_getElem? (i := i) ?_
          rw [List.getElem?_zip_eq_some]; exact ⟨hN', ep⟩
        obtain ⟨h6, h7⟩ := S.pk _ hz j rfl
        have hfr : (x, NameKind.free) ∈ scope.names := PySem.mem_of_lookup h7
        have hcf := S.frees _ hfr rfl
        have hcf' : X.env.kindOf x = some .cell \/ X.env.kindOf x = some .free := by
          show X.env.scope.names.lookup x = _ \/ X.env.scope.names.lookup x = _
          rw [hsc]; exact hcf
        obtain ⟨m, hn, hl⟩ := I.loc
        obtain ⟨u, ru, lk⟩ := hl j x v (by rw [hNX]; exact h6) h5 (.inr hcf')
        refine ⟨u, ru, .inr ⟨yi4 h7, ?_⟩⟩
        obtain ⟨c, ec⟩ := c2 _ hfr rfl
        refine ⟨c, ec, ?_⟩
        rcases lk with ⟨k1, _⟩ | ⟨_, c', ec', hcell⟩
        . rcases hcf' with z | z
          . rw [k1] at z; cases z
          . rw [k1] at z; cases z
        . have e' := c1 x c ec
          rw [ec'] at e'
          cases e'
          obtain ⟨o, e1, e2⟩ := hcell
          exact ⟨o, hk _ _ e1, e2⟩
  . obtain ⟨v, o, e1, e2⟩ := I.cell x c (c1 x c e)
    exact ⟨v, o, hk _ _ e1, e2⟩
  . show (yf7 pick σ).length = N.length
    unfold yf7
    rw [List.length_map]; exact S.len
theorem xw5 {pins : List (Addr × Obj)} {σ σ' : St} {H H' : Hp} {s s' : Shared} {cl : List (Str × Addr)} {fp : List Addr} (I : Inv X pins σ H s) (hf : ∀ b ∈ fp, yh9 X pins H b)
    (J : Inv (cxB X N scope cl fp s H) [] σ' H' s') : Inv X pins σ H' s' :=
  I.call' (ch := fp) J.os J.base J.hok J.bare fun b hb => ⟨(hf b hb).2.2.2.1, (hf b hb).2.1, (hf b hb).2.2.2.2.1, (hf b hb).2.2.2.2.2⟩
theorem xw6 {pins : List (Addr × Obj)} {σ : St} {H2 : Hp} {s2 : Shared} {cl : List (Str × Addr)} {J : It} {fp : List Addr} {it : Addr} {tn : Nat -> Heap -> Prop} {RR : Value -> Addr -> Result -> Shared -> Prop} {E : Value -> Shared -> Prop} {Q : Addr -> Hp -> Prop}
    (S : CScope sc NX N pick scope) (hsc : X.env.scope = sc) (hNX : X.N = NX) (hc : X.calm = true)
    (hg : ∀ cl fp s H, PG (cxB X N scope cl fp s H) tg g) (ht : ∀ cl fp s H, PTs (cxB X N scope cl fp s H) ifs tt) (he : ∀ cl fp s H, PE (cxB X N scope cl fp s H) elt te)
    (I2 : Inv X pins σ H2 s2) (T : Turn X.prog X.w X.K tg J fp it tn) (st2 : tn 0 s2.heap) (f2 : ∀ b ∈ fp, yh9 X pins H2 b)
    (c1 : ∀ x c, cl.lookup x = some c -> X.env.cells.lookup x = some c) (c2 : ∀ y ∈ scope.names, y.2 = .free -> ∃ c, cl.lookup y.1 = some c)
    (q : ∀ D, H2 D = none -> ∃ W : Nat -> Nat -> St -> Hp -> Prop, (∃ m, W 0 m (yf7 pick σ) (upd H2 D (.lst []))) /\ ∀ i m σ' H', W i m σ' H' ->
      (J.stop i H' /\ Q D H') \/ (J.go i H' /\ ∀ x H2, J.yld i H' x H2 -> g x σ' H2 fun σ3 H3 => tt σ3 H3 fun b H4 =>
        if b = true then te σ3 H4 fun y H5 => ∃ ys, H5 D = some (.lst ys) /\ ys.length < sizeLine /\ ∃ m', m' < m /\ W (i + 1) m' σ3 (upd H5 D (.lst (ys ++ [y]))) else ∃ m', m' < m /\ W (i + 1) m' σ3 H4))
    (fin : ∀ D C H' s', Inv X pins σ H' s' -> H' C = none -> X.s₀.heap.objs.size <= C -> C ≠ X.env.locals -> (∀ x c, X.env.cells.lookup x = some c -> c ≠ C) -> (∀ p ∈ X.pn ++ pins, p.1 ≠ C) -> (∃ m, s'.heap.Ns C m) -> Q D H' -> RR (.ref D) C (.ok .next) s') :
    wpAny (model X.prog X.w) X.A (newList []) (fun acc s3 => wpAny (model X.prog X.w) X.A (newFunctionEnv scope X.env.globals cl [] X.env.qual none .none (some X.env)) (fun cenv s4 =>
      codeAny (model X.prog X.w) X.A (.compStart (.ListComp elt [⟨tg, iter, ifs, 0⟩] scope pos) 0 (.ref it) acc { cenv with scope := relabel scope X.env }) (RR acc cenv.locals) s4) E s3) E s2 := by
  have hD : H2 s2.heap.objs.size = none := I2.hok.fresh (Nat.le_refl _)
  obtain ⟨W, ⟨m0, w0⟩, turn⟩ := q _ hD
  refine wpAny_newObj_type (wpAny_newFunctionEnv S.nocell (by intro y hy; simp at hy) (fun h1 hns hsb => ?_) S.kind)
  have I3 : Inv X pins σ (upd H2 s2.heap.objs.size (.lst [])) { s2 with heap := s2.heap.push { cls := .type "list", dict := none, data := .seq ([] : List Value).toArray } } :=
    I2.lnew (t' := s2.toks) (its := []) (ys := []) .nil (Nat.zero_le _)
  have ne : ∀ b ∈ fp, b ≠ s2.heap.objs.size := fun b hb z => by
    obtain ⟨o, e, _⟩ := T.obj _ _ st2 b hb
    exact absurd (Heap.lt_size e) (by rw [z]; exact Nat.lt_irrefl _)
  have f3 : ∀ b ∈ fp, yh9 X pins (upd H2 s2.heap.objs.size (.lst [])) b := fun b hb => ⟨by rw [zg3 (ne b hb)]; exact (f2 b hb).1, (f2 b hb).2⟩
  have ho3 : ∀ b ∈ fp, ∀ o, s2.heap.get? b = some o -> (s2.heap.push { cls := .type "list", dict := none, data := .seq ([] : List Value).toArray }).get? b = some o := fun b _ o e => Heap.get?_push_of_some _ e
  have st3 := T.keep _ _ _ st2 ho3
  generalize hH3 : s2.heap.push { cls := .type "list", dict := none, data := .seq ([] : List Value).toArray } = H3 at hns hsb I3 ho3 st3 |-
  dsimp only at hns hsb |-
  have hk : ∀ b o, H3.get? b = some o -> h1.get? b = some o := fun b o e => hsb.extBut b o (Nat.ne_of_lt (Heap.lt_size e)) (Heap.get?_push_of_some _ e)
  have B0 : Inv (cxB X N scope cl fp { s2 with heap := H3 } (upd H2 s2.heap.objs.size (.lst []))) [] (yf7 pick σ) (upd H2 s2.heap.objs.size (.lst [])) { s2 with heap := h1, toks := s2.toks + ([] : List (Str × Value)).length } :=
    wd1 (s := { s2 with heap := H3 }) S hsc hNX I3 f3 (fun b hb => by obtain ⟨o, e, _⟩ := T.obj _ _ st3 b hb; exact ⟨o, e⟩) c1 c2 hns hk
  have st4 : tn 0 h1 := T.keep _ _ _ st3 fun b _ o e => hk b o e
  have fpY : ∀ {H' : Hp}, (∀ b ∈ fp, H' b = none) -> ∀ b ∈ fp, yh9 (cxB X N scope cl fp { s2 with heap := H3 } (upd H2 s2.heap.objs.size (.lst []))) [] H' b := fun hn b hb =>
    ⟨hn b hb, (B0.ok.exf b hb).1, B0.ok.exfs b hb, .inl hb, (B0.ok.exf b hb).2, fun p hp => absurd (show p ∈ ([] : List (Addr × Obj)) from hp) (by simp)⟩
  have loop : ∀ s4 : Shared, s4 = { s2 with heap := h1, toks := s2.toks + ([] : List (Str × Value)).length } ->
      codeAny (model X.prog X.w) X.A (.compLoop (.ListComp elt [⟨tg, iter, ifs, 0⟩] scope pos) 0 (.ref it) (.ref s2.heap.objs.size) (compEnvC scope cl H3.objs.size X.env)) (RR (.ref s2.heap.objs.size) H3.objs.size) s4 := by
    rintro s4 rfl
    refine wd0 (fun n s' => ∃ i σ' H', Inv (cxB X N scope cl fp { s2 with heap := H3 } (upd H2 s2.heap.objs.size (.lst []))) [] σ' H' s' /\ tn i s'.heap /\ (∀ b ∈ fp, H' b = none) /\ W i n σ' H') ?_ m0
      ⟨0, _, _, B0, st4, fun b hb => (f3 b hb).1, w0⟩
    rintro n s5 ⟨i, σ5, H5, I5, st5, fr5, w5⟩
    rcases turn i n σ5 H5 w5 with ⟨stop, qn⟩ | ⟨go, step⟩
    . refine thn (T.done (cxB X N scope cl fp { s2 with heap := H3 } (upd H2 s2.heap.objs.size (.lst []))) rfl rfl rfl hc i [] s5 σ5 H5 _ I5 (fpY fr5) st5 stop) fun r s6 ⟨hr, I6⟩ => ?_
      subst hr
      obtain ⟨m, hm, _⟩ := I6.loc
      have sz : X.s₀.heap.objs.size <= H3.objs.size := I3.sz
      refine fin _ _ H5 s6 (xw5 I3 f3 I6) I6.free sz (Nat.ne_of_gt I3.lt) (fun x c e z => ?_) (fun p hp z => ?_) ⟨m, hm⟩ qn
      . obtain ⟨v, z2⟩ := I3.cell x c e
        exact absurd z2.lt (by rw [z]; exact Nat.lt_irrefl _)
      . exact absurd (Heap.lt_size (I3.pin p hp).1) (by rw [z]; exact Nat.lt_irrefl _)
    . refine thn (T.item (cxB X N scope cl fp { s2 with heap := H3 } (upd H2 s2.heap.objs.size (.lst []))) rfl rfl rfl hc i [] s5 σ5 H5 _ I5 (fpY fr5) st5 go) fun r s6 ⟨u, hr, h6⟩ => ?_
      subst hr
      refine thn h6 fun _ s7 ⟨x, H7, I7, r7, y7, st7, fr7⟩ => ?_
      have I7' := I7.pinned (fpY fr7) (T.obj _ _ st7)
      have back : ∀ {σ8 : St} {H8 : Hp} {s8 : Shared}, Inv (cxB X N scope cl fp { s2 with heap := H3 } (upd H2 s2.heap.objs.size (.lst []))) ([] ++ ym1 fp s7.heap) σ8 H8 s8 ->
          tn (i + 1) s8.heap /\ ∀ b ∈ fp, H8 b = none := fun {σ8 H8 s8} I8 => by
        refine ⟨T.keep _ _ _ st7 fun b hb o e => (I8.pin (b, o) (List.mem_append_right _ (List.mem_append_right _ (yg0 hb e)))).1, fun b hb => ?_⟩
        obtain ⟨o, e, d⟩ := T.obj _ _ st7 b hb
        exact (I8.pin (b, o) (List.mem_append_right _ (List.mem_append_right _ (yg0 hb e)))).2.1
      refine thn (hg _ _ _ _ _ s7 σ5 H7 x u _ I7' r7 (step x H7 y7)) fun _ s8 ⟨σ8, H8, I8, q8⟩ => ?_
      refine thn (ht _ _ _ _ _ s8 σ8 H8 _ I8 q8) fun ok s9 ⟨H9, I9, q9⟩ => ?_
      cases ok with
      | false =>
        rw [if_neg (by decide)] at q9 |-
        obtain ⟨m', hm, w9⟩ := q9
        obtain ⟨b1, b2⟩ := back I9
        exact ⟨m', hm, i + 1, σ8, H9, I9.unpinned, b1, b2, w9⟩
      | true =>
        rw [if_pos rfl] at q9 |-
        refine thn (he _ _ _ _ _ s9 σ8 H9 _ I9 q9) fun v s10 ⟨y, H10, I10, ry, ys, hys, hlen, m', hm, w10⟩ => ?_
        have ap := xh0 (X := cxB X N scope cl fp { s2 with heap := H3 } (upd H2 s2.heap.objs.size (.lst []))) ([] ++ ym1 fp s7.heap) s10 σ8 H10 (.ref s2.heap.objs.size) [y] (.ref s2.heap.objs.size) [v]
          (fun z H' => z = .non /\ H' = upd H10 s2.heap.objs.size (.lst (ys ++ [y]))) I10 rfl (.cons ry .nil) ⟨_, ys, y, rfl, rfl, hys, hlen, rfl, rfl⟩
        refine thn ap fun z s11 ⟨z', H11, I11, _, _, e11⟩ => ?_
        subst e11
        obtain ⟨b1, b2⟩ := back I11
        exact ⟨m', hm, i + 1, σ8, _, I11.unpinned, b1, b2, w10⟩
  exact codeAny_compStart_list (loop _ rfl) (T.self _ _ _ _ _ st4 (loop _ rfl))
theorem wq4 (S : CScope sc NX N pick scope) (hsc : X.env.scope = sc) (hNX : X.N = NX) (hc : X.calm = true) (hi : PI X tg iter wi)
    (hg : ∀ cl fp s H, PG (cxB X N scope cl fp s H) tg g) (ht : ∀ cl fp s H, PTs (cxB X N scope cl fp s H) ifs tt) (he : ∀ cl fp s H, PE (cxB X N scope cl fp s H) elt te)
    (hs : ∀ x, foldedSetIterable iter X.env x = pure x := by intro _; rfl) : PE X (.ListComp elt [⟨tg, iter, ifs, 0⟩] scope pos) (kc0 pick wi g tt te) := by
  intro pins s σ H Q I h
  rw [eval_ListComp]
  have hfr : ∀ y ∈ scope.names, y.2 = .free -> ∃ c, X.env.cells.lookup y.1 = some c := fun y hy hf => I.ok.has y.1 (by
    show X.env.scope.names.lookup y.1 = _ \/ X.env.scope.names.lookup y.1 = _
    rw [hsc]; exact S.frees y hy hf)
  obtain ⟨cl, hcl, c1, c2⟩ := xw4 hfr
  refine wpAny_comprehension_free (use := none) rfl hs hcl S.kind S.names (thn (hi pins s σ H _ I h) fun v s1 h1 => thn h1 fun itv s2 h2 => ?_)
  obtain ⟨it, fp, tn, J, H2, e, I2, T, st2, f2, q⟩ := h2
  subst e
  refine xw6 (RR := fun acc C => compPost (model X.prog X.w) X.A X.xe none (EP X pins σ Q) acc C) (Q := fun D H' => Q (.ref D) H') S hsc hNX hc hg ht he I2 T st2 f2 c1 c2 q ?_
  intro D C H' s' I' n1 n2 n3 n4 n5 ⟨m, hm⟩ q'
  exact ⟨m, hm, fun h' hb => ⟨.ref D, H', I'.turned (t' := s'.toks) (it := C) (fun b o hbc e => (hb.2 b hbc).trans e) n1 n3 (.inr n2) n4 n5, rfl, q'⟩⟩
end
end L2
namespace L2
open PySem PySem.Spec PyProof.Rows
section
variable {X : Cx} {tg : Expr}
theorem xh3 : ∀ (l : List (Str × Tok)), zd5 ((l.map (·.1)).map V.str) (strValues l)
  | [] => .nil
  | (x, t) :: r => .cons ⟨t, rfl⟩ (xh3 r)
theorem xl8 : ∀ {ys : List Str} {us : List Value}, zd5 (ys.map V.str) us -> StrsAre us ys
  | [], _, .nil => .nil
  | y :: ys, _, .cons r t => by
    obtain ⟨k, rfl⟩ := r
    exact .cons y k (xl8 t)
theorem wj6 : MtR X "str.split" (fun x xs H Q => ∃ z y, x = .str z /\ xs = [.str y] /\ (y.length == 0) = false /\ z.length < 1000000 /\ ∀ p, H p = none -> Q (.ref p) (upd H p (.lst ((Txt.split z y).map V.str)))) := by
  intro pins s σ H x xs v us Q I rx r h
  obtain ⟨z, y, rfl, rfl, hy, hz, q⟩ := h
  obtain ⟨t, rfl⟩ := rx
  obtain ⟨u, rfl, t', rfl⟩ := ye1 r
  have hs : sizeLine = 16777216 := sizeLine_eq
  have hsz : z.length <= sizeLine := by omega
  have hoc := StrLaws.occ_length_le_len z y 0 z.length (z.length + 1)
  have hpb : (Builtin.Str.partsBetween z (Builtin.Str.occurrences z y 0 z.length (z.length + 1)) y.length).length <= z.length + 2 := by
    unfold Builtin.Str.partsBetween
    rw [List.length_map, List.length_zip]
    simp only [List.length_cons, List.length_map, List.length_append, List.length_nil]
    omega
  have hn : H s.heap.objs.size = none := I.fresh
  have fin : ∀ (l : List (Str × Tok)) (tk : Nat), l.map (·.1) = Txt.split z y -> l.length <= sizeLine -> EP X pins σ Q (.ref s.heap.objs.size) { s with heap := s.heap.push { cls := .type "list", data := .seq (strValues l).toArray }, toks := tk } := fun l tk e hl => by
    refine ⟨.ref s.heap.objs.size, _, I.lnew (t' := tk) (ys := (l.map (·.1)).map V.str) (xh3 l) (by rw [List.length_map, List.length_map]; exact hl), rfl, ?_⟩
    rw [e]; exact q _ hn
  cases h1 : (decide (z.length < y.length) || decide (Builtin.Str.strKind z < Builtin.Str.strKind y))
  . cases hf : (Builtin.Str.occurrences z y 0 z.length (z.length + 1)).isEmpty
    . refine call_meets F.slot_str_split (typeIs_str _ _ _) F.entry_str_split (F.args_str_split_2 _ _) (meets_str_split_sep z y t t' h1 hy hf hsz (by omega)) ?_
      show wants _ _ _ { s with toks := _, heap := s.heap.push { cls := .type "list", data := .seq (strsFrom s.toks (Builtin.Str.partsBetween z (Builtin.Str.occurrences z y 0 z.length (z.length + 1)) y.length)).toArray } }
      rw [strsFrom_eq]
      refine fin (numbered s.toks _) _ ((numbered_texts _ _).trans ((if_neg (ne_true_of_eq_false h1)).trans (if_neg (ne_true_of_eq_false hf))).symm) ?_
      have e := congrArg List.length (numbered_texts s.toks (Builtin.Str.partsBetween z (Builtin.Str.occurrences z y 0 z.length (z.length + 1)) y.length))
      rw [List.length_map] at e
      omega
    . exact call_meets F.slot_str_split (typeIs_str _ _ _) F.entry_str_split (F.args_str_split_2 _ _) (meets_str_split_not_found z y t t' h1 hy hf) (fin [(z, t)] s.toks ((if_neg (ne_true_of_eq_false h1)).trans (if_pos hf)).symm (by simp; omega))
  . exact call_meets F.slot_str_split (typeIs_str _ _ _) F.entry_str_split (F.args_str_split_2 _ _) (meets_str_split_cannot_occur z y t t' h1) (fin [(z, t)] s.toks (if_pos h1).symm (by simp; omega))
theorem wq5 : MtR X "str.join" (fun x xs H Q => ∃ (z : Str) (a : Addr) (ys : List Str), x = .str z /\ xs = [.ref a] /\ SqL X.K H a (ys.map V.str) /\ z.length <= 16 /\ (ys.map (·.length)).sum + ys.length <= 1048576 /\ Q (.str (Txt.join z ys)) H) := by
  intro pins s σ H x xs v us Q I rx r h
  obtain ⟨z, a, ys, rfl, rfl, hq, hz, hw, q⟩ := h
  obtain ⟨t, rfl⟩ := rx
  obtain ⟨u, rfl, ru⟩ := ye1 r
  cases (show u = Value.ref a from ru)
  obtain ⟨its, rv, p, hl⟩ := I.list hq
  exact join_listW p.isList (by simpa using xl8 rv) hz hw fun t' k => ⟨.str _, H, I.tok k, ⟨_, rfl⟩, q⟩
end
end L2
namespace L2
open PySem PySem.Spec PyProof.Rows
mutual
inductive Dp (K : PySem.W.Frag) (H : Hp) : V -> PyData -> Prop
  | non : Dp K H .non .none
  | bl (b : Bool) : Dp K H (.bl b) (.bool b)
  | int (i : Int) : Dp K H (.int i) (.int i)
  | str (x : Str) : Dp K H (.str x) (.str x)
  | lst {a : Addr} {xs : List V} {ds : List PyData} : SqL K H a xs -> DpAll K H xs ds -> Dp K H (.ref a) (.list ds)
  | tup {a : Addr} {xs : List V} {ds : List PyData} : SqT K H a xs -> DpAll K H xs ds -> Dp K H (.ref a) (.tuple ds)
inductive DpAll (K : PySem.W.Frag) (H : Hp) : List V -> List PyData -> Prop
  | nil : DpAll K H [] []
  | cons {v : V} {vs : List V} {d : PyData} {ds : List PyData} : Dp K H v d -> DpAll K H vs ds -> DpAll K H (v :: vs) (d :: ds)
end
section
variable {X : Cx} {pins : List (Addr × Obj)} {σ : St} {H : Hp} {s : Shared}
mutual
theorem Dp.reads (I : Inv X pins σ H s) : ∀ {v : V} {d : PyData} {u : Value}, Dp X.K H v d -> zg4 v u -> ∃ as, Reads s.heap u d as
  | _, _, u, .non, r => by cases (show u = Value.none from r); exact ⟨_, .none⟩
  | _, _, u, .bl b, r => by cases (show u = Value.bool b from r); exact ⟨_, .bool b⟩
  | _, _, u, .int i, r => by obtain ⟨t, rfl⟩ := r; exact ⟨_, .int i t⟩
  | _, _, u, .str x, r => by obtain ⟨t, rfl⟩ := r; exact ⟨_, .str x t⟩
  | _, _, u, .lst (a := a) h hs, r => by
    cases (show u = Value.ref a from r)
    obtain ⟨its, rv, p, hz⟩ := I.list h
    obtain ⟨as, ra⟩ := DpAll.reads I hs rv
    obtain ⟨o, e, c, n, d⟩ := p.isList
    exact ⟨_, .list e c d (by simpa using ra)⟩
  | _, _, u, .tup (a := a) h hs, r => by
    cases (show u = Value.ref a from r)
    obtain ⟨its, rv, p, hz⟩ := I.tuple h
    obtain ⟨as, ra⟩ := DpAll.reads I hs rv
    obtain ⟨o, e, c, n, d⟩ := p
    exact ⟨_, .tuple e c d (by simpa using ra)⟩
theorem DpAll.reads (I : Inv X pins σ H s) : ∀ {vs : List V} {ds : List PyData} {us : List Value}, DpAll X.K H vs ds -> zd5 vs us -> ∃ as, ReadsAll s.heap us ds as
  | _, _, _, .nil, .nil => ⟨_, .nil⟩
  | _, _, _, .cons h hs, .cons r rs => by
    obtain ⟨as, ra⟩ := Dp.reads I h r
    obtain ⟨bs, rb⟩ := DpAll.reads I hs rs
    exact ⟨_, .cons ra rb⟩
end
end
section
variable {X : Cx}
noncomputable def wz3 (K : PySem.W.Frag) (neg : Bool) : R2 := fun x y H Q => ∃ d e, Dp K H x d /\ Dp K H y e /\ d.canLay0 = true /\ e.canLay0 = true /\ d.depth <= 60 /\ Q (.bl (if neg then !PyData.eqv d e else PyData.eqv d e)) H
theorem wv9 (hu : X.A.units + 64 < cLine) : OpR X (compareOp .Eq) (wz3 X.K false) := by
  intro pins s σ H x y v u Q I rx ry h
  obtain ⟨d, e, hx, hy, cx, cy, dz, q⟩ := h
  obtain ⟨as, ra⟩ := hx.reads I rx
  obtain ⟨bs, rb⟩ := hy.reads I ry
  exact SeqAt.compareEq_reads ra rb cx cy (by have := Nat.min_le_left d.depth e.depth; omega) ⟨.bl _, H, I, rfl, q⟩
theorem ww0 (hu : X.A.units + 64 < cLine) : OpR X (compareOp .NotEq) (wz3 X.K true) := by
  intro pins s σ H x y v u Q I rx ry h
  obtain ⟨d, e, hx, hy, cx, cy, dz, q⟩ := h
  obtain ⟨as, ra⟩ := hx.reads I rx
  obtain ⟨bs, rb⟩ := hy.reads I ry
  exact SeqAt.compareNe_reads ra rb cx cy (by have := Nat.min_le_left d.depth e.depth; omega) ⟨.bl _, H, I, rfl, q⟩
end
mutual
theorem Dp.same {K : PySem.W.Frag} {H H' : Hp} (e : zx3 H H') : ∀ {v : V} {d : PyData}, Dp K H v d -> Dp K H' v d
  | _, _, .non => .non
  | _, _, .bl b => .bl b
  | _, _, .int i => .int i
  | _, _, .str x => .str x
  | _, _, .lst h hs => .lst (e.seq h) (DpAll.same e hs)
  | _, _, .tup h hs => .tup (zx3.seqT e h) (DpAll.same e hs)
theorem DpAll.same {K : PySem.W.Frag} {H H' : Hp} (e : zx3 H H') : ∀ {vs : List V} {ds : List PyData}, DpAll K H vs ds -> DpAll K H' vs ds
  | _, _, .nil => .nil
  | _, _, .cons h hs => .cons (Dp.same e h) (DpAll.same e hs)
end
end L2
namespace L2
open PySem PySem.Spec PyProof.Rows
section
variable {prog : Program} {w : World} {A : Around} {E : Value -> Shared -> Prop} {s : Shared} {env : Env}
theorem xq7 {l : Addr} {items : Array Value} {elts : List Expr} {k : Nat} {pos : Pos} {Q : Unit -> Shared -> Prop} (hh : A.handled = none) (hl : s.heap.IsList l items) (hn : (assignEach elts env).length = items.size)
    (hstar : (assignEach elts env).findIdx? (·.1) = none) (h : ∀ h', Heap.ExtBut s.heap.objs.size s.heap h' -> wpAny (model prog w) A (assignInOrder ((assignEach elts env).map (·.2)) items.toList) Q E { s with heap := h' }) :
    wpAny (model prog w) A (assign (.Tuple elts k pos) env (.ref l)) Q E s := by
  rw [assign_Tuple]
  refine wpAny_bind (wpAny_standAt ?_)
  unfold unpack
  rw [hn, hstar]
  exact wpAny_bind (wpAny_holding (PySem.W.kun_itemsOf hh hl h))
end
section
variable {X : Cx} {pos : Pos}
noncomputable def wz4 (K : PySem.W.Frag) (n : Nat) (t : TGs) : TG := fun v σ H Q => ∃ a xs, v = .ref a /\ SqL K H a xs /\ xs.length = n /\ t xs σ H Q
theorem ww1 {es : List Expr} {k : Nat} {t : TGs} {n : Nat} (hc : X.calm = true) (h : PGs X es t)
    (hn : (assignEach es X.env).length = n := by rfl) (hst : (assignEach es X.env).findIdx? (·.1) = none := by rfl) : PG X (.Tuple es k pos) (wz4 X.K n t) := by
  intro pins s σ H v u Q I r hw
  obtain ⟨a, xs, e1, hq, hl, hw⟩ := hw
  subst e1
  cases r
  obtain ⟨its, rv, ht, hz⟩ := I.list hq
  refine xq7 (I.ok.hd hc) ht.isList (by simp [hn, <- hl, rv.length]) hst fun h' hx => ?_
  have I1 : Inv X pins σ H { s with heap := h' } := I.kept (t' := s.toks) fun b o e => hx b o (Nat.ne_of_lt (Heap.lt_size e)) e
  exact h pins _ σ H xs _ Q I1 (by simpa using rv) hw
end
end L2
namespace L2
open PySem PySem.Spec PyProof.Rows
inductive AreC : List Expr -> List V -> Prop
  | nil : AreC [] []
  | int {i : Int} {j : Nat} {pos : Pos} {es : List Expr} {vs : List V} : AreC es vs -> AreC (.Constant (.int i) j pos :: es) (.int i :: vs)
  | str {x : Str} {j : Nat} {pos : Pos} {es : List Expr} {vs : List V} : AreC es vs -> AreC (.Constant (.str x) j pos :: es) (.str x :: vs)
  | bl {b : Bool} {j : Nat} {pos : Pos} {es : List Expr} {vs : List V} : AreC es vs -> AreC (.Constant (.bool b) j pos :: es) (.bl b :: vs)
  | non {j : Nat} {pos : Pos} {es : List Expr} {vs : List V} : AreC es vs -> AreC (.Constant .none j pos :: es) (.non :: vs)
noncomputable def xb8 (vs : List V) : TA := fun _ H Q => Q vs H
theorem wd2 {X : Cx} {es : List Expr} {vs : List V} (h : AreC es vs) : PA X es (xb8 vs) := by
  induction h with
  | nil => exact yb1
  | int _ ih => exact fun pos pins s σ H Q I q => zo1 (t := xb8 _) zr7 ih rfl pos pins s σ H Q I q
  | str _ ih => exact fun pos pins s σ H Q I q => zo1 (t := xb8 _) wa8 ih rfl pos pins s σ H Q I q
  | bl _ ih => exact fun pos pins s σ H Q I q => zo1 (t := xb8 _) wn9 ih rfl pos pins s σ H Q I q
  | non _ ih => exact fun pos pins s σ H Q I q => zo1 (t := xb8 _) wa7 ih rfl pos pins s σ H Q I q
end L2
namespace L2
open PySem PySem.Spec PyProof.Rows
inductive D where
  | non | bl (b : Bool) | int (i : Int) | str (x : Str) | ty (n : String)
  | tup (xs : List D) | con (xs : List D) | lst (o : Bool) (xs : List D) | dic (o : Bool) (ks : List Key) (vs : List D) | obj (o : Bool) (C : Str) (ns : List Str) (vs : List D)
mutual
noncomputable def D.imm : D -> Bool
  | .tup xs => D.imms xs
  | .con xs => D.imms xs
  | .lst o xs => !o && D.imms xs
  | .dic o _ vs => !o && D.imms vs
  | .obj o _ _ vs => !o && D.imms vs
  | _ => true
noncomputable def D.imms : List D -> Bool
  | [] => true
  | d :: ds => d.imm && D.imms ds
end
noncomputable def kd : HO -> Bool
  | .lst _ => true
  | .tup _ => true
  | .dK _ => true
  | .ins _ _ _ => true
  | .frz _ _ => true
  | _ => false
noncomputable def tf : HO -> Bool
  | .tup _ => true
  | .frz _ _ => true
  | _ => false
theorem zw6 {o : HO} (h : tf o = true) : kd o = true := by cases o <;> first | rfl | cases h
noncomputable def SqF (K : PySem.W.Frag) (H : Hp) (a : Addr) (xs : List V) : Prop := (∃ o, H a = some (.frz o (.lst xs))) \/
  ∃ (o : Obj) (its : Array Value) (n : Nat), K.lookup a = some o /\ o.cls = .type "list" /\ o.dict = none /\ o.data = .seq its n /\ its.size <= sizeLine /\ zd5 xs its.toList
mutual
inductive Rep (K : PySem.W.Frag) (κ : Str -> Addr) (H : Hp) : V -> D -> List Addr -> Prop
  | non : Rep K κ H .non .non []
  | bl (b : Bool) : Rep K κ H (.bl b) (.bl b) []
  | int (i : Int) : Rep K κ H (.int i) (.int i) []
  | str (x : Str) : Rep K κ H (.str x) (.str x) []
  | ty (n : String) : Rep K κ H (.ty n) (.ty n) []
  | tup {a : Addr} {vs : List V} {ds : List D} : SqT K H a vs -> Reps K κ H vs ds [] -> Rep K κ H (.ref a) (.tup ds) []
  | con {a : Addr} {vs : List V} {ds : List D} : SqF K H a vs -> Reps K κ H vs ds [] -> Rep K κ H (.ref a) (.con ds) []
  | lst {a : Addr} {vs : List V} {ds : List D} {fp : List Addr} : H a = some (.lst vs) -> Reps K κ H vs ds fp -> Rep K κ H (.ref a) (.lst true ds) (a :: fp)
  | lstF {a : Addr} {o : Obj} {vs : List V} {ds : List D} : H a = some (.frz o (.lst vs)) -> Reps K κ H vs ds [] -> Rep K κ H (.ref a) (.lst false ds) []
  | dic {a : Addr} {kvs : List (Key × V)} {ks : List Key} {ds : List D} {fp : List Addr} : H a = some (.dK kvs) -> kvs.map (·.1) = ks -> Reps K κ H (kvs.map (·.2)) ds fp -> Rep K κ H (.ref a) (.dic true ks ds) (a :: fp)
  | dicF {a : Addr} {o : Obj} {kvs : List (Key × V)} {ks : List Key} {ds : List D} : H a = some (.frz o (.dK kvs)) -> kvs.map (·.1) = ks -> Reps K κ H (kvs.map (·.2)) ds [] -> Rep K κ H (.ref a) (.dic false ks ds) []
  | obj {a dx : Addr} {C : Str} {fs : List (Str × V)} {ns : List Str} {ds : List D} {fp : List Addr} : H a = some (.ins (κ C) dx fs) -> fs.map (·.1) = ns -> Reps K κ H (fs.map (·.2)) ds fp -> Rep K κ H (.ref a) (.obj true C ns ds) (a :: fp)
  | objF {a dx : Addr} {o : Obj} {C : Str} {fs : List (Str × V)} {ns : List Str} {ds : List D} : H a = some (.frz o (.ins (κ C) dx fs)) -> fs.map (·.1) = ns -> Reps K κ H (fs.map (·.2)) ds [] -> Rep K κ H (.ref a) (.obj false C ns ds) []
inductive Reps (K : PySem.W.Frag) (κ : Str -> Addr) (H : Hp) : List V -> List D -> List Addr -> Prop
  | nil : Reps K κ H [] [] []
  | cons {v : V} {vs : List V} {d : D} {ds : List D} {f g : List Addr} : Rep K κ H v d f -> Reps K κ H vs ds g -> Reps K κ H (v :: vs) (d :: ds) (f ++ g)
end
section
variable {K : PySem.W.Frag} {κ : Str -> Addr} {H H' : Hp}
theorem SqT.tf (t : ∀ a o, H a = some o -> tf o = true -> H' a = some o) {a : Addr} {xs : List V} (h : SqT K H a xs) : SqT K H' a xs := by
  rcases h with (h | ⟨o, h⟩) | h
  . exact .inl (.inl (t _ _ h rfl))
  . exact .inl (.inr ⟨o, t _ _ h rfl⟩)
  . exact .inr h
theorem SqF.tf (t : ∀ a o, H a = some o -> tf o = true -> H' a = some o) {a : Addr} {xs : List V} (h : SqF K H a xs) : SqF K H' a xs := h.elim (fun ⟨o, h⟩ => .inl ⟨o, t _ _ h rfl⟩) .inr
theorem SqF.l {a : Addr} {xs : List V} (h : SqF K H a xs) : SqL K H a xs := h.elim (fun ⟨o, h⟩ => .inl (.inr ⟨o, h⟩)) .inr
theorem zq5 {P : Addr -> Prop} : ∀ a ∈ ([] : List Addr), P a := fun _ h => nomatch h
theorem Reps.move (t : ∀ a o, H a = some o -> tf o = true -> H' a = some o) {vs : List V} {ds : List D} {fp : List Addr} (h : Reps K κ H vs ds fp) : (∀ a ∈ fp, H' a = H a) -> Reps K κ H' vs ds fp :=
  Reps.rec (motive_1 := fun v d fp _ => (∀ a ∈ fp, H' a = H a) -> Rep K κ H' v d fp) (motive_2 := fun vs ds fp _ => (∀ a ∈ fp, H' a = H a) -> Reps K κ H' vs ds fp)
    (fun _ => .non) (fun b _ => .bl b) (fun b _ => .int b) (fun b _ => .str b) (fun b _ => .ty b) (fun h _ ih _ => .tup (h.tf t) (ih zq5)) (fun h _ ih _ => .con (h.tf t) (ih zq5))
    (fun h _ ih k => .lst ((k _ List.mem_cons_self).trans h) (ih fun a ha => k a (List.mem_cons_of_mem _ ha))) (fun h _ ih _ => .lstF (t _ _ h rfl) (ih zq5))
    (fun h e _ ih k => .dic ((k _ List.mem_cons_self).trans h) e (ih fun a ha => k a (List.mem_cons_of_mem _ ha))) (fun h e _ ih _ => .dicF (t _ _ h rfl) e (ih zq5))
    (fun h e _ ih k => .obj ((k _ List.mem_cons_self).trans h) e (ih fun a ha => k a (List.mem_cons_of_mem _ ha))) (fun h e _ ih _ => .objF (t _ _ h rfl) e (ih zq5))
    (fun _ => .nil) (fun _ _ i1 i2 k => .cons (i1 fun a ha => k a (List.mem_append_left _ ha)) (i2 fun a ha => k a (List.mem_append_right _ ha))) h
theorem Reps.nil_fp {vs : List V} {fp : List Addr} (h : Reps K κ H vs [] fp) : vs = [] /\ fp = [] := by cases h; exact ⟨rfl, rfl⟩
theorem Reps.one_inv {vs : List V} {d : D} {fp : List Addr} (r : Reps K κ H vs [d] fp) : ∃ v, vs = [v] /\ Rep K κ H v d fp := by
  cases r with
  | cons h hs =>
    obtain ⟨rfl, rfl⟩ := hs.nil_fp
    exact ⟨_, rfl, by rw [List.append_nil]; exact h⟩
theorem Reps.one {v : V} {d : D} {f : List Addr} (h : Rep K κ H v d f) : Reps K κ H [v] [d] f := by have := Reps.cons h (Reps.nil (K := K) (κ := κ) (H := H)); rwa [List.append_nil] at this
theorem Rep.move (t : ∀ a o, H a = some o -> tf o = true -> H' a = some o) {v : V} {d : D} {fp : List Addr} (h : Rep K κ H v d fp) (k : ∀ a ∈ fp, H' a = H a) : Rep K κ H' v d fp := by
  obtain ⟨u, e, r⟩ := ((Reps.one h).move t k).one_inv
  cases e; exact r
theorem Reps.own {vs : List V} {ds : List D} {fp : List Addr} (h : Reps K κ H vs ds fp) : ∀ a ∈ fp, ∃ o, H a = some o /\ kd o = true /\ tf o = false :=
  Reps.rec (motive_1 := fun _ _ fp _ => ∀ a ∈ fp, ∃ o, H a = some o /\ kd o = true /\ tf o = false) (motive_2 := fun _ _ fp _ => ∀ a ∈ fp, ∃ o, H a = some o /\ kd o = true /\ tf o = false)
    zq5 (fun _ => zq5) (fun _ => zq5) (fun _ => zq5) (fun _ => zq5) (fun _ _ _ => zq5) (fun _ _ _ => zq5)
    (fun h _ ih a ha => (List.mem_cons.mp ha).elim (fun e => e ▸ ⟨_, h, rfl, rfl⟩) (ih a)) (fun _ _ _ => zq5)
    (fun h _ _ ih a ha => (List.mem_cons.mp ha).elim (fun e => e ▸ ⟨_, h, rfl, rfl⟩) (ih a)) (fun _ _ _ _ => zq5)
    (fun h _ _ ih a ha => (List.mem_cons.mp ha).elim (fun e => e ▸ ⟨_, h, rfl, rfl⟩) (ih a)) (fun _ _ _ _ => zq5)
    zq5 (fun _ _ i1 i2 a ha => (List.mem_append.mp ha).elim (i1 a) (i2 a)) h
theorem Rep.own {v : V} {d : D} {fp : List Addr} (h : Rep K κ H v d fp) : ∀ a ∈ fp, ∃ o, H a = some o /\ kd o = true /\ tf o = false := (Reps.one h).own
theorem Rep.imm {v : V} {d : D} {fp : List Addr} (h : Rep K κ H v d fp) (e : d.imm = true) : fp = [] := by
  cases h <;> first | rfl | exact nomatch e
theorem Reps.imm : ∀ {vs : List V} {ds : List D} {fp : List Addr}, Reps K κ H vs ds fp -> D.imms ds = true -> fp = []
  | _, _, _, .nil, _ => rfl
  | _, _, _, .cons h hs, e => by
    rw [D.imms, Bool.and_eq_true] at e
    rw [h.imm e.1, Reps.imm hs e.2]; rfl
theorem Reps.length : ∀ {vs : List V} {ds : List D} {fp : List Addr}, Reps K κ H vs ds fp -> vs.length = ds.length
  | _, _, _, .nil => rfl
  | _, _, _, .cons _ hs => by rw [List.length_cons, List.length_cons, Reps.length hs]
theorem Reps.get : ∀ {vs : List V} {ds : List D} {fp : List Addr} {i : Nat} {d : D}, Reps K κ H vs ds fp -> ds[i]? = some d -> ∃ v f, vs[i]? = some v /\ Rep K κ H v d f /\ ∀ a ∈ f, a ∈ fp
  | _, _, _, _, _, .nil, e => by simp at e
  | _, _, _, 0, _, .cons h _, e => by simp at e; subst e; exact ⟨_, _, rfl, h, fun a ha => List.mem_append_left _ ha⟩
  | _, _, _, i + 1, _, .cons _ hs, e => by
    obtain ⟨v, f, h1, h2, h3⟩ := Reps.get (i := i) hs (by simpa using e)
    exact ⟨v, f, by simpa using h1, h2, fun a ha => List.mem_append_right _ (h3 a ha)⟩
theorem Reps.append : ∀ {vs : List V} {ds : List D} {f : List Addr} {us : List V} {es : List D} {g : List Addr}, Reps K κ H vs ds f -> Reps K κ H us es g -> Reps K κ H (vs ++ us) (ds ++ es) (f ++ g)
  | _, _, _, _, _, _, .nil, r => r
  | _, _, _, _, _, _, .cons h hs, r => by rw [List.append_assoc]; exact .cons h (Reps.append hs r)
theorem Reps.split : ∀ {vs : List V} {d : D} {ds : List D} {fp : List Addr}, Reps K κ H vs (d :: ds) fp -> ∃ v us f g, vs = v :: us /\ Rep K κ H v d f /\ Reps K κ H us ds g /\ fp = f ++ g
  | _, _, _, _, .cons h hs => ⟨_, _, _, _, rfl, h, hs, rfl⟩
theorem Reps.nilp : ∀ {vs : List V} {ds : List D}, Reps K κ H vs ds [] -> Paired (fun v d => Rep K κ H v d []) vs ds := by
  intro vs ds h
  generalize e : ([] : List Addr) = fp at h
  induction h using Reps.rec (motive_1 := fun _ _ _ _ => True) with
  | nil => exact .nil
  | cons h hs _ ih =>
    obtain ⟨e1, e2⟩ := List.append_eq_nil_iff.mp e.symm
    subst e1; subst e2
    exact .cons h (ih rfl)
  | _ => trivial
theorem Reps.ofp : ∀ {vs : List V} {ds : List D}, Paired (fun v d => Rep K κ H v d []) vs ds -> Reps K κ H vs ds []
  | _, _, .nil => .nil
  | _, _, .cons h hs => .cons (f := []) (g := []) h (Reps.ofp hs)
end
theorem Paired.app {α β : Type} {R : α -> β -> Prop} : ∀ {l₁ : List α} {l₂ : List β} {m₁ : List α} {m₂ : List β}, Paired R l₁ l₂ -> Paired R m₁ m₂ -> Paired R (l₁ ++ m₁) (l₂ ++ m₂)
  | _, _, _, _, .nil, r => r
  | _, _, _, _, .cons h t, r => .cons h (Paired.app t r)
theorem Paired.repl {α β : Type} {R : α -> β -> Prop} {l₁ : List α} {l₂ : List β} (r : Paired R l₁ l₂) : ∀ k : Nat, Paired R (List.replicate k l₁).flatten (List.replicate k l₂).flatten
  | 0 => .nil
  | k + 1 => by rw [List.replicate_succ, List.replicate_succ, List.flatten_cons, List.flatten_cons]; exact Paired.app r (Paired.repl r k)
structure SameK (H H' : Hp) : Prop where
  keep : ∀ a o, H a = some o -> kd o = true -> H' a = some o
  grow : ∀ a, H' a = none -> H a = none
theorem SameK.refl (H : Hp) : SameK H H := ⟨fun _ _ h _ => h, fun _ h => h⟩
theorem SameK.trans {H H1 H2 : Hp} (a : SameK H H1) (b : SameK H1 H2) : SameK H H2 := ⟨fun c o h k => b.keep c o (a.keep c o h k) k, fun c h => a.grow c (b.grow c h)⟩
theorem SameK.of {H H' : Hp} (h : zx3 H H') : SameK H H' := ⟨fun a o e _ => h a o e, fun a e => h.free e⟩
theorem SameK.new {H : Hp} {p : Addr} (h : H p = none) (o : HO) : SameK H (upd H p o) := .of (wj4 h o)
section
variable {K : PySem.W.Frag} {κ : Str -> Addr} {H H' : Hp}
theorem Rep.same (e : SameK H H') {v : V} {d : D} {fp : List Addr} (r : Rep K κ H v d fp) : Rep K κ H' v d fp :=
  r.move (fun a o h t => e.keep a o h (zw6 t)) fun a ha => by obtain ⟨o, h, k, _⟩ := r.own a ha; rw [h]; exact e.keep a o h k
theorem Reps.same (e : SameK H H') {v : List V} {d : List D} {fp : List Addr} (r : Reps K κ H v d fp) : Reps K κ H' v d fp :=
  r.move (fun a o h t => e.keep a o h (zw6 t)) fun a ha => by obtain ⟨o, h, k, _⟩ := r.own a ha; rw [h]; exact e.keep a o h k
end
theorem PE.imp {X : Cx} {e : Expr} {t t' : TE} (h : PE X e t) (k : ∀ σ H Q, t' σ H Q -> t σ H Q) : PE X e t' := fun pins s σ H Q I q => h pins s σ H Q I (k σ H Q q)
theorem PT.imp {X : Cx} {e : Expr} {t t' : TT} (h : PT X e t) (k : ∀ σ H Q, t' σ H Q -> t σ H Q) : PT X e t' := fun pins s σ H Q I q => h pins s σ H Q I (k σ H Q q)
theorem PW.imp {X : Cx} {e : Expr} {t t' : TT} (h : PW X e t) (k : ∀ σ H Q, t' σ H Q -> t σ H Q) : PW X e t' := fun wh pins s σ H Q I q => h wh pins s σ H Q I (k σ H Q q)
theorem PA.imp {X : Cx} {e : List Expr} {t t' : TA} (h : PA X e t) (k : ∀ σ H Q, t' σ H Q -> t σ H Q) : PA X e t' := fun pos pins s σ H Q I q => h pos pins s σ H Q I (k σ H Q q)
theorem PS.imp {X : Cx} {st : Stmt} {t t' : TS} (h : PS X st t) (k : ∀ D σ H, t' D σ H -> t D σ H) : PS X st t' := fun pins s σ H D I q => h pins s σ H D I (k D σ H q)
theorem PSs.imp {X : Cx} {st : List Stmt} {t t' : TS} (h : PSs X st t) (k : ∀ D σ H, t' D σ H -> t D σ H) : PSs X st t' := fun pins s σ H D I q => h pins s σ H D I (k D σ H q)
noncomputable abbrev PSt := List (Option D)
noncomputable def WS (K : PySem.W.Frag) (κ : Str -> Addr) (H : Hp) (σ : St) (ps : PSt) : Prop := ∀ (i : Nat) (d : D), ps[i]? = some (some d) -> ∃ v fp, σ[i]? = some (some v) /\ Rep K κ H v d fp
theorem WS.same {K : PySem.W.Frag} {κ : Str -> Addr} {H H' : Hp} {σ : St} {ps : PSt} (w : WS K κ H σ ps) (e : SameK H H') : WS K κ H' σ ps := fun i d h => by
  obtain ⟨v, fp, h1, h2⟩ := w i d h
  exact ⟨v, fp, h1, h2.same e⟩
noncomputable def zx4 (K : PySem.W.Frag) (κ : Str -> Addr) (H : Hp) (d : D) (Q : VK) : Prop := ∀ v H' fv, SameK H H' -> (∀ a ∈ fv, H a = none) -> fv.Nodup -> Rep K κ H' v d fv -> Q v H'
noncomputable def xp6 (K : PySem.W.Frag) (κ : Str -> Addr) (H : Hp) (d : D) (Q : VK) : Prop := ∀ v H' fp, SameK H H' -> Rep K κ H' v d fp -> Q v H'
noncomputable def tV (K : PySem.W.Frag) (κ : Str -> Addr) (f : PSt -> Option D) : TE := fun σ H Q => ∃ ps d, WS K κ H σ ps /\ f ps = some d /\ xp6 K κ H d Q
noncomputable def tP (K : PySem.W.Frag) (κ : Str -> Addr) (f : PSt -> Option D) : TE := fun σ H Q => ∃ ps d, WS K κ H σ ps /\ f ps = some d /\ zx4 K κ H d Q
noncomputable def tQ (K : PySem.W.Frag) (κ : Str -> Addr) (f : PSt -> Option Bool) : TT := fun σ H Q => ∃ ps b, WS K κ H σ ps /\ f ps = some b /\ ∀ H', SameK H H' -> Q b H'
noncomputable def tVA (K : PySem.W.Frag) (κ : Str -> Addr) (f : PSt -> Option (List D)) : TA := fun σ H Q => ∃ ps ds, WS K κ H σ ps /\ f ps = some ds /\ ∀ vs H' fp, SameK H H' -> Reps K κ H' vs ds fp -> Q vs H'
noncomputable def tPA (K : PySem.W.Frag) (κ : Str -> Addr) (f : PSt -> Option (List D)) : TA := fun σ H Q => ∃ ps ds, WS K κ H σ ps /\ f ps = some ds /\ ∀ vs H' fv, SameK H H' -> (∀ a ∈ fv, H a = none) -> fv.Nodup -> Reps K κ H' vs ds fv -> Q vs H'
noncomputable abbrev QV (X : Cx) (κ : Str -> Addr) (e : Expr) (f : PSt -> Option D) : Prop := PE X e (tV X.K κ f)
noncomputable abbrev QP (X : Cx) (κ : Str -> Addr) (e : Expr) (f : PSt -> Option D) : Prop := PE X e (tP X.K κ f)
noncomputable abbrev QT (X : Cx) (κ : Str -> Addr) (e : Expr) (f : PSt -> Option Bool) : Prop := PT X e (tQ X.K κ f)
noncomputable abbrev QW (X : Cx) (κ : Str -> Addr) (e : Expr) (f : PSt -> Option Bool) : Prop := PW X e (tQ X.K κ f)
noncomputable abbrev QVA (X : Cx) (κ : Str -> Addr) (es : List Expr) (f : PSt -> Option (List D)) : Prop := PA X es (tVA X.K κ f)
noncomputable abbrev QPA (X : Cx) (κ : Str -> Addr) (es : List Expr) (f : PSt -> Option (List D)) : Prop := PA X es (tPA X.K κ f)
theorem zx4.see {K : PySem.W.Frag} {κ : Str -> Addr} {H : Hp} {d : D} {Q : VK} (h : xp6 K κ H d Q) : zx4 K κ H d Q := fun v H' fv s _ _ r => h v H' fv s r
theorem zx4.after {K : PySem.W.Frag} {κ : Str -> Addr} {H H1 : Hp} {d : D} {Q : VK} (h : zx4 K κ H d Q) (s : SameK H H1) : zx4 K κ H1 d Q :=
  fun v H' fv s' n nd r => h v H' fv (s.trans s') (fun a ha => s.grow a (n a ha)) nd r
theorem zx4.now {K : PySem.W.Frag} {κ : Str -> Addr} {H : Hp} {d : D} {Q : VK} {v : V} (h : zx4 K κ H d Q) (r : Rep K κ H v d []) : Q v H := h v H [] (.refl H) (fun _ h => absurd h (by simp)) List.nodup_nil r
theorem zx4.at {K : PySem.W.Frag} {κ : Str -> Addr} {H : Hp} {d : D} {Q : VK} {p : Addr} {o : HO} {fv : List Addr} (h : zx4 K κ H d Q) (hp : H p = none) (hn : ∀ a ∈ fv, H a = none) (nd : fv.Nodup) (r : Rep K κ (upd H p o) (.ref p) d fv) : Q (.ref p) (upd H p o) :=
  h _ _ fv (.new hp o) hn nd r
theorem xp6.after {K : PySem.W.Frag} {κ : Str -> Addr} {H H1 : Hp} {d : D} {Q : VK} (h : xp6 K κ H d Q) (s : SameK H H1) : xp6 K κ H1 d Q := fun v H' fp s' r => h v H' fp (s.trans s') r
section
variable {X : Cx} {κ : Str -> Addr} {e a b : Expr} {f fa fb : PSt -> Option D}
theorem QP.v (h : QP X κ e f) : QV X κ e f := h.imp fun _ _ _ ⟨ps, d, w, e, q⟩ => ⟨ps, d, w, e, .see q⟩
noncomputable def zb7 (f : PSt -> Option D) : PSt -> Option D := fun ps => (f ps).bind fun d => if d.imm = true then some d else none
theorem QV.p (h : QV X κ e f) : QP X κ e (zb7 f) := h.imp fun σ H Q hh_ => by
  obtain ⟨ps, d, w, e, q⟩ := hh_
  unfold zb7 at e
  cases e1 : f ps with
  | none => rw [e1] at e; cases e
  | some d1 =>
    rw [e1] at e
    by_cases hi : d1.imm = true
    . have e2 : d1 = d := by simpa [hi] using e
      subst e2
      refine ⟨ps, d1, w, e1, fun v H' fp s r => ?_⟩
      have := r.imm hi; subst this
      exact q v H' [] s (fun _ h => absurd h (by simp)) List.nodup_nil r
    . simp [hi] at e
noncomputable def za0 (i : Nat) : PSt -> Option D := fun ps => (ps[i]?).join
theorem za2 (i : Nat) {x : Str} {pos : Pos} (hN : X.N[i]? = some x := by rfl) (hv : Vis X.env.scope x := by first | exact Or.inl rfl | exact Or.inr (Or.inl rfl) | exact Or.inr (Or.inr rfl)) (hd : (x == ("__debug__" : Str)) = false := by decide)
    (hcd : (x == ("__classdict__" : Str)) = false := by decide) : QV X κ (.Name x pos) (za0 i) := (yk7 hN hv hd hcd).imp fun σ H Q hh_ => by
  obtain ⟨ps, d, w, e, q⟩ := hh_
  have e' : ps[i]? = some (some d) := by
    unfold za0 at e
    cases q : ps[i]? with
    | none => rw [q] at e; cases e
    | some o => rw [q] at e; exact congrArg some e
  obtain ⟨v, fp, h1, h2⟩ := w i d e'
  exact ⟨v, h1, q v H fp (.refl H) h2⟩
noncomputable def fC (d : D) : PSt -> Option D := fun _ => some d
theorem za6 {i j pos} : QP X κ (.Constant (.int i) j pos) (fC (.int i)) := zr7.imp fun σ H Q ⟨ps, d, w, e, q⟩ => by cases e; exact q _ H [] (.refl H) (fun _ h => absurd h (by simp)) List.nodup_nil (.int i)
theorem ze2 {x j pos} : QP X κ (.Constant (.str x) j pos) (fC (.str x)) := wa8.imp fun σ H Q ⟨ps, d, w, e, q⟩ => by cases e; exact q _ H [] (.refl H) (fun _ h => absurd h (by simp)) List.nodup_nil (.str x)
theorem zu7 {b j pos} : QP X κ (.Constant (.bool b) j pos) (fC (.bl b)) := wn9.imp fun σ H Q ⟨ps, d, w, e, q⟩ => by cases e; exact q _ H [] (.refl H) (fun _ h => absurd h (by simp)) List.nodup_nil (.bl b)
theorem yz1 {j pos} : QP X κ (.Constant .none j pos) (fC .non) := wa7.imp fun σ H Q ⟨ps, d, w, e, q⟩ => by cases e; exact q _ H [] (.refl H) (fun _ h => absurd h (by simp)) List.nodup_nil .non
theorem xd7 {x : Str} {v : V} {u : Value} {d : D} {pos : Pos} (hg : Gl X x) (hm : X.mg x = some u) (r : zg4 v u) (hd : ∀ H, Rep X.K κ H v d []) (hdb : (x == ("__debug__" : Str)) = false := by decide) : QP X κ (.Name x pos) (fC d) :=
  (wp5 hg hm r hdb).imp fun σ H Q ⟨ps, d, w, e, q⟩ => by cases e; exact q _ H [] (.refl H) (fun _ h => absurd h (by simp)) List.nodup_nil (hd H)
theorem xw7 {x : Str} {n : String} {pos : Pos} (hg : Gl X x) (hm : X.mg x = none) (hv : bootBuiltins x = some (.type n)) (hn : x ≠ "__name__" := by decide) (hd : (x == ("__debug__" : Str)) = false := by decide) : QP X κ (.Name x pos) (fC (.ty n)) :=
  (wp6 (v := .ty n) hg hm hv rfl hn hd).imp fun σ H Q ⟨ps, d, w, e, q⟩ => by cases e; exact q _ H [] (.refl H) (fun _ h => absurd h (by simp)) List.nodup_nil (.ty n)
noncomputable def f2 (g : D -> D -> Option D) (fa fb : PSt -> Option D) : PSt -> Option D := fun ps => (fa ps).bind fun x => (fb ps).bind fun y => g x y
noncomputable def POp (K : PySem.W.Frag) (κ : Str -> Addr) (g : D -> D -> Option D) : R2 := fun x y H Q => ∃ dx dy d fx fy, Rep K κ H x dx fx /\ Rep K κ H y dy fy /\ g dx dy = some d /\ zx4 K κ H d Q
theorem xd8 {g : D -> D -> Option D} {fa fb : PSt -> Option D} {ps : PSt} {d : D} (h : f2 g fa fb ps = some d) : ∃ x y, fa ps = some x /\ fb ps = some y /\ g x y = some d := by
  unfold f2 at h
  cases e1 : fa ps with
  | none => rw [e1] at h; cases h
  | some x =>
    rw [e1] at h
    cases e2 : fb ps with
    | none => rw [e2] at h; cases h
    | some y => rw [e2] at h; exact ⟨x, y, rfl, rfl, h⟩
theorem xl9 {r : R2} {g : D -> D -> Option D} {σ : St} {H : Hp} {Q : VK} (hr : ∀ x y H Q, POp X.K κ g x y H Q -> r x y H Q) (h : tP X.K κ (f2 g fa fb) σ H Q) : tOp r (tV X.K κ fa) (tV X.K κ fb) σ H Q := by
  obtain ⟨ps, d, w, e, q⟩ := h
  obtain ⟨x, y, e1, e2, e3⟩ := xd8 e
  exact ⟨ps, x, w, e1, fun v H1 fp s1 r1 => ⟨ps, y, w.same s1, e2, fun u H2 fq s2 r2 => hr _ _ _ _ ⟨x, y, d, fp, fq, r1.same s2, r2, e3, q.after (s1.trans s2)⟩⟩⟩
theorem ze4 {op : Operator} {g : D -> D -> Option D} {pos : Pos} (ho : OpR X (binaryOp op) (POp X.K κ g)) (ha : QV X κ a fa) (hb : QV X κ b fb) : QP X κ (.BinOp a op b pos) (f2 g fa fb) :=
  (zn6 ho ha hb).imp fun _ _ _ h => xl9 (fun _ _ _ _ h => h) h
theorem yl0 {op : CmpOp} {g : D -> D -> Option D} {pos : Pos} (ho : OpR X (compareOp op) (POp X.K κ g)) (ha : QV X κ a fa) (hb : QV X κ b fb) (hm : behindInMarks op b = false) : QP X κ (.Compare a [op] [b] pos) (f2 g fa fb) :=
  (xs0 ho ha hb hm).imp fun _ _ _ h => xl9 (fun _ _ _ _ h => h) h
noncomputable def dB : D -> Option Bool
  | .bl b => some b
  | _ => none
noncomputable def fB (f : PSt -> Option D) : PSt -> Option Bool := fun ps => (f ps).bind dB
theorem wq6 {f : PSt -> Option D} {ps : PSt} {b : Bool} (h : fB f ps = some b) : f ps = some (.bl b) := by
  unfold fB at h
  cases e : f ps with
  | none => rw [e] at h; cases h
  | some d => rw [e] at h; cases d <;> first | (cases h; rfl) | cases h
theorem Rep.is_bl {K : PySem.W.Frag} {H : Hp} {v : V} {b : Bool} {fp : List Addr} (r : Rep K κ H v (.bl b) fp) : v = .bl b := by cases r; rfl
theorem Rep.is_int {K : PySem.W.Frag} {H : Hp} {v : V} {b : Int} {fp : List Addr} (r : Rep K κ H v (.int b) fp) : v = .int b := by cases r; rfl
theorem Rep.is_str {K : PySem.W.Frag} {H : Hp} {v : V} {b : Str} {fp : List Addr} (r : Rep K κ H v (.str b) fp) : v = .str b := by cases r; rfl
theorem zf7 {op : CmpOp} {g : D -> D -> Option D} {pos : Pos} (ho : OpR X (compareOp op) (POp X.K κ g)) (ha : QV X κ a fa) (hb : QV X κ b fb) (hm : behindInMarks op b = false) : QT X κ (.Compare a [op] [b] pos) (fB (f2 g fa fb)) :=
  (xs1 ho ha hb hm).imp fun σ H Q ⟨ps, c, w, e, q⟩ => xl9 (Q := fun x H' => ∃ k, x = .bl k /\ Q k H') (fun _ _ _ _ h => h) ⟨ps, _, w, wq6 e, fun v H' fv s _ _ r => ⟨c, r.is_bl, q H' s⟩⟩
noncomputable def f3 (g g' : D -> D -> Option D) (fa fb fc : PSt -> Option D) : PSt -> Option D := fun ps => (fa ps).bind fun x => (fb ps).bind fun y => (g x y).bind fun k => match k with
  | .bl true => (fc ps).bind fun z => g' y z
  | .bl false => some (.bl false)
  | _ => none
noncomputable def ze7 : D -> Option Bool
  | .non => some false
  | .bl b => some b
  | .int i => some (i != 0)
  | .str y => if y.length <= sizeLine then some ((y.length : Int) != 0) else none
  | .lst _ xs => some (!xs.isEmpty)
  | .tup xs => some (!xs.isEmpty)
  | .con xs => some (!xs.isEmpty)
  | _ => none
theorem yb2 {K : PySem.W.Frag} {H : Hp} {vs : List V} {ds : List D} {fp : List Addr} (r : Reps K κ H vs ds fp) : ds.isEmpty = vs.isEmpty := by cases r <;> rfl
theorem xs4 {K : PySem.W.Frag} {H : Hp} {v : V} {d : D} {fp : List Addr} {b : Bool} (r : Rep K κ H v d fp) (h : ze7 d = some b) : wn7 K v H b := by
  cases r with
  | non => cases h; rfl
  | bl b => cases h; rfl
  | int i => cases h; rfl
  | str x =>
    rw [ze7] at h
    split at h
    . cases h; exact ⟨by assumption, rfl⟩
    . cases h
  | tup s rs => cases h; exact .inr (.inl ⟨_, s, by rw [yb2 rs]⟩)
  | con s rs => cases h; exact .inl ⟨_, s.l, by rw [yb2 rs]⟩
  | lst s rs => cases h; exact .inl ⟨_, .inl (.inl s), by rw [yb2 rs]⟩
  | lstF s rs => cases h; exact .inl ⟨_, .inl (.inr ⟨_, s⟩), by rw [yb2 rs]⟩
  | _ => cases h
noncomputable def fT (f : PSt -> Option D) : PSt -> Option Bool := fun ps => (f ps).bind ze7
theorem wq7 {f : PSt -> Option D} {ps : PSt} {b : Bool} (h : fT f ps = some b) : ∃ d, f ps = some d /\ ze7 d = some b := by
  unfold fT at h
  cases e : f ps with
  | none => rw [e] at h; cases h
  | some d => rw [e] at h; exact ⟨d, rfl, h⟩
theorem zr8 (ha : QV X κ a fa) (he : ∀ whole, isTrue a X.env whole = (do let v <- whole; standAt a.pos; holding [v] (truthy v)) := by intro _; rfl) : QT X κ a (fT fa) :=
  (xl3 ha he).imp fun σ H Q hh_ => by
    obtain ⟨ps, c, w, e, q⟩ := hh_
    obtain ⟨d, e1, e2⟩ := wq7 e
    exact ⟨ps, d, w, e1, fun v H' fp s r => ⟨c, xs4 r e2, q H' s⟩⟩
noncomputable def zf6 (f g : PSt -> Option Bool) : PSt -> Option Bool := fun ps => (f ps).bind fun c => if c = true then g ps else some false
noncomputable def zk4 (f g : PSt -> Option Bool) : PSt -> Option Bool := fun ps => (f ps).bind fun c => if c = true then some true else g ps
noncomputable def zi3 (f : PSt -> Option Bool) : PSt -> Option Bool := fun ps => (f ps).map (!·)
variable {pos : Pos} {zc2 : List Expr} {ta tb : PSt -> Option Bool}
theorem zr5 (ha : QT X κ a ta) : QW X κ (.BoolOp .And [a] pos) ta := wp7 ha
theorem yz2 (ha : QT X κ a ta) : QW X κ (.BoolOp .Or [a] pos) ta := wt8 ha
theorem zs6 (ha : QT X κ a ta) (hb : QW X κ (.BoolOp .And (b :: zc2) pos) tb) : QW X κ (.BoolOp .And (a :: b :: zc2) pos) (zf6 ta tb) :=
  (wt9 ha hb).imp fun σ H Q hh_ => by
    obtain ⟨ps, c, w, e, q⟩ := hh_
    unfold zf6 at e
    cases e1 : ta ps with
    | none => rw [e1] at e; cases e
    | some k =>
      rw [e1] at e
      refine ⟨ps, k, w, e1, fun H1 s1 => ?_⟩
      cases k with
      | true => rw [if_pos rfl]; exact ⟨ps, c, w.same s1, by simpa using e, fun H2 s2 => q H2 (s1.trans s2)⟩
      | false =>
        rw [if_neg Bool.false_ne_true]
        have : c = false := by simpa using e.symm
        subst this; exact q H1 s1
theorem xj8 (ha : QT X κ a ta) (hb : QW X κ (.BoolOp .Or (b :: zc2) pos) tb) : QW X κ (.BoolOp .Or (a :: b :: zc2) pos) (zk4 ta tb) :=
  (wz8 ha hb).imp fun σ H Q hh_ => by
    obtain ⟨ps, c, w, e, q⟩ := hh_
    unfold zk4 at e
    cases e1 : ta ps with
    | none => rw [e1] at e; cases e
    | some k =>
      rw [e1] at e
      refine ⟨ps, k, w, e1, fun H1 s1 => ?_⟩
      cases k with
      | true =>
        rw [if_pos rfl]
        have : c = true := by simpa using e.symm
        subst this; exact q H1 s1
      | false => rw [if_neg Bool.false_ne_true]; exact ⟨ps, c, w.same s1, by simpa using e, fun H2 s2 => q H2 (s1.trans s2)⟩
theorem zz9 (h : QW X κ a ta) : QT X κ a ta := PW.pt h
theorem ye7 (ha : QT X κ a ta) : QT X κ (.UnaryOp .Not a pos) (zi3 ta) :=
  (wa9 ha).imp fun σ H Q hh_ => by
    obtain ⟨ps, c, w, e, q⟩ := hh_
    unfold zi3 at e
    cases e1 : ta ps with
    | none => rw [e1] at e; cases e
    | some k =>
      rw [e1] at e
      have : c = !k := by simpa using e.symm
      subst this
      exact ⟨ps, k, w, e1, fun H1 s1 => q H1 s1⟩
noncomputable def yo8 (f g : PSt -> Option D) : PSt -> Option D := fun ps => (f ps).bind fun c => match c with
  | .bl true => g ps
  | .bl false => some (.bl false)
  | _ => none
noncomputable def fOr (f g : PSt -> Option D) : PSt -> Option D := fun ps => (f ps).bind fun c => match c with
  | .bl true => some (.bl true)
  | .bl false => g ps
  | _ => none
theorem xw8 {d : D} {α : Type} {x y : Option α} {z : α} (h : (match d with | .bl true => x | .bl false => y | _ => none) = some z) : ∃ b, d = .bl b /\ (if b = true then x else y) = some z := by
  cases d with
  | bl b => cases b <;> exact ⟨_, rfl, h⟩
  | _ => cases h
theorem yz3 {op} (h : QP X κ a fa) : QP X κ (.BoolOp op [a] pos) fa := wb0 h
theorem xm0 (ha : QP X κ a fa) (hb : QP X κ (.BoolOp .And (b :: zc2) pos) fb) : QP X κ (.BoolOp .And (a :: b :: zc2) pos) (yo8 fa fb) :=
  (wu0 ha hb).imp fun σ H Q hh_ => by
    obtain ⟨ps, d, w, e, q⟩ := hh_
    unfold yo8 at e
    cases e1 : fa ps with
    | none => rw [e1] at e; cases e
    | some k =>
      rw [e1] at e
      obtain ⟨c, rfl, e2⟩ := xw8 (x := fb ps) (y := some (.bl false)) e
      refine ⟨ps, _, w, e1, fun v H1 fv s1 _ _ r1 => ⟨c, r1.is_bl, ?_⟩⟩
      cases c with
      | true => rw [if_pos rfl] at e2 |-; exact ⟨ps, d, w.same s1, e2, q.after s1⟩
      | false =>
        rw [if_neg Bool.false_ne_true] at e2 |-
        cases e2; exact (q.after s1).now (.bl false)
theorem xw9 (ha : QP X κ a fa) (hb : QP X κ (.BoolOp .Or (b :: zc2) pos) fb) : QP X κ (.BoolOp .Or (a :: b :: zc2) pos) (fOr fa fb) :=
  (wo0 ha hb).imp fun σ H Q hh_ => by
    obtain ⟨ps, d, w, e, q⟩ := hh_
    unfold fOr at e
    cases e1 : fa ps with
    | none => rw [e1] at e; cases e
    | some k =>
      rw [e1] at e
      obtain ⟨c, rfl, e2⟩ := xw8 (d := k) (x := some (D.bl true)) (y := fb ps) (z := d) e
      refine ⟨ps, _, w, e1, fun v H1 fv s1 _ _ r1 => ⟨c, r1.is_bl, ?_⟩⟩
      cases c with
      | true => rw [if_pos rfl] at e2 |-; cases e2; exact (q.after s1).now (.bl true)
      | false => rw [if_neg Bool.false_ne_true] at e2 |-; exact ⟨ps, d, w.same s1, e2, q.after s1⟩
noncomputable def zk2 (f : PSt -> Option D) : PSt -> Option D := fun ps => (f ps).bind fun c => match c with
  | .int i => some (.int (-i))
  | _ => none
theorem yb3 (ha : QV X κ a fa) : QP X κ (.UnaryOp .USub a pos) (zk2 fa) :=
  (wz9 wu5 ha).imp fun σ H Q hh_ => by
    obtain ⟨ps, d, w, e, q⟩ := hh_
    unfold zk2 at e
    cases e1 : fa ps with
    | none => rw [e1] at e; cases e
    | some k =>
      rw [e1] at e
      cases k with
      | int i => cases e; exact ⟨ps, _, w, e1, fun v H1 fp s1 r1 => ⟨i, r1.is_int, (q.after s1).now (.int _)⟩⟩
      | _ => cases e
end
end L2
namespace L2
open PySem PySem.Spec PyProof.Rows
section
variable {X : Cx} {κ : Str -> Addr}
theorem Inv.lstR {pins : List (Addr × Obj)} {σ : St} {H : Hp} {s : Shared} {l : Addr} {xs : List V} (I : Inv X pins σ H s) (h : Rd H l (.lst xs)) :
    xs.length <= sizeLine /\ ∃ (its : List Value) (n : Nat), zd5 xs its /\ xs.length = its.length /\ s.heap.get? l = some { cls := .type "list", data := .seq its.toArray n } := by
  obtain ⟨z, its, n, r, e⟩ := h.ok I.hok
  exact ⟨z, its, n, r, r.length, e⟩
theorem wq8 : OpR X (binaryOp .Add) (fun x y H Q => ∃ l b xs zs, x = .ref l /\ y = .ref b /\ Rd H l (.lst xs) /\ Rd H b (.lst zs) /\ xs.length + zs.length <= sizeLine /\ ∀ p, H p = none -> Q (.ref p) (upd H p (.lst (xs ++ zs)))) := by
  intro pins s σ H x y v u Q I rx ry h
  obtain ⟨l, b, xs, zs, rfl, rfl, hH, hB, hz, q⟩ := h
  cases rx
  cases ry
  obtain ⟨z, its, n, r, hl, e⟩ := I.lstR hH
  obtain ⟨z2, its2, n2, r2, hl2, e2⟩ := I.lstR hB
  refine PySem.P.add_list e e2 ?_ (by rw [List.size_toArray, List.size_toArray]; omega)
  have ea : its.toArray ++ its2.toArray = (its ++ its2).toArray := by simp
  rw [ea]
  exact ⟨.ref _, _, I.lnew (t' := s.toks) (r.append r2) (by rw [List.length_append]; omega), rfl, q _ I.fresh⟩
theorem Rep.lst_inv {K : PySem.W.Frag} {H : Hp} {v : V} {o : Bool} {ds : List D} {fp : List Addr} (r : Rep K κ H v (.lst o ds) fp) : ∃ a vs g, v = .ref a /\ Rd H a (.lst vs) /\ Reps K κ H vs ds g /\ g.Sublist fp := by
  cases r with
  | lst h hs => exact ⟨_, _, _, rfl, .inl h, hs, List.sublist_cons_self _ _⟩
  | lstF h hs => exact ⟨_, _, _, rfl, .inr ⟨_, h⟩, hs, .refl _⟩
theorem Rep.lstT_inv {K : PySem.W.Frag} {H : Hp} {v : V} {ds : List D} {fp : List Addr} (r : Rep K κ H v (.lst true ds) fp) : ∃ a vs g, v = .ref a /\ H a = some (.lst vs) /\ Reps K κ H vs ds g /\ fp = a :: g := by
  cases r with
  | lst h hs => exact ⟨_, _, _, rfl, h, hs, rfl⟩
theorem Rep.objT_inv {K : PySem.W.Frag} {H : Hp} {v : V} {C : Str} {ns : List Str} {ds : List D} {fp : List Addr} (r : Rep K κ H v (.obj true C ns ds) fp) : ∃ a dx fs g, v = .ref a /\ H a = some (.ins (κ C) dx fs) /\ fs.map (·.1) = ns /\ Reps K κ H (fs.map (·.2)) ds g /\ fp = a :: g := by
  cases r with
  | obj h e hs => exact ⟨_, _, _, _, rfl, h, e, hs, rfl⟩
theorem Rep.tup_inv {K : PySem.W.Frag} {H : Hp} {v : V} {ds : List D} {fp : List Addr} (r : Rep K κ H v (.tup ds) fp) : ∃ a vs, v = .ref a /\ SqT K H a vs /\ Reps K κ H vs ds [] := by
  cases r with
  | tup h hs => exact ⟨_, _, rfl, h, hs⟩
theorem Reps.pair {K : PySem.W.Frag} {H : Hp} {vs : List V} {ds : List D} {fp : List Addr} (r : Reps K κ H vs ds fp) (h : D.imms ds = true) : Paired (fun v d => Rep K κ H v d []) vs ds := by
  have e := r.imm h
  subst e
  exact r.nilp
theorem Rep.con_inv {K : PySem.W.Frag} {H : Hp} {v : V} {ds : List D} {fp : List Addr} (r : Rep K κ H v (.con ds) fp) : ∃ a vs, v = .ref a /\ SqF K H a vs /\ Reps K κ H vs ds [] := by
  cases r with
  | con h hs => exact ⟨_, _, rfl, h, hs⟩
theorem yt6 {K : PySem.W.Frag} {H : Hp} {vs : List V} {ds : List D} {Q : VK} {p : Addr} (hp : H p = none) (r : Paired (fun v d => Rep K κ H v d []) vs ds) (q : zx4 K κ H (.lst true ds) Q) : Q (.ref p) (upd H p (.lst vs)) :=
  q.at hp (fv := [p]) (fun a ha => by simp at ha; subst ha; exact hp) (by simp) (.lst zi9 ((Reps.ofp r).same (.new hp _)))
theorem xs5 {K : PySem.W.Frag} {H : Hp} {vs : List V} {ds : List D} {Q : VK} {p : Addr} (hp : H p = none) (r : Paired (fun v d => Rep K κ H v d []) vs ds) (q : zx4 K κ H (.tup ds) Q) : Q (.ref p) (upd H p (.tup vs)) :=
  q.at hp (fv := []) (fun a ha => by simp at ha) (by simp) (.tup (.inl (.inl zi9)) ((Reps.ofp r).same (.new hp _)))
noncomputable def zc6 : D -> D -> Option D
  | .int i, .int j => some (.int (i + j))
  | .str x, .str y => if x.length + y.length <= sizeLine then some (.str (x ++ y)) else none
  | .lst _ xs, .lst _ ys => if (D.imms xs && D.imms ys && decide (xs.length + ys.length <= sizeLine)) = true then some (.lst true (xs ++ ys)) else none
  | _, _ => none
theorem bind_some {α β : Type} {o : Option α} {g : α -> Option β} {z : β} (h : o.bind g = some z) : ∃ x, o = some x /\ g x = some z := by
  cases o with
  | none => cases h
  | some x => exact ⟨x, rfl, h⟩
theorem zf8 {α : Type} {c : Prop} [Decidable c] {x : Option α} {z : α} (h : (if c then x else none) = some z) : c /\ x = some z := by
  by_cases k : c
  . rw [if_pos k] at h; exact ⟨k, h⟩
  . rw [if_neg k] at h; cases h
theorem zl1 : OpR X (binaryOp .Add) (POp X.K κ zc6) := by
  rintro pins s σ H x y v u Q I rx ry ⟨dx, dy, d, fx, fy, r1, r2, e, q⟩
  unfold zc6 at e
  split at e
  . rename_i i j
    cases e; exact yk9 pins s σ H x y v u Q I rx ry ⟨i, j, r1.is_int, r2.is_int, q.now (.int _)⟩
  . rename_i i j
    obtain ⟨hc, e⟩ := zf8 e
    cases e; exact xv5 pins s σ H x y v u Q I rx ry ⟨i, j, r1.is_str, r2.is_str, hc, q.now (.str _)⟩
  . rename_i o xs o' ys
    obtain ⟨hc, e⟩ := zf8 e
    simp only [Bool.and_eq_true, decide_eq_true_eq] at hc
    cases e
    obtain ⟨a, vs, g, rfl, h1, s1, _⟩ := r1.lst_inv
    obtain ⟨b, us, g', rfl, h2, s2, _⟩ := r2.lst_inv
    exact wq8 pins s σ H _ _ v u Q I rx ry ⟨a, b, vs, us, rfl, rfl, h1, h2, by rw [s1.length, s2.length]; exact hc.2, fun p hp => yt6 hp (Paired.app (s1.pair hc.1.1) (s2.pair hc.1.2)) q⟩
  . cases e
noncomputable def dII (C : Int -> Int -> Bool) (g : Int -> Int -> D) : D -> D -> Option D
  | .int i, .int j => if C i j = true then some (g i j) else none
  | _, _ => none
theorem xm1 {C : Int -> Int -> Bool} {g : Int -> Int -> D} {x y d : D} (h : dII C g x y = some d) : ∃ i j, x = .int i /\ y = .int j /\ C i j = true /\ d = g i j := by
  unfold dII at h
  split at h
  . obtain ⟨hc, h⟩ := zf8 h
    cases h; exact ⟨_, _, rfl, rfl, hc, rfl⟩
  . cases h
noncomputable def zm1 : D -> D -> Option D
  | .int i, .int j => some (.int (i - j))
  | _, _ => none
theorem ym8 : OpR X (binaryOp .Sub) (POp X.K κ zm1) := by
  rintro pins s σ H x y v u Q I rx ry ⟨dx, dy, d, fx, fy, r1, r2, e, q⟩
  unfold zm1 at e
  split at e
  . rename_i i j
    cases e; exact wu3 pins s σ H x y v u Q I rx ry ⟨i, j, r1.is_int, r2.is_int, q.now (.int _)⟩
  . cases e
noncomputable def zx5 (i j : Int) : Bool := (decide (-(2 ^ 64) < i) && decide (i < 2 ^ 64)) || (decide (-(2 ^ 64) < j) && decide (j < 2 ^ 64))
noncomputable def zp3 : D -> D -> Option D
  | .int i, .int j => if zx5 i j = true then some (.int (i * j)) else none
  | .str x, .int n => if (decide (x.length <= 1) && decide (-(2 ^ 63) <= n) && decide (n <= 16777216)) = true then some (.str (Txt.mul x n)) else none
  | _, _ => none
theorem xx0 : OpR X (binaryOp .Mult) (fun x y H Q => ∃ z n, x = .str z /\ y = .int n /\ MulOk z n /\ Q (.str (Txt.mul z n)) H) := by
  rintro pins s σ H x y v u Q I rx ry ⟨z, n, e1, e2, ok, q⟩
  subst e1 e2
  obtain ⟨t, rfl⟩ := rx
  obtain ⟨t', rfl⟩ := ry
  exact SB.mul ok fun t' k => ⟨.str _, H, I.tok k, ⟨_, rfl⟩, q⟩
theorem yi5 : OpR X (binaryOp .Mult) (POp X.K κ zp3) := by
  rintro pins s σ H x y v u Q I rx ry ⟨dx, dy, d, fx, fy, r1, r2, e, q⟩
  unfold zp3 at e
  split at e
  . rename_i i j
    obtain ⟨hc, e⟩ := zf8 e
    cases e
    refine yb0 pins s σ H x y v u Q I rx ry ⟨i, j, r1.is_int, r2.is_int, ?_, q.now (.int _)⟩
    unfold zx5 at hc
    simp only [Bool.or_eq_true, Bool.and_eq_true, decide_eq_true_eq] at hc
    exact hc
  . rename_i z n
    obtain ⟨hc, e⟩ := zf8 e
    simp only [Bool.and_eq_true, decide_eq_true_eq] at hc
    cases e
    exact xx0 pins s σ H _ _ v u Q I rx ry ⟨z, n, r1.is_str, r2.is_int, mulOk_of 1 16777216 hc.1.1 (by omega) hc.1.2 (by decide) (by decide), q.now (.str _)⟩
  . cases e
noncomputable def zl4 : D -> D -> Option D := dII (fun _ j => decide (0 < j)) fun i j => .int (i % j)
theorem zp6 : OpR X (binaryOp .Mod) (POp X.K κ zl4) := by
  rintro pins s σ H x y v u Q I rx ry ⟨dx, dy, d, fx, fy, r1, r2, e, q⟩
  obtain ⟨i, j, rfl, rfl, hc, rfl⟩ := xm1 e
  exact yy5 pins s σ H x y v u Q I rx ry ⟨i, j, r1.is_int, r2.is_int, of_decide_eq_true hc, q.now (.int _)⟩
noncomputable def zt3 : D -> D -> Option D := dII (fun _ j => decide (0 < j) && decide (j < 1073741824)) fun i j => .int (i / j)
theorem zz4 : OpR X (binaryOp .FloorDiv) (POp X.K κ zt3) := by
  rintro pins s σ H x y v u Q I rx ry ⟨dx, dy, d, fx, fy, r1, r2, e, q⟩
  obtain ⟨i, j, rfl, rfl, hc, rfl⟩ := xm1 e
  simp only [Bool.and_eq_true, decide_eq_true_eq] at hc
  exact xr6 pins s σ H x y v u Q I rx ry ⟨i, j, r1.is_int, r2.is_int, hc, q.now (.int _)⟩
noncomputable def D.ints : List D -> Option (List Int)
  | [] => some []
  | .int i :: ds => (D.ints ds).map (i :: ·)
  | _ :: _ => none
theorem xd9 {K : PySem.W.Frag} {H : Hp} : ∀ {vs : List V} {ds : List D} {fp : List Addr} {ns : List Int}, Reps K κ H vs ds fp -> D.ints ds = some ns -> vs = ns.map V.int
  | _, _, _, _, .nil, e => by cases e; rfl
  | _, d :: ds, _, ns, .cons h hs, e => by
    cases d with
    | int i =>
      rw [D.ints] at e
      cases e1 : D.ints ds with
      | none => rw [e1] at e; cases e
      | some ms => rw [e1] at e; cases e; rw [h.is_int, xd9 hs e1]; rfl
    | _ => cases e
noncomputable def dLt : D -> D -> Option D
  | .int i, .int j => some (.bl (decide (i < j)))
  | _, _ => none
theorem yj9 (hu : X.A.units < cLine) : OpR X (compareOp .Lt) (POp X.K κ dLt) := by
  rintro pins s σ H x y v u Q I rx ry ⟨dx, dy, d, fx, fy, r1, r2, e, q⟩
  unfold dLt at e
  split at e
  . rename_i i j
    cases e; exact ka0 pins s σ H x y v u Q I rx ry ⟨i, j, r1.is_int, r2.is_int, q.now (.bl _)⟩
  . cases e
noncomputable def dLe : D -> D -> Option D
  | .int i, .int j => some (.bl (decide (i <= j)))
  | _, _ => none
theorem xx1 : OpR X (compareOp .LtE) (POp X.K κ dLe) := by
  rintro pins s σ H x y v u Q I rx ry ⟨dx, dy, d, fx, fy, r1, r2, e, q⟩
  unfold dLe at e
  split at e
  . rename_i i j
    cases e; exact ka1 pins s σ H x y v u Q I rx ry ⟨i, j, r1.is_int, r2.is_int, q.now (.bl _)⟩
  . cases e
noncomputable def dGt : D -> D -> Option D
  | .int i, .int j => some (.bl (decide (j < i)))
  | _, _ => none
theorem yw5 : OpR X (compareOp .Gt) (POp X.K κ dGt) := by
  rintro pins s σ H x y v u Q I rx ry ⟨dx, dy, d, fx, fy, r1, r2, e, q⟩
  unfold dGt at e
  split at e
  . rename_i i j
    cases e; exact ka2 pins s σ H x y v u Q I rx ry ⟨i, j, r1.is_int, r2.is_int, q.now (.bl _)⟩
  . cases e
noncomputable def dGe : D -> D -> Option D
  | .int i, .int j => some (.bl (decide (j <= i)))
  | _, _ => none
theorem xx2 : OpR X (compareOp .GtE) (POp X.K κ dGe) := by
  rintro pins s σ H x y v u Q I rx ry ⟨dx, dy, d, fx, fy, r1, r2, e, q⟩
  unfold dGe at e
  split at e
  . rename_i i j
    cases e; exact ka3 pins s σ H x y v u Q I rx ry ⟨i, j, r1.is_int, r2.is_int, q.now (.bl _)⟩
  . cases e
mutual
noncomputable def D.data : D -> Option PyData
  | .non => some .none
  | .bl b => some (.bool b)
  | .int i => some (.int i)
  | .str x => some (.str x)
  | .tup xs => (D.datas xs).map .tuple
  | .lst _ xs => (D.datas xs).map .list
  | _ => none
noncomputable def D.datas : List D -> Option (List PyData)
  | [] => some []
  | d :: ds => d.data.bind fun p => (D.datas ds).map (p :: ·)
end
theorem Reps.dps {K : PySem.W.Frag} {H : Hp} {vs : List V} {ds : List D} {fp : List Addr} (h : Reps K κ H vs ds fp) : ∀ {p : List PyData}, D.datas ds = some p -> DpAll K H vs p :=
  Reps.rec (motive_1 := fun v d _ _ => ∀ {p : PyData}, d.data = some p -> Dp K H v p) (motive_2 := fun vs ds _ _ => ∀ {p : List PyData}, D.datas ds = some p -> DpAll K H vs p)
    (fun e => by cases e; exact .non) (fun b _ e => by cases e; exact .bl b) (fun b _ e => by cases e; exact .int b) (fun b _ e => by cases e; exact .str b) (fun b _ e => nomatch e)
    (fun h _ ih _ e => by obtain ⟨ps, e1, e⟩ := Option.map_eq_some_iff.mp e; subst e; exact .tup h (ih e1)) (fun _ _ _ _ e => nomatch e)
    (fun h _ ih _ e => by obtain ⟨ps, e1, e⟩ := Option.map_eq_some_iff.mp e; subst e; exact .lst (.inl (.inl h)) (ih e1))
    (fun h _ ih _ e => by obtain ⟨ps, e1, e⟩ := Option.map_eq_some_iff.mp e; subst e; exact .lst (.inl (.inr ⟨_, h⟩)) (ih e1))
    (fun _ _ _ _ _ e => nomatch e) (fun _ _ _ _ _ e => nomatch e) (fun _ _ _ _ _ e => nomatch e) (fun _ _ _ _ _ e => nomatch e)
    (fun e => by cases e; exact .nil)
    (fun _ _ i1 i2 _ e => by
      obtain ⟨q, e1, e⟩ := bind_some e
      obtain ⟨qs, e2, e⟩ := Option.map_eq_some_iff.mp e
      subst e
      exact .cons (i1 e1) (i2 e2)) h
theorem Rep.dp {K : PySem.W.Frag} {H : Hp} {v : V} {d : D} {fp : List Addr} {p : PyData} (h : Rep K κ H v d fp) (e : d.data = some p) : Dp K H v p := by
  have := (Reps.one h).dps (p := [p]) (by show (d.data.bind _) = _; rw [e]; rfl)
  cases this; assumption
noncomputable def xp7 (x y : D) : Option Bool := x.data.bind fun a => y.data.bind fun b => if (a.canLay0 && b.canLay0 && decide (a.depth <= 60)) = true then some (PyData.eqv a b) else none
noncomputable def eqB (x y : D) : Option Bool := match x, y with
  | .int i, .int j => some (decide (i = j))
  | .str i, .str j => some (decide (i = j))
  | x, y => xp7 x y
noncomputable def dEq (x y : D) : Option D := (eqB x y).map .bl
noncomputable def dNe (x y : D) : Option D := (eqB x y).map fun b => .bl (!b)
theorem xh4 {x y : D} {b : Bool} (h : eqB x y = some b) : (∃ i j, x = .int i /\ y = .int j /\ b = decide (i = j)) \/ (∃ i j, x = .str i /\ y = .str j /\ b = decide (i = j)) \/
    ∃ p q, x.data = some p /\ y.data = some q /\ p.canLay0 = true /\ q.canLay0 = true /\ p.depth <= 60 /\ b = PyData.eqv p q := by
  have gen : xp7 x y = some b -> ∃ p q, x.data = some p /\ y.data = some q /\ p.canLay0 = true /\ q.canLay0 = true /\ p.depth <= 60 /\ b = PyData.eqv p q := fun h => by
    unfold xp7 at h
    cases e1 : x.data with
    | none => rw [e1] at h; cases h
    | some p =>
      rw [e1] at h
      cases e2 : y.data with
      | none => rw [e2] at h; cases h
      | some q =>
        rw [e2] at h
        have h' : (if (p.canLay0 && q.canLay0 && decide (p.depth <= 60)) = true then some (PyData.eqv p q) else none) = some b := h
        split at h'
        . rename_i hc
          simp only [Bool.and_eq_true, decide_eq_true_eq] at hc
          exact ⟨p, q, rfl, rfl, hc.1.1, hc.1.2, hc.2, (Option.some.inj h').symm⟩
        . cases h'
  unfold eqB at h
  split at h
  . cases h; exact .inl ⟨_, _, rfl, rfl, rfl⟩
  . cases h; exact .inr (.inl ⟨_, _, rfl, rfl, rfl⟩)
  . exact .inr (.inr (gen h))
theorem zl5 (hu : X.A.units + 64 < cLine) : OpR X (compareOp .Eq) (POp X.K κ dEq) := by
  rintro pins s σ H x y v u Q I rx ry ⟨dx, dy, d, fx, fy, r1, r2, e, q⟩
  unfold dEq at e
  cases e1 : eqB dx dy with
  | none => rw [e1] at e; cases e
  | some b =>
    rw [e1] at e
    cases e
    rcases xh4 e1 with ⟨i, j, rfl, rfl, rfl⟩ | ⟨i, j, rfl, rfl, rfl⟩ | ⟨p, p', h1, h2, h3, h4, h5, rfl⟩
    . rw [r1.is_int] at rx; rw [r2.is_int] at ry
      exact xv3 pins s σ H _ _ v u Q I rx ry ⟨rfl, by rw [show decide (V.int i = V.int j) = decide (i = j) by simp]; exact q.now (.bl _)⟩
    . rw [r1.is_str] at rx; rw [r2.is_str] at ry
      exact xv3 pins s σ H _ _ v u Q I rx ry ⟨rfl, by rw [show decide (V.str i = V.str j) = decide (i = j) by simp]; exact q.now (.bl _)⟩
    . exact wv9 hu pins s σ H _ _ v u Q I rx ry ⟨p, p', r1.dp h1, r2.dp h2, h3, h4, h5, q.now (.bl _)⟩
theorem wj7 (hu : X.A.units + 64 < cLine) : OpR X (compareOp .NotEq) (POp X.K κ dNe) := by
  rintro pins s σ H x y v u Q I rx ry ⟨dx, dy, d, fx, fy, r1, r2, e, q⟩
  unfold dNe at e
  cases e1 : eqB dx dy with
  | none => rw [e1] at e; cases e
  | some b =>
    rw [e1] at e
    cases e
    rcases xh4 e1 with ⟨i, j, rfl, rfl, rfl⟩ | ⟨i, j, rfl, rfl, rfl⟩ | ⟨p, p', h1, h2, h3, h4, h5, rfl⟩
    . rw [r1.is_int] at rx; rw [r2.is_int] at ry
      exact wo2 pins s σ H _ _ v u Q I rx ry ⟨rfl, by rw [show decide (V.int i = V.int j) = decide (i = j) by simp]; exact q.now (.bl _)⟩
    . rw [r1.is_str] at rx; rw [r2.is_str] at ry
      exact wo2 pins s σ H _ _ v u Q I rx ry ⟨rfl, by rw [show decide (V.str i = V.str j) = decide (i = j) by simp]; exact q.now (.bl _)⟩
    . exact ww0 hu pins s σ H _ _ v u Q I rx ry ⟨p, p', r1.dp h1, r2.dp h2, h3, h4, h5, q.now (.bl _)⟩
noncomputable def zn8 : D -> Bool
  | .non => true
  | _ => false
theorem wj8 {K : PySem.W.Frag} {H : Hp} {v : V} {d : D} {fp : List Addr} (r : Rep K κ H v d fp) : decide (v = .non) = zn8 d := by cases r <;> first | rfl | simp [zn8]
noncomputable def dIs : D -> D -> Option D
  | x, .non => some (.bl (zn8 x))
  | _, _ => none
theorem wj9 : OpR X (compareOp .Is) (POp X.K κ dIs) := by
  rintro pins s σ H x y v u Q I rx ry ⟨dx, dy, d, fx, fy, r1, r2, e, q⟩
  cases dy with
  | non =>
    cases e; cases r2
    refine wu6 pins s σ H x _ v u Q I rx ry ⟨rfl, ?_⟩
    rw [wj8 r1]; exact q.now (.bl _)
  | _ => cases e
noncomputable def D.flat : D -> Option V
  | .non => some .non
  | .bl b => some (.bl b)
  | .int i => some (.int i)
  | .str x => some (.str x)
  | _ => none
noncomputable def D.flats : List D -> Option (List V)
  | [] => some []
  | d :: ds => d.flat.bind fun v => (D.flats ds).map (v :: ·)
theorem xs6 {K : PySem.W.Frag} {H : Hp} {v w : V} {d : D} {fp : List Addr} (r : Rep K κ H v d fp) (h : d.flat = some w) : v = w /\ zw3 v = true := by
  cases r <;> first | (cases h; exact ⟨rfl, rfl⟩) | cases h
theorem xm2 {K : PySem.W.Frag} {H : Hp} : ∀ {vs ws : List V} {ds : List D} {fp : List Addr}, Reps K κ H vs ds fp -> D.flats ds = some ws -> vs = ws /\ vs.all zw3 = true
  | _, _, _, _, .nil, e => by cases e; exact ⟨rfl, rfl⟩
  | _, ws, d :: ds, _, .cons h hs, e => by
    rw [D.flats] at e
    cases e1 : d.flat with
    | none => rw [e1] at e; cases e
    | some w =>
      rw [e1] at e
      cases e2 : D.flats ds with
      | none => rw [e2] at e; cases e
      | some us =>
        rw [e2] at e; cases e
        obtain ⟨a1, a2⟩ := xs6 h e1
        obtain ⟨b1, b2⟩ := xm2 hs e2
        exact ⟨by rw [a1, b1], by rw [List.all_cons, a2, b2]; rfl⟩
noncomputable def yg3 (x : D) (ds : List D) : Option Bool := x.flat.bind fun v => (D.flats ds).map fun ws => inV v ws
noncomputable def inB (x : D) : D -> Option Bool
  | .lst _ ds => yg3 x ds
  | .tup ds => yg3 x ds
  | _ => none
noncomputable def dIn (x y : D) : Option D := (inB x y).map .bl
theorem ww2 {H : Hp} {x y : V} {dx dy : D} {fx fy : List Addr} {b : Bool} (r1 : Rep X.K κ H x dx fx) (r2 : Rep X.K κ H y dy fy) (e : inB dx dy = some b) :
    ∃ p xs, y = .ref p /\ (SqL X.K H p xs \/ SqT X.K H p xs) /\ zw3 x = true /\ xs.all zw3 = true /\ b = inV x xs := by
  have gen : ∀ {vs : List V} {ds : List D} {g : List Addr}, Reps X.K κ H vs ds g -> yg3 dx ds = some b -> zw3 x = true /\ vs.all zw3 = true /\ b = inV x vs := fun {vs ds g} rs h => by
    unfold yg3 at h
    cases e1 : dx.flat with
    | none => rw [e1] at h; cases h
    | some w =>
      rw [e1] at h
      cases e2 : D.flats ds with
      | none => rw [e2] at h; cases h
      | some ws =>
        rw [e2] at h
        obtain ⟨a1, a2⟩ := xs6 r1 e1
        obtain ⟨b1, b2⟩ := xm2 rs e2
        subst a1 b1
        exact ⟨a2, b2, (Option.some.inj h).symm⟩
  cases dy with
  | lst o ds =>
    obtain ⟨a, vs, g, rfl, h, hs, _⟩ := r2.lst_inv
    obtain ⟨g1, g2, g3⟩ := gen hs e
    exact ⟨a, vs, rfl, .inl (.inl h), g1, g2, g3⟩
  | tup ds =>
    obtain ⟨a, vs, rfl, h, hs⟩ := r2.tup_inv
    obtain ⟨g1, g2, g3⟩ := gen hs e
    exact ⟨a, vs, rfl, .inr h, g1, g2, g3⟩
  | _ => cases e
theorem wk0 : OpR X (compareOp .In) (POp X.K κ dIn) := by
  rintro pins s σ H x y v u Q I rx ry ⟨dx, dy, d, fx, fy, r1, r2, e, q⟩
  unfold dIn at e
  cases e1 : inB dx dy with
  | none => rw [e1] at e; cases e
  | some b =>
    rw [e1] at e; cases e
    obtain ⟨p, xs, ey, h, f1, f2, rfl⟩ := ww2 r1 r2 e1
    exact wc6 pins s σ H x y v u Q I rx ry ⟨p, xs, ey, h, f1, f2, q.now (.bl _)⟩
end
end L2
namespace L2
open PySem PySem.Spec PyProof.Rows
theorem Reps.getS {K : PySem.W.Frag} {κ : Str -> Addr} {H : Hp} : ∀ {vs : List V} {ds : List D} {fp : List Addr} {i : Nat} {d : D}, Reps K κ H vs ds fp -> ds[i]? = some d -> ∃ v f, vs[i]? = some v /\ Rep K κ H v d f /\ f.Sublist fp
  | _, _, _, _, _, .nil, e => by simp at e
  | _, _, _, 0, _, .cons h _, e => by simp at e; subst e; exact ⟨_, _, rfl, h, List.sublist_append_left _ _⟩
  | _, _, _, i + 1, _, .cons _ hs, e => by
    obtain ⟨v, f, h1, h2, h3⟩ := Reps.getS (i := i) hs (by simpa using e)
    exact ⟨v, f, by simpa using h1, h2, h3.trans (List.sublist_append_right _ _)⟩
theorem Reps.atI {K : PySem.W.Frag} {κ : Str -> Addr} {H : Hp} {vs : List V} {ds : List D} {fp : List Addr} {i : Int} {d : D} (r : Reps K κ H vs ds fp) (h : L2.atI ds i = some d) : ∃ v f, L2.atI vs i = some v /\ Rep K κ H v d f /\ f.Sublist fp := by
  unfold L2.atI at h |-
  rw [r.length]
  cases e : ixN ds.length i with
  | none => rw [e] at h; cases h
  | some j => rw [e] at h; exact r.getS h
section
variable {X : Cx} {κ : Str -> Addr} {e a b : Expr} {es : List Expr} {f fa fb : PSt -> Option D} {g : PSt -> Option (List D)} {pos p2 : Pos}
noncomputable def za3 : PSt -> Option (List D) := fun _ => some []
noncomputable def za1 (f : PSt -> Option D) (g : PSt -> Option (List D)) : PSt -> Option (List D) := fun ps => (f ps).bind fun d => (g ps).bind fun ds => some (d :: ds)
theorem yg1 {ps : PSt} {ds : List D} (h : za1 f g ps = some ds) : ∃ d es, f ps = some d /\ g ps = some es /\ ds = d :: es := by
  unfold za1 at h
  cases e1 : f ps with
  | none => rw [e1] at h; cases h
  | some d =>
    rw [e1] at h
    cases e2 : g ps with
    | none => rw [e2] at h; cases h
    | some es => rw [e2] at h; cases h; exact ⟨d, es, rfl, rfl, rfl⟩
theorem zd4 : QVA X κ [] za3 := yb1.imp fun σ H Q ⟨ps, ds, w, e, q⟩ => by cases e; exact q [] H [] (.refl H) .nil
theorem zb5 (ha : QV X κ e f) (hr : QVA X κ es g) (hs : starEach (e :: es) X.env = (false, eval e X.env) :: starEach es X.env := by rfl) : QVA X κ (e :: es) (za1 f g) :=
  (zo1 ha hr hs).imp fun σ H Q hh_ => by
    obtain ⟨ps, ds, w, e, q⟩ := hh_
    obtain ⟨d, es, e1, e2, rfl⟩ := yg1 e
    exact ⟨ps, d, w, e1, fun v H1 fp s1 r1 => ⟨ps, es, w.same s1, e2, fun vs H2 fq s2 r2 => q _ H2 _ (s1.trans s2) (.cons (r1.same s2) r2)⟩⟩
theorem ze1 : QPA X κ [] za3 := yb1.imp fun σ H Q ⟨ps, ds, w, e, q⟩ => by cases e; exact q [] H [] (.refl H) (fun _ h => absurd h (by simp)) List.nodup_nil .nil
theorem wd3 {K : PySem.W.Frag} {H1 : Hp} {v : V} {d : D} {fv fw : List Addr} (r : Rep K κ H1 v d fv) (n1 : fv.Nodup) (hw : ∀ a ∈ fw, H1 a = none) (n2 : fw.Nodup) : (fv ++ fw).Nodup := by
  rw [List.nodup_append]
  refine ⟨n1, n2, fun a ha b hb e => ?_⟩
  subst e
  obtain ⟨o, h, _⟩ := r.own a ha
  rw [hw a hb] at h; cases h
theorem zb9 (ha : QP X κ e f) (hr : QPA X κ es g) (hs : starEach (e :: es) X.env = (false, eval e X.env) :: starEach es X.env := by rfl) : QPA X κ (e :: es) (za1 f g) :=
  (zo1 ha hr hs).imp fun σ H Q hh_ => by
    obtain ⟨ps, ds, w, e, q⟩ := hh_
    obtain ⟨d, es, e1, e2, rfl⟩ := yg1 e
    refine ⟨ps, d, w, e1, fun v H1 fv s1 n1 nd1 r1 => ⟨ps, es, w.same s1, e2, fun vs H2 fw s2 n2 nd2 r2 => ?_⟩⟩
    refine q _ H2 (fv ++ fw) (s1.trans s2) (fun a ha => ?_) (wd3 r1 nd1 n2 nd2) (.cons (r1.same s2) r2)
    rcases List.mem_append.mp ha with z | z
    . exact n1 a z
    . exact s1.grow a (n2 a z)
noncomputable def zg7 (g : PSt -> Option (List D)) : PSt -> Option D := fun ps => (g ps).bind fun ds => if (D.imms ds && decide (ds.length <= 1000)) = true then some (.tup ds) else none
noncomputable def zd7 (g : PSt -> Option (List D)) : PSt -> Option D := fun ps => (g ps).bind fun ds => if ds.length <= 1000 then some (.lst true ds) else none
theorem zp0 {x1} (h : QPA X κ es g) : QP X κ (.Tuple es x1 pos) (zg7 g) :=
  (wv0 h).imp fun σ H Q hh_ => by
    obtain ⟨ps, d, w, e, q⟩ := hh_
    obtain ⟨ds, e1, e2⟩ := bind_some e
    obtain ⟨hc, e3⟩ := zf8 e2
    cases e3
    rw [Bool.and_eq_true, decide_eq_true_eq] at hc
    refine ⟨ps, ds, w, e1, fun vs H1 fv s1 n1 nd1 r1 => ⟨by rw [r1.length]; exact xj7 hc.2, fun p hp => ?_⟩⟩
    exact xs5 hp (r1.pair hc.1) (q.after s1)
theorem zj1 (h : QPA X κ es g) : QP X κ (.List es pos) (zd7 g) :=
  (wv1 h).imp fun σ H Q hh_ => by
    obtain ⟨ps, d, w, e, q⟩ := hh_
    obtain ⟨ds, e1, e2⟩ := bind_some e
    obtain ⟨hc, e3⟩ := zf8 e2
    cases e3
    refine ⟨ps, ds, w, e1, fun vs H1 fv s1 n1 nd1 r1 => ⟨by rw [r1.length]; exact xj7 hc, fun p hp => ?_⟩⟩
    refine q _ _ (p :: fv) (s1.trans (.new hp _)) (fun a ha => ?_) (List.nodup_cons.mpr ⟨fun hm => ?_, nd1⟩) (.lst zi9 (r1.same (.new hp _)))
    . rcases List.mem_cons.mp ha with z | z
      . rw [z]; exact s1.grow p hp
      . exact n1 a z
    . obtain ⟨o, h, _⟩ := r1.own p hm
      rw [hp] at h; cases h
noncomputable def dIx : D -> D -> Option D
  | .lst _ xs, .int i => atI xs i
  | .tup xs, .int i => atI xs i
  | .con xs, .int i => atI xs i
  | .str z, .int i => if z.length <= sizeLine then (atI z.cps.toList i).map fun c => .str ⟨#[c]⟩ else none
  | _, _ => none
theorem wd4 {K : PySem.W.Frag} {H : Hp} {x y : V} {dx dy d : D} {fx fy : List Addr} {Q : VK} (r1 : Rep K κ H x dx fx) (r2 : Rep K κ H y dy fy) (e : dIx dx dy = some d) (q : ∀ v f, Rep K κ H v d f -> f.Sublist fx -> Q v H) : rIx K x y H Q := by
  unfold dIx at e
  split at e
  . rename_i o xs i
    obtain ⟨a, vs, g, rfl, h, hs, sub⟩ := r1.lst_inv
    obtain ⟨v, f, h1, h2, h3⟩ := hs.atI e
    exact .inl ⟨a, vs, i, v, rfl, r2.is_int, .inl h, h1, q v f h2 (h3.trans sub)⟩
  . rename_i xs i
    obtain ⟨a, vs, rfl, h, hs⟩ := r1.tup_inv
    obtain ⟨v, f, h1, h2, h3⟩ := hs.atI e
    cases List.sublist_nil.mp h3
    exact .inr (.inl ⟨a, vs, i, v, rfl, r2.is_int, h, h1, q v [] h2 (List.nil_sublist _)⟩)
  . rename_i xs i
    obtain ⟨a, vs, rfl, h, hs⟩ := r1.con_inv
    obtain ⟨v, f, h1, h2, h3⟩ := hs.atI e
    cases List.sublist_nil.mp h3
    exact .inl ⟨a, vs, i, v, rfl, r2.is_int, h.l, h1, q v [] h2 (List.nil_sublist _)⟩
  . rename_i z i
    obtain ⟨hz, e⟩ := zf8 e
    obtain ⟨c, e1, e⟩ := Option.map_eq_some_iff.mp e
    subst e
    exact .inr (.inr ⟨z, i, c, r1.is_str, r2.is_int, hz, e1, q _ [] (.str _) (List.nil_sublist _)⟩)
  . cases e
theorem zd1 (ha : QV X κ a fa) (hb : QV X κ b fb) (hs : yd4 b := by exact fun _ _ => rfl) : QV X κ (.Subscript a b pos) (f2 dIx fa fb) :=
  (xj5 wc4 ha hb hs).imp fun σ H Q hh_ => by
    obtain ⟨ps, d, w, e, q⟩ := hh_
    obtain ⟨x, y, e1, e2, e3⟩ := xd8 e
    exact ⟨ps, x, w, e1, fun v H1 fp s1 r1 => ⟨ps, y, w.same s1, e2, fun u H2 fq s2 r2 => wd4 (r1.same s2) r2 e3 fun v f r _ => q v H2 f (s1.trans s2) r⟩⟩
theorem ye2 (ha : QP X κ a fa) (hb : QV X κ b fb) (hs : yd4 b := by exact fun _ _ => rfl) : QP X κ (.Subscript a b pos) (f2 dIx fa fb) :=
  (xj5 wc4 ha hb hs).imp fun σ H Q hh_ => by
    obtain ⟨ps, d, w, e, q⟩ := hh_
    obtain ⟨x, y, e1, e2, e3⟩ := xd8 e
    exact ⟨ps, x, w, e1, fun v H1 fv s1 n1 nd1 r1 => ⟨ps, y, w.same s1, e2, fun u H2 fq s2 r2 => wd4 (r1.same s2) r2 e3 fun v f r sub => q v H2 f (s1.trans s2) (fun c hc => n1 c (sub.subset hc)) (nd1.sublist sub) r⟩⟩
noncomputable def yu5 : PSt -> Option (Option Int) := fun _ => some none
noncomputable def xk5 (f : PSt -> Option D) : PSt -> Option (Option Int) := fun ps => (f ps).bind fun d => match d with
  | .int i => some (some i)
  | _ => none
noncomputable def dSl : D -> Option Int -> Option Int -> Option D
  | _, _, _ => none
noncomputable def fSl (f : PSt -> Option D) (fl fh : PSt -> Option (Option Int)) : PSt -> Option D := fun ps => (f ps).bind fun d => (fl ps).bind fun l => (fh ps).bind fun h => dSl d l h
noncomputable def PCl (K : PySem.W.Frag) (κ : Str -> Addr) (g : List D -> Option D) : List V -> Hp -> VK -> Prop := fun vs H Q => ∃ ds fp d, Reps K κ H vs ds fp /\ g ds = some d /\ zx4 K κ H d Q
noncomputable def za7 (h : List D -> Option D) (g : PSt -> Option (List D)) : PSt -> Option D := fun ps => (g ps).bind h
theorem wd5 {h : List D -> Option D} {σ : St} {H : Hp} {Q : VK} (q : tP X.K κ (za7 h g) σ H Q) : tCB (PCl X.K κ h) (tVA X.K κ g) σ H Q := by
  obtain ⟨ps, d, w, e, q⟩ := q
  obtain ⟨ds, e1, e2⟩ := bind_some e
  exact ⟨ps, ds, w, e1, fun vs H1 fp s1 r1 => ⟨ds, fp, d, r1, e2, q.after s1⟩⟩
theorem zm4 {x : Str} {id : String} {p : Pos} {h : List D -> Option D} (hc : zk7 X (.builtin id) (PCl X.K κ h)) (hg : Gl X x) (hm : X.mg x = none) (hv : bootBuiltins x = some (.builtin id)) (ha : QVA X κ (e :: es) g) (hn : x ≠ "__name__" := by decide) (hdb : (x == ("__debug__" : Str)) = false := by decide)
    (hs : starEach (e :: es) X.env = (false, eval e X.env) :: starEach es X.env := by rfl) (hpl : (backTo pos (starEach es X.env)).any (·.1) = false := by rfl) : QP X κ (.Call (.Name x p) (e :: es) [] pos) (za7 h g) :=
  (yh1 hc hg hm hv ha hn hdb hs hpl).imp fun _ _ _ q => wd5 q
theorem zr2 {x : Str} {T : String} {p : Pos} {h : List D -> Option D} (hc : zk7 X (.type T) (PCl X.K κ h)) (hg : Gl X x) (hm : X.mg x = none) (hv : bootBuiltins x = some (.type T)) (ha : QVA X κ (e :: es) g) (hn : x ≠ "__name__" := by decide) (hdb : (x == ("__debug__" : Str)) = false := by decide)
    (hs : starEach (e :: es) X.env = (false, eval e X.env) :: starEach es X.env := by rfl) (hpl : (backTo pos (starEach es X.env)).any (·.1) = false := by rfl) : QP X κ (.Call (.Name x p) (e :: es) [] pos) (za7 h g) :=
  (wc3 hc hg hm hv ha hn hdb hs hpl).imp fun _ _ _ q => wd5 q
theorem Reps.two_inv {K : PySem.W.Frag} {H : Hp} {vs : List V} {d e : D} {fp : List Addr} (r : Reps K κ H vs [d, e] fp) : ∃ v u f g, vs = [v, u] /\ Rep K κ H v d f /\ Rep K κ H u e g := by
  obtain ⟨v, us, f, g, rfl, h, t, rfl⟩ := r.split
  obtain ⟨u, rfl, h2⟩ := t.one_inv
  exact ⟨v, u, f, g, rfl, h, h2⟩
noncomputable def ze3 : List D -> Option D
  | [.lst _ xs] => some (.int xs.length)
  | [.tup xs] => some (.int xs.length)
  | [.con xs] => some (.int xs.length)
  | [.str z] => if z.length <= sizeLine then some (.int z.length) else none
  | _ => none
theorem zw2 : zk7 X (.builtin "len") (PCl X.K κ ze3) := by
  rintro pins s σ H vs us Q I r ⟨ds, fp, d, rs, e, q⟩
  unfold ze3 at e
  split at e
  . cases e
    obtain ⟨v, rfl, r1⟩ := rs.one_inv
    obtain ⟨a, ws, g, rfl, h, hs, _⟩ := r1.lst_inv
    exact zu1 pins s σ H _ us Q I r ⟨a, ws, rfl, .inl (.inl h), by rw [hs.length]; exact q.now (.int _)⟩
  . cases e
    obtain ⟨v, rfl, r1⟩ := rs.one_inv
    obtain ⟨a, ws, rfl, h, hs⟩ := r1.tup_inv
    exact zu1 pins s σ H _ us Q I r ⟨a, ws, rfl, .inr h, by rw [hs.length]; exact q.now (.int _)⟩
  . cases e
    obtain ⟨v, rfl, r1⟩ := rs.one_inv
    obtain ⟨a, ws, rfl, h, hs⟩ := r1.con_inv
    exact zu1 pins s σ H _ us Q I r ⟨a, ws, rfl, .inl h.l, by rw [hs.length]; exact q.now (.int _)⟩
  . obtain ⟨hz, e⟩ := zf8 e
    cases e
    obtain ⟨v, rfl, r1⟩ := rs.one_inv
    exact xl5 pins s σ H _ us Q I r ⟨_, by rw [r1.is_str], hz, q.now (.int _)⟩
  . cases e
noncomputable def dTy : D -> Option String
  | .non => some "NoneType"
  | .bl _ => some "bool"
  | .int _ => some "int"
  | .str _ => some "str"
  | .lst _ _ => some "list"
  | .tup _ => some "tuple"
  | .dic true _ _ => some "dict"
  | _ => none
noncomputable def ys5 : List D -> Option D
  | [x, .ty c] => (dTy x).bind fun t => if c ∈ ["bool", "int", "str", "list", "tuple", "dict"] then some (.bl (xb7 t c)) else none
  | _ => none
theorem ww3 {K : PySem.W.Frag} {H : Hp} {v : V} {d : D} {fp : List Addr} {t : String} (r : Rep K κ H v d fp) (h : dTy d = some t) : (ym2 H v = some t \/ (t = "tuple" /\ ∃ a xs, v = .ref a /\ SqT K H a xs)) := by
  cases r with
  | non => cases h; exact .inl rfl
  | bl _ => cases h; exact .inl rfl
  | int _ => cases h; exact .inl rfl
  | str _ => cases h; exact .inl rfl
  | tup s _ => cases h; exact .inr ⟨rfl, _, _, rfl, s⟩
  | lst s _ => cases h; exact .inl (by simp [ym2, s])
  | lstF s _ => cases h; exact .inl (by simp [ym2, s])
  | dic s _ _ => cases h; exact .inl (by simp [ym2, s])
  | _ => cases h
theorem xx3 : zk7 X (.builtin "isinstance") (PCl X.K κ ys5) := by
  rintro pins s σ H vs us Q I r ⟨ds, fp, d, rs, e, q⟩
  unfold ys5 at e
  split at e
  . obtain ⟨t, e1, e2⟩ := bind_some e
    obtain ⟨hc, e3⟩ := zf8 e2
    cases e3
    obtain ⟨v, u, f, g, rfl, r1, r2⟩ := rs.two_inv
    cases r2
    rcases ww3 r1 e1 with h | ⟨rfl, a, xs, rfl, h⟩
    . exact wj5 pins s σ H _ us Q I r ⟨_, _, t, rfl, h, hc, q.now (.bl _)⟩
    . obtain ⟨u1, u2, rfl, rx, rc⟩ := xv6 r
      cases (show u2 = Value.type _ from rc)
      cases (show u1 = Value.ref a from rx)
      obtain ⟨its, rv, ⟨o, h1, h2, _⟩, _⟩ := I.tuple h
      exact PySem.W.kia_one PySem.W.kitx_tuple I.kIn ⟨o, h1, h2⟩ (xl7 X.K "tuple" (by decide) _ hc) (fun z => nomatch z) fun tk => ⟨.bl _, H, I.tok tk, rfl, q.now (.bl _)⟩
  . cases e
noncomputable def yu6 : List D -> Option D
  | [.lst _ xs] => if D.imms xs = true then some (.lst true xs) else none
  | [.tup xs] => some (.lst true xs)
  | _ => none
theorem xm3 : zk7 X (.type "list") (PCl X.K κ yu6) := by
  rintro pins s σ H vs us Q I r ⟨ds, fp, d, rs, e, q⟩
  unfold yu6 at e
  split at e
  . obtain ⟨hc, e⟩ := zf8 e
    cases e
    obtain ⟨v, rfl, r1⟩ := rs.one_inv
    obtain ⟨a, ws, g, rfl, h, hs, _⟩ := r1.lst_inv
    exact yq7 pins s σ H _ us Q I r ⟨a, ws, rfl, .inl (.inl h), fun p hp => yt6 hp (hs.pair hc) q⟩
  . cases e
    obtain ⟨v, rfl, r1⟩ := rs.one_inv
    obtain ⟨a, ws, rfl, h, hs⟩ := r1.tup_inv
    exact yq7 pins s σ H _ us Q I r ⟨a, ws, rfl, .inr h, fun p hp => yt6 hp hs.nilp q⟩
  . cases e
noncomputable def zg1 : List D -> Option D
  | [.lst _ xs] => if D.imms xs = true then some (.tup xs) else none
  | [.tup xs] => some (.tup xs)
  | _ => none
theorem ya7 : zk7 X (.type "tuple") (PCl X.K κ zg1) := by
  rintro pins s σ H vs us Q I r ⟨ds, fp, d, rs, e, q⟩
  unfold zg1 at e
  split at e
  . obtain ⟨hc, e⟩ := zf8 e
    cases e
    obtain ⟨v, rfl, r1⟩ := rs.one_inv
    obtain ⟨a, ws, g, rfl, h, hs, _⟩ := r1.lst_inv
    exact yq0 pins s σ H _ us Q I r ⟨a, ws, rfl, .inl ⟨.inl h, fun p hp => xs5 hp (hs.pair hc) q⟩⟩
  . cases e
    obtain ⟨v, rfl, r1⟩ := rs.one_inv
    obtain ⟨a, ws, rfl, h, hs⟩ := r1.tup_inv
    exact yq0 pins s σ H _ us Q I r ⟨a, ws, rfl, .inr ⟨h, q.now (.tup h hs)⟩⟩
  . cases e
noncomputable def yb8 : List D -> Option D
  | [.int i] => some (.int i)
  | [.bl k] => some (.int (if k then 1 else 0))
  | _ => none
theorem xx4 : zk7 X (.type "int") (PCl X.K κ yb8) := by
  rintro pins s σ H vs us Q I r ⟨ds, fp, d, rs, e, q⟩
  unfold yb8 at e
  split at e
  . cases e
    obtain ⟨v, rfl, r1⟩ := rs.one_inv
    exact xg3 pins s σ H _ us Q I r (.inl ⟨_, by rw [r1.is_int], q.now (.int _)⟩)
  . cases e
    obtain ⟨v, rfl, r1⟩ := rs.one_inv
    exact xg3 pins s σ H _ us Q I r (.inr ⟨_, by rw [r1.is_bl], q.now (.int _)⟩)
  . cases e
noncomputable def PMt (K : PySem.W.Frag) (κ : Str -> Addr) (g : D -> List D -> Option D) : V -> List V -> Hp -> VK -> Prop := fun x vs H Q => ∃ dx ds fx fp d, Rep K κ H x dx fx /\ Reps K κ H vs ds fp /\ g dx ds = some d /\ zx4 K κ H d Q
noncomputable def yg4 : D -> Bool
  | .str _ => true
  | _ => false
noncomputable def fMt (h : D -> List D -> Option D) (f : PSt -> Option D) (g : PSt -> Option (List D)) : PSt -> Option D := fun ps => (f ps).bind fun x => (g ps).bind fun ds => if yg4 x = true then h x ds else none
theorem yz4 {name : Str} {id : String} {apos : Pos} {h : D -> List D -> Option D} (slot : Slot "str" name id) (hty : typeOf (.builtin id) = pure (.type "method_descriptor")) (hm : MtR X id (PMt X.K κ h)) (ho : QV X κ a fa) (ha : QVA X κ (e :: es) g)
    (hbase : attributeBase a name X.env (eval a X.env) = eval a X.env := by rfl)
    (hfew : ((backTo pos (starEach (e :: es) X.env)).all (fun x => !x.1) && (backToKw pos (keywordEach [] X.env)).all (fun x => x.1.isSome)
      && decide ((e :: es).length + ([] : List Keyword).length + (if ([] : List Keyword).isEmpty then 0 else 1) < 30)) = true := by rfl)
    (hline : (apos.endLine == pos.line) = true := by rfl) (hs : starEach (e :: es) X.env = (false, eval e X.env) :: starEach es X.env := by rfl) (hplain : (backTo pos (starEach es X.env)).any (·.1) = false := by rfl) :
    QP X κ (.Call (.Attribute a name apos) (e :: es) [] pos) (fMt h fa g) :=
  (xw2 PySem.F.plainAttrs_str slot hty hm ho ha hbase hfew hline hs hplain).imp fun σ H Q hh_ => by
    obtain ⟨ps, d, w, e, q⟩ := hh_
    obtain ⟨x, e1, e2⟩ := bind_some e
    obtain ⟨ds, e3, e4⟩ := bind_some e2
    obtain ⟨hc, e5⟩ := zf8 e4
    refine ⟨ps, x, w, e1, fun v H1 fp s1 r1 => ⟨?_, ps, ds, w.same s1, e3, fun vs H2 fq s2 r2 => ⟨x, ds, fp, fq, d, r1.same s2, r2, e5, q.after (s1.trans s2)⟩⟩⟩
    cases x with
    | str z => rw [r1.is_str]; rfl
    | _ => cases hc
noncomputable def zp8 (l : List Str) : List D := l.map .str
theorem xh5 {K : PySem.W.Frag} {H : Hp} : ∀ l : List Str, Paired (fun v d => Rep K κ H v d []) (l.map V.str) (zp8 l)
  | [] => .nil
  | x :: l => .cons (.str x) (xh5 l)
noncomputable def yb9 : D -> List D -> Option D
  | .str z, [.str y] => if ((y.length == 0) = false /\ z.length < 1000000) then some (.lst true (zp8 (Txt.split z y))) else none
  | _, _ => none
theorem xe0 : MtR X "str.split" (PMt X.K κ yb9) := by
  rintro pins s σ H x vs v us Q I rx r ⟨dx, ds, fx, fp, d, r1, rs, e, q⟩
  unfold yb9 at e
  split at e
  . obtain ⟨hc, e⟩ := zf8 e
    cases e
    obtain ⟨w, rfl, r2⟩ := rs.one_inv
    exact wj6 pins s σ H x _ v us Q I rx r ⟨_, _, r1.is_str, by rw [r2.is_str], hc.1, hc.2, fun p hp => yt6 hp (xh5 _) q⟩
  . cases e
noncomputable def D.strs : List D -> Option (List Str)
  | [] => some []
  | .str b :: ds => (D.strs ds).map (b :: ·)
  | _ :: _ => none
theorem yl1 {K : PySem.W.Frag} {H : Hp} : ∀ {vs : List V} {ds : List D} {fp : List Addr} {ns : List Str}, Reps K κ H vs ds fp -> D.strs ds = some ns -> vs = ns.map V.str
  | _, _, _, _, .nil, e => by cases e; rfl
  | _, d :: ds, _, ns, .cons h hs, e => by
    cases d with
    | str i =>
      rw [D.strs] at e
      cases e1 : D.strs ds with
      | none => rw [e1] at e; cases e
      | some ms => rw [e1] at e; cases e; rw [h.is_str, yl1 hs e1]; rfl
    | _ => cases e
noncomputable def zv1 : D -> List D -> Option D
  | .str z, [.lst _ xs] => (D.strs xs).bind fun ys => if (z.length <= 16 /\ (ys.map (·.length)).sum + ys.length <= 1048576) then some (.str (Txt.join z ys)) else none
  | _, _ => none
theorem yz5 : MtR X "str.join" (PMt X.K κ zv1) := by
  rintro pins s σ H x vs v us Q I rx r ⟨dx, ds, fx, fp, d, r1, rs, e, q⟩
  unfold zv1 at e
  split at e
  . obtain ⟨ys, e1, e2⟩ := bind_some e
    obtain ⟨hc, e⟩ := zf8 e2
    cases e
    obtain ⟨w, rfl, r2⟩ := rs.one_inv
    obtain ⟨a, ws, g, rfl, h, hs, _⟩ := r2.lst_inv
    rw [yl1 hs e1] at h
    exact wq5 pins s σ H x _ v us Q I rx r ⟨_, a, ys, r1.is_str, rfl, .inl h, hc.1, hc.2, q.now (.str _)⟩
  . cases e
end
end L2
namespace L2
open PySem PySem.Spec PyProof.Rows
structure Fx where
  K : PySem.W.Frag
  κ : Str -> Addr
  bor : Nat -> Bool
  M : Nat -> Bool
  B : Nat -> Addr -> Prop
structure RS (φ : Fx) (H : Hp) (σ : St) (ps : PSt) (F : Nat -> List Addr) : Prop where
  rep : ∀ (i : Nat) (d : D), ps[i]? = some (some d) -> ∃ v fp, σ[i]? = some (some v) /\ Rep φ.K φ.κ H v d fp /\ (φ.bor i = false -> fp = F i) /\ (φ.bor i = true -> ∀ a ∈ fp, φ.B i a)
  emp : ∀ i a, a ∈ F i -> φ.bor i = false /\ ∃ d, ps[i]? = some (some d)
  dis : ∀ i j a, a ∈ F i -> a ∈ F j -> i = j
  nd : ∀ i, (F i).Nodup
  nb : ∀ i a, a ∈ F i -> ∀ k, ¬ φ.B k a
  bt : ∀ k a, φ.B k a -> H a ≠ none
  len : ps.length <= σ.length
structure Frm (F : Nat -> List Addr) (H H' : Hp) : Prop where
  keep : ∀ a o, H a = some o -> kd o = true -> (∀ i, a ∉ F i) -> H' a = some o
  grow : ∀ a, H' a = none -> H a = none
structure Stp (φ : Fx) (σ : St) (H : Hp) (F : Nat -> List Addr) (σ' : St) (H' : Hp) (ps' : PSt) (F' : Nat -> List Addr) : Prop where
  fr : Frm F H H'
  nw : ∀ i a, a ∈ F' i -> (∃ j, a ∈ F j) \/ H a = none
  rs : RS φ H' σ' ps' F'
  msk : ∀ i, φ.M i = true -> σ'[i]? = σ[i]?
structure OwnV (F : Nat -> List Addr) (H : Hp) (F' : Nat -> List Addr) (fv : List Addr) : Prop where
  nw : ∀ a ∈ fv, (∃ j, a ∈ F j) \/ H a = none
  nd : fv.Nodup
  dis : ∀ i, ∀ a ∈ F' i, a ∉ fv
section
variable {φ : Fx} {H H' H1 H2 : Hp} {σ σ1 σ2 : St} {ps ps1 ps2 : PSt} {F F1 F2 : Nat -> List Addr}
theorem RS.own (R : RS φ H σ ps F) {i : Nat} {a : Addr} (h : a ∈ F i) : ∃ o, H a = some o /\ kd o = true /\ tf o = false := by
  obtain ⟨b, d, e⟩ := R.emp i a h
  obtain ⟨v, fp, _, r, q, _⟩ := R.rep i d e
  rw [<- q b] at h
  exact r.own a h
theorem RS.ws (R : RS φ H σ ps F) : WS φ.K φ.κ H σ ps := fun i d h => by
  obtain ⟨v, fp, h1, h2, _⟩ := R.rep i d h
  exact ⟨v, fp, h1, h2⟩
theorem RS.same (R : RS φ H σ ps F) (s : SameK H H') : RS φ H' σ ps F :=
  ⟨fun i d h => by obtain ⟨v, fp, h1, h2, h3⟩ := R.rep i d h; exact ⟨v, fp, h1, h2.same s, h3⟩, R.emp, R.dis, R.nd, R.nb, fun k a h z => R.bt k a h (s.grow a z), R.len⟩
theorem RS.notB (R : RS φ H σ ps F) {a : Addr} (h : (∃ j, a ∈ F j) \/ H a = none) : ∀ k, ¬ φ.B k a := fun k hb => h.elim (fun ⟨j, hj⟩ => R.nb j a hj k hb) fun z => R.bt k a hb z
theorem Stp.same (R : RS φ H σ ps F) (s : SameK H H') : Stp φ σ H F σ H' ps F :=
  ⟨⟨fun a o h k _ => s.keep a o h k, s.grow⟩, fun i a h => .inl ⟨i, h⟩, R.same s, fun _ _ => rfl⟩
theorem Stp.refl (R : RS φ H σ ps F) : Stp φ σ H F σ H ps F := .same R (.refl H)
theorem Stp.trans (s1 : Stp φ σ H F σ1 H1 ps1 F1) (s2 : Stp φ σ1 H1 F1 σ2 H2 ps2 F2) : Stp φ σ H F σ2 H2 ps2 F2 := by
  refine ⟨⟨fun a o h k n => s2.fr.keep a o (s1.fr.keep a o h k n) k fun i hi => ?_, fun a h => s1.fr.grow a (s2.fr.grow a h)⟩, fun i a h => ?_, s2.rs, fun i h => (s2.msk i h).trans (s1.msk i h)⟩
  . rcases s1.nw i a hi with ⟨j, hj⟩ | z
    . exact n j hj
    . rw [h] at z; cases z
  . rcases s2.nw i a h with ⟨j, hj⟩ | z
    . exact s1.nw j a hj
    . exact .inr (s1.fr.grow a z)
theorem OwnV.after {fv : List Addr} (s1 : Stp φ σ H F σ1 H1 ps1 F1) (o : OwnV F1 H1 F2 fv) : OwnV F H F2 fv :=
  ⟨fun a ha => (o.nw a ha).elim (fun ⟨j, hj⟩ => s1.nw j a hj) fun z => .inr (s1.fr.grow a z), o.nd, o.dis⟩
theorem OwnV.new {fv : List Addr} (R : RS φ H σ ps F) (n : ∀ a ∈ fv, H a = none) (nd : fv.Nodup) : OwnV F H F fv :=
  ⟨fun a ha => .inr (n a ha), nd, fun i a ha hb => by obtain ⟨o, h, _⟩ := R.own ha; rw [n a hb] at h; cases h⟩
noncomputable def yk4 (F : Nat -> List Addr) (i : Nat) (fv : List Addr) : Nat -> List Addr := fun j => if j = i then fv else F j
theorem zl8 {i : Nat} {fv : List Addr} : yk4 F i fv i = fv := by simp [yk4]
theorem zl9 {i j : Nat} {fv : List Addr} (h : j ≠ i) : yk4 F i fv j = F j := by simp [yk4, h]
theorem zu8 {i : Nat} {fv : List Addr} {j : Nat} {a : Addr} (h : a ∈ yk4 F i fv j) : a ∈ fv \/ a ∈ F j := by
  by_cases e : j = i
  . subst e; rw [zl8] at h; exact .inl h
  . rw [zl9 e] at h; exact .inr h
theorem RS.drop (R : RS φ H σ ps F) (i : Nat) : RS φ H σ (ps.set i none) (yk4 F i []) := by
  have eF : ∀ j a, a ∈ yk4 F i [] j -> j ≠ i /\ a ∈ F j := fun j a h => by
    by_cases e : j = i
    . subst e; rw [zl8] at h; exact absurd h (by simp)
    . rw [zl9 e] at h; exact ⟨e, h⟩
  refine ⟨fun j d h => ?_, fun j a h => ?_, fun j k a h1 h2 => R.dis j k a (eF j a h1).2 (eF k a h2).2, fun j => ?_, fun j a h => R.nb j a (eF j a h).2, R.bt, by simpa using R.len⟩
  . have e : j ≠ i := by
      rintro rfl
      by_cases hj : j < ps.length
      . rw [List.getElem?_set_self hj] at h; cases h
      . rw [List.getElem?_eq_none (by simpa using hj)] at h; cases h
    rw [List.getElem?_set_ne (fun z => e z.symm)] at h
    rw [zl9 e]
    exact R.rep j d h
  . obtain ⟨e, h⟩ := eF j a h
    obtain ⟨b, d, q⟩ := R.emp j a h
    exact ⟨b, d, by rw [List.getElem?_set_ne (fun z => e z.symm)]; exact q⟩
  . by_cases e : j = i
    . subst e; rw [zl8]; exact List.nodup_nil
    . rw [zl9 e]; exact R.nd j
theorem RS.set (R : RS φ H σ ps F) {i : Nat} {v : V} {d : D} {fv : List Addr} (r : Rep φ.K φ.κ H v d fv) (hb : φ.bor i = false \/ fv = []) (hd : ∀ j, j ≠ i -> ∀ a ∈ F j, a ∉ fv) (hn : fv.Nodup) (hB : ∀ a ∈ fv, ∀ k, ¬ φ.B k a) :
    RS φ H (σ.set i (some v)) (ps.set i (some d)) (yk4 F i (if i < ps.length then fv else [])) := by
  by_cases hi : i < ps.length
  . rw [if_pos hi]
    have hl := R.len
    refine ⟨fun j d' h => ?_, fun j a h => ?_, fun j k a h1 h2 => ?_, fun j => ?_, fun j a h => ?_, R.bt, by simpa using R.len⟩
    . by_cases e : j = i
      . subst e
        rw [List.getElem?_set_self hi] at h
        cases h
        refine ⟨v, fv, by rw [List.getElem?_set_self (by omega)], r, fun _ => zl8.symm, fun z => ?_⟩
        rcases hb with q | q
        . rw [q] at z; cases z
        . subst q; intro a ha; exact absurd ha (by simp)
      . rw [List.getElem?_set_ne (fun z => e z.symm)] at h |-
        rw [zl9 e]
        exact R.rep j d' h
    . by_cases e : j = i
      . subst e
        rw [zl8] at h
        refine ⟨?_, d, by rw [List.getElem?_set_self hi]⟩
        rcases hb with q | q
        . exact q
        . subst q; exact absurd h (by simp)
      . rw [zl9 e] at h
        obtain ⟨b, d', q⟩ := R.emp j a h
        exact ⟨b, d', by rw [List.getElem?_set_ne (fun z => e z.symm)]; exact q⟩
    . by_cases e1 : j = i
      . by_cases e2 : k = i
        . rw [e1, e2]
        . subst e1; rw [zl8] at h1; rw [zl9 e2] at h2; exact absurd h1 (hd k e2 a h2)
      . by_cases e2 : k = i
        . subst e2; rw [zl8] at h2; rw [zl9 e1] at h1; exact absurd h2 (hd j e1 a h1)
        . rw [zl9 e1] at h1; rw [zl9 e2] at h2; exact R.dis j k a h1 h2
    . by_cases e : j = i
      . subst e; rw [zl8]; exact hn
      . rw [zl9 e]; exact R.nd j
    . rcases zu8 h with z | z
      . exact hB a z
      . exact R.nb j a z
  . rw [if_neg hi]
    have e0 : ps.set i (some d) = ps := List.set_eq_of_length_le (by omega)
    rw [e0]
    have R' := R.drop i
    rw [List.set_eq_of_length_le (by omega)] at R'
    refine ⟨fun j d' h => ?_, R'.emp, R'.dis, R'.nd, R'.nb, R'.bt, by simpa using R.len⟩
    have hj : j ≠ i := by
      rintro rfl
      have := (List.getElem?_eq_some_iff.mp h).1
      omega
    rw [List.getElem?_set_ne (fun z => hj z.symm)]
    exact R'.rep j d' h
theorem Stp.set {fv : List Addr} {i : Nat} {v : V} {d : D} (s1 : Stp φ σ H F σ1 H1 ps1 F1) (o : OwnV F H F1 fv) (R : RS φ H σ ps F) (r : Rep φ.K φ.κ H1 v d fv) (hb : φ.bor i = false \/ fv = []) (hm : φ.M i = false) :
    ∃ F', Stp φ σ H F (σ1.set i (some v)) H1 (ps1.set i (some d)) F' := by
  refine ⟨_, s1.fr, fun j a h => ?_, s1.rs.set r hb (fun j _ => o.dis j) o.nd fun a ha => R.notB (o.nw a ha), fun j h => ?_⟩
  . rcases zu8 h with z | z
    . by_cases k : i < ps1.length
      . rw [if_pos k] at z; exact o.nw a z
      . rw [if_neg k] at z; exact absurd z (by simp)
    . exact s1.nw j a z
  . rw [List.getElem?_set_ne (fun z => by subst z; rw [hm] at h; cases h)]
    exact s1.msk j h
end
inductive Fl where
  | nx | bk | ct | ret (d : D)
noncomputable def yu7 (φ : Fx) (E : Ends) (σ : St) (H : Hp) (F : Nat -> List Addr) (fl : Fl) (ps' : PSt) : Prop := match fl with
  | .nx => ∀ σ' H' F', Stp φ σ H F σ' H' ps' F' -> E.nx σ' H'
  | .bk => ∀ σ' H' F', Stp φ σ H F σ' H' ps' F' -> E.bk σ' H'
  | .ct => ∀ σ' H' F', Stp φ σ H F σ' H' ps' F' -> E.ct σ' H'
  | .ret d => ∀ v σ' H' F' fv, Stp φ σ H F σ' H' ps' F' -> OwnV F H F' fv -> Rep φ.K φ.κ H' v d fv -> E.rt v H'
noncomputable def tS (φ : Fx) (f : PSt -> Option (Fl × PSt)) : TS := fun E σ H => ∃ ps F fl ps', RS φ H σ ps F /\ f ps = some (fl, ps') /\ yu7 φ E σ H F fl ps'
noncomputable def tE (φ : Fx) (f : PSt -> Option (D × PSt)) : TE := fun σ H Q => ∃ ps F d ps', RS φ H σ ps F /\ f ps = some (d, ps') /\ ∀ v H' F' fv, Stp φ σ H F σ H' ps' F' -> OwnV F H F' fv -> Rep φ.K φ.κ H' v d fv -> Q v H'
noncomputable def tTE (φ : Fx) (f : PSt -> Option (Bool × PSt)) : TT := fun σ H Q => ∃ ps F b ps', RS φ H σ ps F /\ f ps = some (b, ps') /\ ∀ H' F', Stp φ σ H F σ H' ps' F' -> Q b H'
structure F0 where
  bor : Nat -> Bool
  M : Nat -> Bool
  B : Nat -> Addr -> Prop
noncomputable def F0.fx (φ : F0) (K : PySem.W.Frag) (κ : Str -> Addr) : Fx := ⟨K, κ, φ.bor, φ.M, φ.B⟩
noncomputable abbrev QS (X : Cx) (κ : Str -> Addr) (φ : F0) (st : Stmt) (f : PSt -> Option (Fl × PSt)) : Prop := PS X st (tS (φ.fx X.K κ) f)
noncomputable abbrev QSs (X : Cx) (κ : Str -> Addr) (φ : F0) (st : List Stmt) (f : PSt -> Option (Fl × PSt)) : Prop := PSs X st (tS (φ.fx X.K κ) f)
noncomputable abbrev QE (X : Cx) (κ : Str -> Addr) (φ : F0) (e : Expr) (f : PSt -> Option (D × PSt)) : Prop := PE X e (tE (φ.fx X.K κ) f)
noncomputable abbrev QTE (X : Cx) (κ : Str -> Addr) (φ : F0) (e : Expr) (f : PSt -> Option (Bool × PSt)) : Prop := PT X e (tTE (φ.fx X.K κ) f)
theorem yw6 {φ : Fx} {f : PSt -> Option (Fl × PSt)} {E : Ends} {σ σ1 : St} {H H1 : Hp} {F F1 : Nat -> List Addr} {ps1 ps2 : PSt} {fl : Fl} (s1 : Stp φ σ H F σ1 H1 ps1 F1) (e : f ps1 = some (fl, ps2)) (q : yu7 φ E σ H F fl ps2) : tS φ f E σ1 H1 := by
  refine ⟨ps1, F1, fl, ps2, s1.rs, e, ?_⟩
  cases fl with
  | nx => exact fun σ' H' F' s => q σ' H' F' (s1.trans s)
  | bk => exact fun σ' H' F' s => q σ' H' F' (s1.trans s)
  | ct => exact fun σ' H' F' s => q σ' H' F' (s1.trans s)
  | ret d => exact fun v σ' H' F' fv s o r => q v σ' H' F' fv (s1.trans s) (o.after s1) r
noncomputable def zc1 : PSt -> Option (Fl × PSt) := fun ps => some (.nx, ps)
noncomputable def za9 (f g : PSt -> Option (Fl × PSt)) : PSt -> Option (Fl × PSt) := fun ps => (f ps).bind fun r => match r with
  | (.nx, ps') => g ps'
  | (.bk, ps') => some (.bk, ps')
  | (.ct, ps') => some (.ct, ps')
  | (.ret d, ps') => some (.ret d, ps')
noncomputable def ym3 : PSt -> Option (Fl × PSt) := fun _ => none
section
variable {X : Cx} {κ : Str -> Addr} {φ : F0} {st : Stmt} {zc2 : List Stmt} {f g : PSt -> Option (Fl × PSt)} {pos : Pos}
theorem ze8 : QSs X κ φ [] zc1 := xr5.imp fun E σ H ⟨ps, F, fl, ps', R, e, q⟩ => by cases e; exact q σ H F (.refl R)
theorem zb3 (h : QS X κ φ st f) : QSs X κ φ [st] f := yt3 h
theorem zb0 (h1 : QS X κ φ st f) (h2 : QSs X κ φ zc2 g) : QSs X κ φ (st :: zc2) (za9 f g) :=
  (zz8 h1 h2).imp fun E σ H hh_ => by
    obtain ⟨ps, F, fl, ps', R, e, q⟩ := hh_
    obtain ⟨⟨fl1, ps1⟩, e1, e2⟩ := bind_some e
    refine ⟨ps, F, fl1, ps1, R, e1, ?_⟩
    cases fl1 with
    | nx => exact fun σ' H' F' s => yw6 s e2 q
    | bk => cases e2; exact q
    | ct => cases e2; exact q
    | ret d => cases e2; exact q
theorem yc7 : QS X κ φ st ym3 := wi2.imp fun E σ H ⟨ps, F, fl, ps', R, e, q⟩ => by cases e
noncomputable def za5 (f : PSt -> Option D) : PSt -> Option (D × PSt) := fun ps => (f ps).bind fun d => some (d, ps)
theorem QP.e {e : Expr} {f : PSt -> Option D} (h : PE X e (tP X.K κ f)) : QE X κ φ e (za5 f) := h.imp fun σ H Q hh_ => by
  obtain ⟨ps, F, d, ps', R, e, q⟩ := hh_
  obtain ⟨d1, e1, e2⟩ := bind_some e
  cases e2
  exact ⟨ps, _, R.ws, e1, fun v H' fv s n nd r => q v H' F fv (.same R s) (.new R n nd) r⟩
noncomputable def za8 (f : PSt -> Option Bool) : PSt -> Option (Bool × PSt) := fun ps => (f ps).bind fun d => some (d, ps)
theorem QT.e {e : Expr} {f : PSt -> Option Bool} (h : PT X e (tQ X.K κ f)) : QTE X κ φ e (za8 f) := h.imp fun σ H Q hh_ => by
  obtain ⟨ps, F, d, ps', R, e, q⟩ := hh_
  obtain ⟨d1, e1, e2⟩ := bind_some e
  cases e2
  exact ⟨ps, _, R.ws, e1, fun H' s => q H' F (.same R s)⟩
noncomputable def zb4 (i : Nat) (f : PSt -> Option (D × PSt)) : PSt -> Option (Fl × PSt) := fun ps => (f ps).bind fun r => some (.nx, r.2.set i (some r.1))
theorem zf1 (i : Nat) {x : Str} {e : Expr} {pos' : Pos} {f : PSt -> Option (D × PSt)} (hN : X.N.Nodup) (hi : X.N[i]? = some x) (hx : Loc X.env.scope x) (hb : φ.bor i = false) (hm : φ.M i = false) (he : QE X κ φ e f) (hs : swapsWith e (some (.Name x pos')) pos.line X.env = pure false := by rfl) (hf : X.fn x = true \/ X.env.scope.names.lookup x = some .local := by first | exact .inl rfl | exact .inr rfl | assumption) :
    QS X κ φ (.Assign [.Name x pos'] e pos) (zb4 i f) := (yk8 hN hi hx he hs hf).imp fun E σ H hh_ => by
  obtain ⟨ps, F, fl, ps', R, e, q⟩ := hh_
  obtain ⟨⟨d, ps1⟩, e1, e2⟩ := bind_some e
  cases e2
  refine ⟨ps, F, d, ps1, R, e1, fun v H' F' fv s o r => ?_⟩
  obtain ⟨F2, s2⟩ := s.set o R r (.inl hb) hm (i := i)
  exact q _ _ F2 s2
noncomputable def zc3 (f : PSt -> Option (D × PSt)) : PSt -> Option (Fl × PSt) := fun ps => (f ps).bind fun r => some (.nx, r.2)
theorem zl2 {e : Expr} {f : PSt -> Option (D × PSt)} (he : QE X κ φ e f) (hs : swapsWith e none pos.line X.env = pure false := by rfl) : QS X κ φ (.Expr e pos) (zc3 f) := (wp8 he hs).imp fun E σ H hh_ => by
  obtain ⟨ps, F, fl, ps', R, e, q⟩ := hh_
  obtain ⟨⟨d, ps1⟩, e1, e2⟩ := bind_some e
  cases e2
  exact ⟨ps, F, d, ps1, R, e1, fun v H' F' fv s o r => q _ _ F' s⟩
noncomputable def zd3 (f : PSt -> Option (D × PSt)) : PSt -> Option (Fl × PSt) := fun ps => (f ps).bind fun r => some (.ret r.1, r.2)
theorem zg8 {e : Expr} {f : PSt -> Option (D × PSt)} (he : QE X κ φ e f) : QS X κ φ (.Return (some e) pos) (zd3 f) := (yq5 he).imp fun E σ H hh_ => by
  obtain ⟨ps, F, fl, ps', R, e, q⟩ := hh_
  obtain ⟨⟨d, ps1⟩, e1, e2⟩ := bind_some e
  cases e2
  exact ⟨ps, F, d, ps1, R, e1, fun v H' F' fv s o r => q v σ H' F' fv s o r⟩
noncomputable def zi6 (i : Nat) : PSt -> Option (Fl × PSt) := fun ps => ((ps[i]?).join).bind fun d => some (.ret d, ps.set i none)
theorem join_some {ps : PSt} {i : Nat} {d : D} (h : (ps[i]?).join = some d) : ps[i]? = some (some d) := by
  cases q : ps[i]? with
  | none => rw [q] at h; cases h
  | some o => rw [q] at h; exact congrArg some h
theorem yl2 (i : Nat) {x : Str} {p : Pos} (hb : φ.bor i = false) (hN : X.N[i]? = some x := by rfl) (hv : Vis X.env.scope x := by first | exact Or.inl rfl | exact Or.inr (Or.inl rfl) | exact Or.inr (Or.inr rfl)) (hd : (x == ("__debug__" : Str)) = false := by decide)
    (hcd : (x == ("__classdict__" : Str)) = false := by decide) : QS X κ φ (.Return (some (.Name x p)) pos) (zi6 i) := (yq5 (yk7 hN hv hd hcd)).imp fun E σ H hh_ => by
  obtain ⟨ps, F, fl, ps', R, e, q⟩ := hh_
  obtain ⟨d, e1, e2⟩ := bind_some e
  cases e2
  obtain ⟨v, fp, h1, h2, h3, _⟩ := R.rep i d (join_some e1)
  have h3 := h3 hb
  subst h3
  refine ⟨v, h1, q v σ H (yk4 F i []) (F i) ⟨⟨fun a o h _ _ => h, fun a h => h⟩, fun j a h => ?_, R.drop i, fun _ _ => rfl⟩ ⟨fun a h => .inl ⟨i, h⟩, R.nd i, fun j a h1 h2 => ?_⟩ h2⟩
  . rcases zu8 h with z | z
    . exact absurd z (by simp)
    . exact .inl ⟨j, z⟩
  . rcases zu8 h1 with z | z
    . exact absurd z (by simp)
    . have := R.dis j i a z h2
      subst this
      rw [zl8] at h1; exact absurd h1 (by simp)
noncomputable def fIf (c : PSt -> Option (Bool × PSt)) (f g : PSt -> Option (Fl × PSt)) : PSt -> Option (Fl × PSt) := fun ps => (c ps).bind fun r => if r.1 = true then f r.2 else g r.2
theorem zg5 {c : Expr} {a b : List Stmt} {tc : PSt -> Option (Bool × PSt)} (hc : QTE X κ φ c tc) (ha : QSs X κ φ a f) (hb : QSs X κ φ b g) : QS X κ φ (.If c a b pos) (fIf tc f g) := (wo1 hc ha hb).imp fun E σ H hh_ => by
  obtain ⟨ps, F, fl, ps', R, e, q⟩ := hh_
  obtain ⟨⟨k, ps1⟩, e1, e2⟩ := bind_some e
  refine ⟨ps, F, k, ps1, R, e1, fun H' F' s => ?_⟩
  cases k with
  | true => rw [if_pos rfl] at e2 |-; exact yw6 s e2 q
  | false => rw [if_neg Bool.false_ne_true] at e2 |-; exact yw6 s e2 q
end
end L2
namespace L2
open PySem PySem.Spec PyProof.Rows
noncomputable def zv7 (c : PSt -> Option (Bool × PSt)) (f : PSt -> Option (Fl × PSt)) : Nat -> PSt -> Option (Fl × PSt)
  | 0, _ => none
  | n + 1, ps => (c ps).bind fun r => if r.1 = true then (f r.2).bind fun q => match q with
      | (.nx, p) => zv7 c f n p
      | (.ct, p) => zv7 c f n p
      | (.bk, p) => some (.nx, p)
      | (.ret d, p) => some (.ret d, p)
    else some (.nx, r.2)
section
variable {X : Cx} {φ : Fx} {pos : Pos} {body : List Stmt} {f : PSt -> Option (Fl × PSt)}
theorem yu7.back {E : Ends} {σ σ1 : St} {H H1 : Hp} {F F1 : Nat -> List Addr} {ps1 ps2 : PSt} {fl : Fl} (s1 : Stp φ σ H F σ1 H1 ps1 F1) (q : yu7 φ E σ H F fl ps2) : yu7 φ E σ1 H1 F1 fl ps2 := by
  cases fl with
  | nx => exact fun σ' H' F' s => q σ' H' F' (s1.trans s)
  | bk => exact fun σ' H' F' s => q σ' H' F' (s1.trans s)
  | ct => exact fun σ' H' F' s => q σ' H' F' (s1.trans s)
  | ret d => exact fun v σ' H' F' fv s o r => q v σ' H' F' fv (s1.trans s) (o.after s1) r
theorem yw7 {κ : Str -> Addr} {φ : F0} (n : Nat) {c : Expr} {tc : PSt -> Option (Bool × PSt)} (hp : PassesOwn (model X.prog X.w) X.A X.env X.xe) (hc : QTE X κ φ c tc) (hb : QSs X κ φ body f) : QS X κ φ (.While c body [] pos) (zv7 tc f n) :=
  (wi3 hp hc hb).imp fun E σ H hh_ => by
    obtain ⟨ps, F, fl, ps', R, e, q⟩ := hh_
    refine ⟨fun m σ1 H1 => ∃ ps1 F1, Stp (φ.fx X.K κ) σ H F σ1 H1 ps1 F1 /\ zv7 tc f m ps1 = some (fl, ps'), ⟨n, ps, F, .refl R, e⟩, ?_⟩
    rintro m σ1 H1 ⟨ps1, F1, s1, e1⟩
    cases m with
    | zero => cases e1
    | succ m =>
      rw [zv7] at e1
      obtain ⟨⟨k, ps2⟩, e2, e3⟩ := bind_some e1
      refine ⟨ps1, F1, k, ps2, s1.rs, e2, fun H2 F2 s2 => ?_⟩
      have s12 := s1.trans s2
      cases k with
      | true =>
        dsimp only at e3 |-
        rw [if_pos rfl] at e3 |-
        obtain ⟨⟨fl3, ps3⟩, e4, e5⟩ := bind_some e3
        refine ⟨fun σ' H' => ∃ F', Stp (φ.fx X.K κ) σ1 H2 F2 σ' H' ps3 F' /\ zv7 tc f m ps3 = some (fl, ps'), fun σ' H' ⟨F', s, e⟩ => ⟨m, Nat.lt_succ_self m, ps3, F', s12.trans s, e⟩, ?_⟩
        refine ⟨ps2, F2, fl3, ps3, s2.rs, e4, ?_⟩
        cases fl3 with
        | nx => exact fun σ' H' F' s => ⟨F', s, e5⟩
        | ct => exact fun σ' H' F' s => ⟨F', s, e5⟩
        | bk => cases e5; exact fun σ' H' F' s => q σ' H' F' (s12.trans s)
        | ret d => cases e5; exact fun v σ' H' F' fv s o r => q v σ' H' F' fv (s12.trans s) (o.after s12) r
      | false =>
        dsimp only at e3 |-
        rw [if_neg Bool.false_ne_true] at e3 |-
        cases e3
        exact q _ _ F2 s12
end
noncomputable def yo9 (Z : List Addr) (H H' : Hp) : Prop := ∀ a o, H a = some o -> (tf o = true \/ (kd o = true /\ a ∈ Z)) -> H' a = some o
structure Walk (K : PySem.W.Frag) (κ : Str -> Addr) (J : It) (Z : List Addr) (H1 : Hp) (ds : List D) : Prop where
  go : ∀ H', yo9 Z H1 H' -> ∀ (i : Nat) d, ds[i]? = some d -> J.go i H' /\ ∀ x H2, J.yld i H' x H2 -> H2 = H' /\ Rep K κ H' x d []
  stop : ∀ H', yo9 Z H1 H' -> J.stop ds.length H'
noncomputable def tIV (K : PySem.W.Frag) (κ : Str -> Addr) (f : PSt -> Option (List D)) : TI := fun σ H R => ∃ ps ds, WS K κ H σ ps /\ f ps = some ds /\ ∀ J H1 Z, SameK H H1 -> Walk K κ J Z H1 ds -> R J H1
noncomputable def tIP (K : PySem.W.Frag) (κ : Str -> Addr) (f : PSt -> Option (List D)) : TI := fun σ H R => ∃ ps ds, WS K κ H σ ps /\ f ps = some ds /\ ∀ J H1 Z, SameK H H1 -> (∀ a ∈ Z, H a = none /\ H1 a ≠ none) -> Walk K κ J Z H1 ds -> R J H1
theorem yo9.sq {K : PySem.W.Frag} {Z : List Addr} {H H' : Hp} {a : Addr} {vs : List V} (k : yo9 Z H H') (h : Rd H a (.lst vs)) (hz : H a = some (.lst vs) -> a ∈ Z) : SqL K H' a vs := by
  rcases h with h | ⟨o, h⟩
  . exact .inl (.inl (k a _ h (.inr ⟨rfl, hz h⟩)))
  . exact .inl (.inr ⟨o, k a _ h (.inl rfl)⟩)
theorem yo9.rep {K : PySem.W.Frag} {κ : Str -> Addr} {Z : List Addr} {H H' : Hp} {v : V} {d : D} (k : yo9 Z H H') (r : Rep K κ H v d []) : Rep K κ H' v d [] := r.move (fun a o h t => k a o h (.inl t)) fun a ha => absurd ha (by simp)
theorem ym9 {α β : Type} {R : α -> β -> Prop} : ∀ {l₁ : List α} {l₂ : List β} {i : Nat} {y : β}, Paired R l₁ l₂ -> l₂[i]? = some y -> ∃ x, l₁[i]? = some x /\ R x y
  | _, _, _, _, .nil, e => by simp at e
  | _, _, 0, _, .cons h _, e => by simp at e; subst e; exact ⟨_, rfl, h⟩
  | _, _, i + 1, _, .cons _ t, e => by obtain ⟨x, h1, h2⟩ := ym9 (i := i) t (by simpa using e); exact ⟨x, by simpa using h1, h2⟩
section
variable {K : PySem.W.Frag} {κ : Str -> Addr} {H1 : Hp} {a : Addr} {vs : List V} {ds : List D} {Z : List Addr}
theorem xh6 (h : Rd H1 a (.lst vs)) (hz : H1 a = some (.lst vs) -> a ∈ Z) (r : Paired (fun v d => Rep K κ H1 v d []) vs ds) : Walk K κ (Itl K a) Z H1 ds where
  go := fun H' k i d e => by
    obtain ⟨x, e1, r1⟩ := ym9 r e
    have sq : SqL K H' a vs := k.sq h hz
    refine ⟨⟨vs, x, sq, e1⟩, fun y H2 hy => ⟨hy.1, ?_⟩⟩
    have e2 := hy.2 vs sq
    rw [e1] at e2; cases e2
    exact k.rep r1
  stop := fun H' k => ⟨vs, k.sq h hz, by rw [Paired.length r]; exact Nat.le_refl _⟩
theorem wk1 (h : SqF K H1 a vs) (r : Paired (fun v d => Rep K κ H1 v d []) vs ds) : Walk K κ (Itl K a) Z H1 ds where
  go := fun H' k i d e => by
    obtain ⟨x, e1, r1⟩ := ym9 r e
    have sq : SqL K H' a vs := (h.tf fun a o e t => k a o e (.inl t)).l
    refine ⟨⟨vs, x, sq, e1⟩, fun y H2 hy => ⟨hy.1, ?_⟩⟩
    have e2 := hy.2 vs sq
    rw [e1] at e2; cases e2
    exact k.rep r1
  stop := fun H' k => ⟨vs, (h.tf fun a o e t => k a o e (.inl t)).l, by rw [Paired.length r]; exact Nat.le_refl _⟩
theorem wk2 (h : SqT K H1 a vs) (r : Paired (fun v d => Rep K κ H1 v d []) vs ds) : Walk K κ (Itt K a) Z H1 ds where
  go := fun H' k i d e => by
    obtain ⟨x, e1, r1⟩ := ym9 r e
    have sq : SqT K H' a vs := h.tf fun a o e t => k a o e (.inl t)
    refine ⟨⟨vs, x, sq, e1⟩, fun y H2 hy => ⟨hy.1, ?_⟩⟩
    have e2 := hy.2 vs sq
    rw [e1] at e2; cases e2
    exact k.rep r1
  stop := fun H' k => ⟨vs, h.tf fun a o e t => k a o e (.inl t), by rw [Paired.length r]; exact Nat.le_refl _⟩
end
noncomputable def yc0 (lo : Int) (n : Nat) : List D := (List.range n).map fun (k : Nat) => .int (lo + (k : Int))
theorem yz6 {K : PySem.W.Frag} {κ : Str -> Addr} {H1 : Hp} {Z : List Addr} (lo : Int) (n : Nat) : Walk K κ (Itr lo n) Z H1 (yc0 lo n) where
  go := fun H' _ i d e => by
    have hi := (List.getElem?_eq_some_iff.mp e).1
    unfold yc0 at hi e
    rw [List.length_map, List.length_range] at hi
    rw [List.getElem?_map, List.getElem?_range hi] at e
    cases e
    exact ⟨hi, fun x H2 ⟨h1, h2⟩ => ⟨h1, by rw [h2]; exact .int _⟩⟩
  stop := fun H' _ => by
    show n <= (yc0 lo n).length
    unfold yc0
    rw [List.length_map, List.length_range]; exact Nat.le_refl _
noncomputable abbrev QIV (X : Cx) (κ : Str -> Addr) (tg iter : Expr) (f : PSt -> Option (List D)) : Prop := PI X tg iter (tIV X.K κ f)
noncomputable abbrev QIP (X : Cx) (κ : Str -> Addr) (tg iter : Expr) (f : PSt -> Option (List D)) : Prop := PI X tg iter (tIP X.K κ f)
theorem PI.imp {X : Cx} {tg e : Expr} {t t' : TI} (h : PI X tg e t) (k : ∀ σ H Q, t' σ H Q -> t σ H Q) : PI X tg e t' := fun pins s σ H Q I q => h pins s σ H Q I (k σ H Q q)
theorem QIP.v {X : Cx} {κ : Str -> Addr} {tg iter : Expr} {f : PSt -> Option (List D)} (h : QIP X κ tg iter f) : QIV X κ tg iter f := PI.imp h fun σ H R ⟨ps, ds, w, e, q⟩ => ⟨ps, ds, w, e, fun J H1 Z s _ k => q J H1 Z s k⟩
section
variable {X : Cx} {κ : Str -> Addr} {tg l a b : Expr} {f : PSt -> Option D} {g : PSt -> Option (List D)} {p pos : Pos}
noncomputable def ye3 : List D -> Option (List D)
  | [.int j] => if (-(2 ^ 62) <= j /\ j < 2 ^ 62) then some (yc0 0 j.toNat) else none
  | _ => none
noncomputable def xk6 : List D -> Option (List D)
  | [.int i, .int j] => if (-(2 ^ 62) <= i /\ i < 2 ^ 62 /\ -(2 ^ 62) <= j /\ j < 2 ^ 62) then some (yc0 i (j - i).toNat) else none
  | _ => none
noncomputable def zw4 (g : PSt -> Option (List D)) : PSt -> Option (List D) := fun ps => (g ps).bind ye3
noncomputable def yu8 (g : PSt -> Option (List D)) : PSt -> Option (List D) := fun ps => (g ps).bind xk6
theorem yi6 (hg : Gl X "range") (hm : X.mg "range" = none) (ha : QVA X κ [a] g) (hs : starEach [a] X.env = [(false, eval a X.env)] := by rfl) : QIP X κ tg (.Call (.Name "range" p) [a] [] pos) (zw4 g) :=
  PI.imp (wb3 hg hm ha hs) fun σ H R hh_ => by
    obtain ⟨ps, ds, w, e, q⟩ := hh_
    obtain ⟨as, e1, e2⟩ := bind_some e
    refine ⟨ps, as, w, e1, fun vs H1 fp s1 r1 => ?_⟩
    unfold ye3 at e2
    split at e2
    . obtain ⟨hc, e3⟩ := zf8 e2
      cases e3
      obtain ⟨v, rfl, r⟩ := r1.one_inv
      exact ⟨_, by rw [r.is_int], hc.1, hc.2, q _ H1 [] s1 (fun _ h => absurd h (by simp)) (yz6 _ _)⟩
    . cases e2
theorem yq9 (hg : Gl X "range") (hm : X.mg "range" = none) (ha : QVA X κ [a, b] g) (hs : starEach [a, b] X.env = [(false, eval a X.env), (false, eval b X.env)] := by rfl) (hs2 : starEach [b] X.env = [(false, eval b X.env)] := by rfl) : QIP X κ tg (.Call (.Name "range" p) [a, b] [] pos) (yu8 g) :=
  PI.imp (wb4 hg hm ha hs hs2) fun σ H R hh_ => by
    obtain ⟨ps, ds, w, e, q⟩ := hh_
    obtain ⟨as, e1, e2⟩ := bind_some e
    refine ⟨ps, as, w, e1, fun vs H1 fp s1 r1 => ?_⟩
    unfold xk6 at e2
    split at e2
    . obtain ⟨hc, e3⟩ := zf8 e2
      cases e3
      obtain ⟨v, u, f, g, rfl, r, r'⟩ := r1.two_inv
      exact ⟨_, _, by rw [r.is_int, r'.is_int], hc, q _ H1 [] s1 (fun _ h => absurd h (by simp)) (yz6 _ _)⟩
    . cases e2
noncomputable def kf1 (K : PySem.W.Frag) (tl : TE) : TI := fun σ H R => tl σ H fun x H1 => ∃ a, x = .ref a /\ (((∃ xs, SqL K H1 a xs) /\ R (Itl K a) H1) \/ ((∃ xs, SqT K H1 a xs) /\ R (Itt K a) H1))
theorem wd6 {tl : TE} (hl : PE X l tl) : PI X tg l (kf1 X.K tl) := by
  intro pins s σ H R I h
  refine thn (hl pins s σ H _ I h) fun v s1 ⟨x, H1, I1, r1, q1⟩ => ?_
  obtain ⟨a, e, q1⟩ := q1
  subst e
  cases r1
  rcases q1 with ⟨⟨xs, hq⟩, q⟩ | ⟨⟨xs, hq⟩, q⟩
  . obtain ⟨its, rv, p, hz⟩ := I1.list hq
    refine wpAny_pyIter_list p.isList ?_
    refine ⟨s1.heap.objs.size, [s1.heap.objs.size], _, _, H1, rfl, I1.kept (t' := s1.toks) fun b o e => Heap.get?_push_of_some _ e, wb2 a _, ⟨_, Heap.get?_push_size _ rfl, rfl, rfl⟩, fun b hb => ?_, q⟩
    have e : b = s1.heap.objs.size := by simpa using hb
    subst e
    exact I1.fpOk (Nat.le_refl _) (I1.hok.fresh (Nat.le_refl _))
  . obtain ⟨its, rv, p, hz⟩ := I1.tuple hq
    refine wpAny_pyIter_tuple (show s1.heap.IsTuple a its.toArray from p) ?_
    refine ⟨s1.heap.objs.size, [s1.heap.objs.size], _, _, H1, rfl, I1.kept (t' := s1.toks) fun b o e => Heap.get?_push_of_some _ e, xu9 a _, ⟨_, Heap.get?_push_size _ rfl, rfl, rfl⟩, fun b hb => ?_, q⟩
    have e : b = s1.heap.objs.size := by simpa using hb
    subst e
    exact I1.fpOk (Nat.le_refl _) (I1.hok.fresh (Nat.le_refl _))
noncomputable def zv2 : D -> Option (List D)
  | .lst _ xs => if D.imms xs = true then some xs else none
  | .tup xs => some xs
  | .con xs => some xs
  | _ => none
theorem xs7 {K : PySem.W.Frag} {H : Hp} {v : V} {d : D} {fp : List Addr} {ds : List D} {R : It -> Hp -> Prop} (r : Rep K κ H v d fp) (e : zv2 d = some ds) (q : ∀ J Z, (∀ a ∈ Z, a ∈ fp) -> Walk K κ J Z H ds -> R J H) :
    ∃ a, v = .ref a /\ (((∃ xs, SqL K H a xs) /\ R (Itl K a) H) \/ ((∃ xs, SqT K H a xs) /\ R (Itt K a) H)) := by
  cases d with
  | lst o xs =>
    obtain ⟨hc, e⟩ := zf8 e
    cases e
    cases r with
    | lst h hs => exact ⟨_, rfl, .inl ⟨⟨_, .inl (.inl h)⟩, q _ [_] (fun a ha => by simp at ha; subst ha; exact List.mem_cons_self) (xh6 (.inl h) (fun _ => by simp) (hs.pair hc))⟩⟩
    | lstF h hs => exact ⟨_, rfl, .inl ⟨⟨_, .inl (.inr ⟨_, h⟩)⟩, q _ [] (fun a ha => absurd ha (by simp)) (xh6 (.inr ⟨_, h⟩) (fun z => by rw [h] at z; cases z) (hs.pair hc))⟩⟩
  | tup xs =>
    cases e
    obtain ⟨a, vs, rfl, h, hs⟩ := r.tup_inv
    exact ⟨a, rfl, .inr ⟨⟨_, h⟩, q _ [] (fun a ha => absurd ha (by simp)) (wk2 h hs.nilp)⟩⟩
  | con xs =>
    cases e
    obtain ⟨a, vs, rfl, h, hs⟩ := r.con_inv
    exact ⟨a, rfl, .inl ⟨⟨_, h.l⟩, q _ [] (fun a ha => absurd ha (by simp)) (wk1 h hs.nilp)⟩⟩
  | _ => cases e
noncomputable def zo7 (f : PSt -> Option D) : PSt -> Option (List D) := fun ps => (f ps).bind zv2
theorem xm4 (h : QV X κ l f) : QIV X κ tg l (zo7 f) := PI.imp (wd6 h) fun σ H R hh_ => by
  obtain ⟨ps, ds, w, e, q⟩ := hh_
  obtain ⟨d, e1, e2⟩ := bind_some e
  exact ⟨ps, d, w, e1, fun v H1 fv s1 r1 => xs7 r1 e2 fun J Z _ k => q J H1 Z s1 k⟩
end
noncomputable def zk9 (i : Nat) (f : PSt -> Option (Fl × PSt)) : List D -> PSt -> Option (Fl × PSt)
  | [], ps => some (.nx, ps)
  | d :: ds, ps => (f (ps.set i (some d))).bind fun q => match q with
      | (.nx, p) => zk9 i f ds p
      | (.ct, p) => zk9 i f ds p
      | (.bk, p) => some (.nx, p)
      | (.ret d, p) => some (.ret d, p)
section
variable {X : Cx} {φ : Fx} {pos : Pos} {body : List Stmt} {f : PSt -> Option (Fl × PSt)}
theorem Frm.kept {F : Nat -> List Addr} {H H' : Hp} {Z : List Addr} {σ : St} {ps : PSt} (R : RS φ H σ ps F) (k : Frm F H H') (hz : ∀ a ∈ Z, ∀ i, a ∉ F i) : yo9 Z H H' := fun a o h t => by
  rcases t with t | ⟨t1, t2⟩
  . refine k.keep a o h (zw6 t) fun i hi => ?_
    obtain ⟨o', h', _, t'⟩ := R.own hi
    rw [h] at h'; cases h'; rw [t] at t'; cases t'
  . exact k.keep a o h t1 (hz a t2)
theorem xm5 {E : Ends} {σ : St} {H : Hp} {F : Nat -> List Addr} {ps ps' : PSt} {fl : Fl} {ds : List D} {J : It} {Z : List Addr} {i : Nat} (R : RS φ H σ ps F) (hz : ∀ a ∈ Z, H a ≠ none /\ ∀ i, a ∉ F i) (W : Walk φ.K φ.κ J Z H ds) (hb : φ.bor i = false) (hm : φ.M i = false)
    (e : zk9 i f ds ps = some (fl, ps')) (q : yu7 φ E σ H F fl ps') : ∃ V : Nat -> Nat -> St -> Hp -> Prop, (∃ m, V 0 m σ H) /\ ∀ k m σ H, V k m σ H ->
  (J.stop k H /\ E.nx σ H) \/ (J.go k H /\ ∃ N : St -> Hp -> Prop, (∀ σ' H', N σ' H' -> ∃ m', m' < m /\ V (k + 1) m' σ' H') /\ ∀ x H', J.yld k H x H' -> yg2 i x σ H' fun σ2 H2 => tS φ f { E with nx := N, ct := N, bk := E.nx } σ2 H2) := by
  refine ⟨fun k m σ1 H1 => k <= ds.length /\ m = ds.length - k /\ ∃ ps1 F1, Stp φ σ H F σ1 H1 ps1 F1 /\ zk9 i f (ds.drop k) ps1 = some (fl, ps'), ⟨_, Nat.zero_le _, rfl, ps, F, .refl R, by rw [List.drop_zero]; exact e⟩, ?_⟩
  rintro k m σ1 H1 ⟨hk, rfl, ps1, F1, s1, e1⟩
  have kp : yo9 Z H H1 := s1.fr.kept R fun a ha => (hz a ha).2
  by_cases hlt : k < ds.length
  . right
    have ed : ds[k]? = some ds[k] := List.getElem?_eq_getElem hlt
    obtain ⟨hgo, hy⟩ := W.go H1 kp k _ ed
    rw [List.drop_eq_getElem_cons hlt, zk9] at e1
    obtain ⟨⟨fl2, ps2⟩, e2, e3⟩ := bind_some e1
    refine ⟨hgo, fun σ' H' => ∃ F', Stp φ σ H F σ' H' ps2 F' /\ zk9 i f (ds.drop (k + 1)) ps2 = some (fl, ps'), fun σ' H' ⟨F', s, e⟩ => ⟨ds.length - (k + 1), by omega, hlt, rfl, ps2, F', s, e⟩, fun x H' y => ?_⟩
    obtain ⟨rfl, rx⟩ := hy x H' y
    obtain ⟨F2, s2⟩ := (Stp.refl s1.rs).set (i := i) (fv := []) (v := x) (d := ds[k]) ⟨fun _ h => absurd h (by simp), List.nodup_nil, fun _ _ _ h => absurd h (by simp)⟩ s1.rs rx (.inl hb) hm
    have s12 := s1.trans s2
    refine ⟨_, F2, fl2, ps2, s2.rs, e2, ?_⟩
    cases fl2 with
    | nx => exact fun σ' H' F' s => ⟨F', s12.trans s, e3⟩
    | ct => exact fun σ' H' F' s => ⟨F', s12.trans s, e3⟩
    | bk => cases e3; exact fun σ' H' F' s => q σ' H' F' (s12.trans s)
    | ret d => cases e3; exact fun v σ' H' F' fv s o r => q v σ' H' F' fv (s12.trans s) (o.after s12) r
  . left
    have ek : k = ds.length := by omega
    subst ek
    rw [List.drop_length, zk9] at e1
    cases e1
    exact ⟨W.stop H1 kp, q _ _ F1 s1⟩
noncomputable def zq1 (i : Nat) (fi : PSt -> Option (List D)) (f : PSt -> Option (Fl × PSt)) : PSt -> Option (Fl × PSt) := fun ps => (fi ps).bind fun ds => zk9 i f ds ps
theorem yr0 {κ : Str -> Addr} {φ : F0} (i : Nat) {x : Str} {px : Pos} {iter : Expr} {fi : PSt -> Option (List D)} (hp : PassesOwn (model X.prog X.w) X.A X.env X.xe) (hc : X.calm = true) (hN : X.N.Nodup) (hi : X.N[i]? = some x) (hx : Loc X.env.scope x) (hb : φ.bor i = false) (hm : φ.M i = false)
    (hit : PI X (.Name x px) iter (tIP X.K κ fi)) (hbd : QSs X κ φ body f) (hs : ∀ x, foldedSetIterable iter X.env x = pure x := by intro _; rfl) (hf : X.fn x = true \/ X.env.scope.names.lookup x = some .local := by first | exact .inl rfl | exact .inr rfl | assumption) :
    QS X κ φ (.For (.Name x px) iter body [] pos) (zq1 i fi f) := (wb6 hp hc hit (zy5 hN hi hx hf) hbd hs).imp fun E σ H hh_ => by
  obtain ⟨ps, F, fl, ps', R, e, q⟩ := hh_
  obtain ⟨ds, e1, e2⟩ := bind_some e
  refine ⟨ps, ds, R.ws, e1, fun J H1 Z s1 hz W => ?_⟩
  have s := Stp.same R s1
  exact xm5 s.rs (fun a ha => ⟨(hz a ha).2, fun j hj => by obtain ⟨o, h, _⟩ := R.own hj; rw [(hz a ha).1] at h; cases h⟩) W hb hm e2 (q.back s)
noncomputable def kf2 (g : TG) (tb : TS) (E : Ends) (σ : St) : It -> Hp -> Prop := fun J H1 => ∃ W : Nat -> Nat -> St -> Hp -> Prop, (∃ m, W 0 m σ H1) /\ ∀ i m σ H, W i m σ H ->
  (J.stop i H /\ E.nx σ H) \/ (J.go i H /\ ∃ N : St -> Hp -> Prop, (∀ σ' H', N σ' H' -> ∃ m', m' < m /\ W (i + 1) m' σ' H') /\ ∀ x H', J.yld i H x H' -> g x σ H' fun σ2 H2 => tb { E with nx := N, ct := N, bk := E.nx } σ2 H2)
theorem yl3 {κ : Str -> Addr} {φ : F0} (i j : Nat) {x y : Str} {px py : Pos} (hp : PassesOwn (model X.prog X.w) X.A X.env X.xe) (hc : X.calm = true) (hN : X.N.Nodup) (hi : X.N[i]? = some x) (hx : Loc X.env.scope x) (hb : φ.bor i = false) (hm : φ.M i = false) (hj : φ.bor j = true)
    (hbd : QSs X κ φ body f) (hNj : X.N[j]? = some y := by rfl) (hv : Vis X.env.scope y := by first | exact Or.inl rfl | exact Or.inr (Or.inl rfl) | exact Or.inr (Or.inr rfl)) (hd : (y == ("__debug__" : Str)) = false := by decide)
    (hcd : (y == ("__classdict__" : Str)) = false := by decide) (hs : ∀ x, foldedSetIterable (.Name y py) X.env x = pure x := by intro _; rfl) (hf : X.fn x = true \/ X.env.scope.names.lookup x = some .local := by first | exact .inl rfl | exact .inr rfl | assumption) :
    QS X κ φ (.For (.Name x px) (.Name y py) body [] pos) (zq1 i (zo7 (za0 j)) f) := (wb6 hp hc (wd6 (yk7 hNj hv hd hcd)) (zy5 hN hi hx hf) hbd hs).imp fun E σ H hh_ => by
  obtain ⟨ps, F, fl, ps', R, e, q⟩ := hh_
  obtain ⟨ds, e1, e2⟩ := bind_some e
  obtain ⟨d, e3, e4⟩ := bind_some e1
  obtain ⟨v, fp, h1, h2, _, h4⟩ := R.rep j d (join_some e3)
  refine ⟨v, h1, ?_⟩
  refine xs7 (R := kf2 (yg2 i) (tS (φ.fx X.K κ) f) E σ) h2 e4 fun J Z hz W => ?_
  exact xm5 R (fun a ha => ⟨R.bt j a (h4 hj a (hz a ha)), fun k hk => R.nb k a hk j (h4 hj a (hz a ha))⟩) W hb hm e2 q
end
end L2
namespace L2
open PySem PySem.Spec PyProof.Rows
noncomputable def gP (np n : Nat) (f : PSt -> Option (Fl × PSt)) : List D -> Option D := fun ds => if ds.length = np then (f (ds.map some ++ List.replicate n none)).bind fun r => match r with
  | (.ret d, _) => some d
  | (.nx, _) => some .non
  | _ => none
  else none
noncomputable def SpP (np : Nat) (K : PySem.W.Frag) (κ : Str -> Addr) (g : List D -> Option D) : Sp := fun vs H Q _ => vs.length = np /\ ∃ ds fp d, Reps K κ H vs ds fp /\ g ds = some d /\ zx4 K κ H d Q
noncomputable def fxP (K : PySem.W.Frag) (κ : Str -> Addr) (np : Nat) (B : Nat -> Addr -> Prop) : Fx := ⟨K, κ, fun i => decide (i < np), fun _ => false, B⟩
noncomputable def f0P (np : Nat) (B : Nat -> Addr -> Prop) : F0 := ⟨fun i => decide (i < np), fun _ => false, B⟩
theorem wd7 {N : List Str} {vs : List V} {i : Nat} {v : V} (h : vs[i]? = some v) : (start N vs)[i]? = some (some v) := by
  unfold start
  have hi := (List.getElem?_eq_some_iff.mp h).1
  rw [List.getElem?_append_left (by simpa using hi), List.getElem?_map, h]; rfl
theorem RS.start {K : PySem.W.Frag} {κ : Str -> Addr} {H : Hp} {N : List Str} {vs : List V} {ds : List D} {fp : List Addr} {np : Nat} (r : Reps K κ H vs ds fp) (hl : vs.length = np) (hn : np <= N.length) :
    RS (fxP K κ np (fun _ a => a ∈ fp)) H (start N vs) (ds.map some ++ List.replicate (N.length - np) none) (fun _ => []) := by
  have el := r.length
  refine ⟨fun i d h => ?_, fun i a h => absurd h (by simp), fun i j a h => absurd h (by simp), fun i => List.nodup_nil, fun i a h => absurd h (by simp), fun k a h z => ?_, ?_⟩
  . by_cases hi : i < ds.length
    . rw [List.getElem?_append_left (by simpa using hi), List.getElem?_map] at h
      cases e : ds[i]? with
      | none => rw [e] at h; cases h
      | some d' =>
        rw [e] at h; cases h
        obtain ⟨v, f, h1, h2, h3⟩ := r.get e
        refine ⟨v, f, wd7 h1, h2, fun z => ?_, fun _ => h3⟩
        exact absurd (of_decide_eq_false z) (by omega)
    . rw [List.getElem?_append_right (by simpa using hi), List.getElem?_replicate] at h
      split at h <;> cases h
  . obtain ⟨o, h, _⟩ := r.own a h
    rw [z] at h; cases h
  . unfold L2.start
    simp only [List.length_append, List.length_map, List.length_replicate]
    omega
section
variable {P : Program} {w : World} {K : PySem.W.Frag} {mg : Str -> Option Value} {base : Heap} {κ : Str -> Addr}
theorem zm0 {x qual : Str} {st : Stmt} {f : Addr} {fd : FuncData} {N ps : List Str} {k : Nat} {fb : PSt -> Option (Fl × PSt)} (F : Fun K x qual st f fd) (S : FnScope N ps (zb1 st))
    (hbody : ∀ (cdv : Value) (A : Around) (outer : List Env) (s : Shared) (H : Hp) (E : XK) (B : Nat -> Addr -> Prop), Room k (A.deeper (envOfC qual (zb1 st) s.heap.objs.size f cdv)) ->
      QSs (yk3 CX0 P w K mg base N qual (zb1 st) f cdv A outer s H E).nox κ (f0P ps.length B) (zf2 st) fb) :
    FnOk P w K mg base CX0 (k + 1) f fd ps (SpP ps.length K κ (gP ps.length (N.length - ps.length) fb)) := by
  refine F.ok S (fun vs H Q E h => h.1) fun cdv A outer s H vs Q E hr ⟨hl, ds, fp, d, r, e, q⟩ => ⟨_, hbody cdv A outer s H E (fun _ a => a ∈ fp) hr, ?_⟩
  have hn : ps.length <= N.length := by have := congrArg List.length S.pre; rw [List.length_take] at this; omega
  unfold gP at e
  obtain ⟨_, e0⟩ := zf8 e
  obtain ⟨⟨fl, ps'⟩, e1, e2⟩ := bind_some e0
  refine ⟨_, fun _ => [], fl, ps', RS.start r hl hn, e1, ?_⟩
  have sm : ∀ {H' : Hp}, Frm (fun _ => []) H H' -> SameK H H' := fun k => ⟨fun a o h kk => k.keep a o h kk (fun _ => by simp), k.grow⟩
  cases fl with
  | ret d' =>
    cases e2
    exact fun v σ' H' F' fv s o rv => q v H' fv (sm s.fr) (fun a ha => (o.nw a ha).elim (fun ⟨j, hj⟩ => absurd hj (by simp)) id) o.nd rv
  | nx =>
    cases e2
    exact fun σ' H' F' s => q .non H' [] (sm s.fr) (fun a ha => absurd ha (by simp)) List.nodup_nil .non
  | bk => cases e2
  | ct => cases e2
end
section
variable {X : Cx} {κ : Str -> Addr} {e : Expr} {es : List Expr} {g : PSt -> Option (List D)} {pos p : Pos}
theorem zn1 {x : Str} {st : Stmt} {ps : List Str} {f : Addr} {fd : FuncData} {k np : Nat} {h : List D -> Option D} (Dd : Dn X.K X.mg x st ps f fd) (G : FnOk X.prog X.w X.K X.mg X.base CX0 k f fd ps (SpP np X.K κ h)) (hr : Room k X.A) (hg : Gl X x) (hnp : (e :: es).length = np) (ha : QVA X κ (e :: es) g)
    (hlen : ∀ ps ds, g ps = some ds -> ds.length = (e :: es).length)
    (hdb : (x == ("__debug__" : Str)) = false := by decide) (he : starEach (e :: es) X.env = (false, eval e X.env) :: starEach es X.env := by rfl) (hpl : (backTo pos (starEach es X.env)).any (·.1) = false := by rfl) :
    QP X κ (.Call (.Name x p) (e :: es) [] pos) (za7 h g) := (xj6 Dd G hr hg ha hdb he hpl).imp fun σ H Q hh_ => by
  obtain ⟨ps, d, w, e, q⟩ := hh_
  obtain ⟨ds, e1, e2⟩ := bind_some e
  refine ⟨ps, ds, w, e1, fun vs H1 fp s1 r1 => ?_⟩
  show SpP np X.K κ h (vs ++ []) H1 Q E0
  rw [List.append_nil]
  exact ⟨by rw [r1.length, hlen ps ds e1, hnp], ds, fp, d, r1, e2, q.after s1⟩
theorem xm6 {x : Str} {st : Stmt} {ps : List Str} {f : Addr} {fd : FuncData} {k : Nat} {h : List D -> Option D} (Dd : Dn X.K X.mg x st ps f fd) (G : FnOk X.prog X.w X.K X.mg X.base CX0 k f fd ps (SpP 0 X.K κ h)) (hr : Room k X.A) (hg : Gl X x)
    (hdb : (x == ("__debug__" : Str)) = false := by decide) : QP X κ (.Call (.Name x p) [] [] pos) (za7 h za3) := (wv7 Dd G hr hg hdb).imp fun σ H Q hh_ => by
  obtain ⟨ps, d, w, e, q⟩ := hh_
  obtain ⟨ds, e1, e2⟩ := bind_some e
  cases e1
  exact ⟨rfl, [], [], d, .nil, e2, q⟩
theorem zj8 : ∀ (ps : PSt) (ds : List D), za3 ps = some ds -> ds.length = ([] : List Expr).length := fun _ _ h => by cases h; rfl
theorem zd8 {f : PSt -> Option D} (h : ∀ ps ds, g ps = some ds -> ds.length = es.length) : ∀ (ps : PSt) (ds : List D), za1 f g ps = some ds -> ds.length = (e :: es).length := fun ps ds q => by
  obtain ⟨d, es', _, e2, rfl⟩ := yg1 q
  rw [List.length_cons, List.length_cons, h ps es' e2]
end
noncomputable def yi0 (pick : List (Option Nat)) (ps : PSt) : PSt := pick.map fun o => o.bind fun j => (ps[j]?).join
noncomputable def yc1 (psb : PSt) (ft : PSt -> Option Bool) (fe : PSt -> Option D) : List D -> Option (List D)
  | [] => some []
  | d :: ds => (ft (psb.set 0 (some d))).bind fun b => if b = true then (fe (psb.set 0 (some d))).bind fun r => (yc1 psb ft fe ds).bind fun rs => some (r :: rs) else yc1 psb ft fe ds
noncomputable def xb9 (pick : List (Option Nat)) (fi : PSt -> Option (List D)) (ft : PSt -> Option Bool) (fe : PSt -> Option D) : PSt -> Option D := fun ps => (fi ps).bind fun ds => if ds.length <= sizeLine then (yc1 (yi0 pick ps) ft fe ds).bind fun rs => some (.lst true rs) else none
noncomputable def yy1 : PSt -> Option Bool := fun _ => some true
theorem WS.sub {K : PySem.W.Frag} {κ : Str -> Addr} {H : Hp} {σ : St} {ps : PSt} (pick : List (Option Nat)) (w : WS K κ H σ ps) : WS K κ H (yf7 pick σ) (yi0 pick ps) := fun i d h => by
  unfold yi0 at h
  unfold yf7
  rw [List.getElem?_map] at h |-
  cases e : pick[i]? with
  | none => rw [e] at h; cases h
  | some o =>
    rw [e] at h
    cases o with
    | none => cases h
    | some j =>
      have h' : (ps[j]?).join = some d := Option.some.inj h
      obtain ⟨v, fp, h1, h2⟩ := w j d (join_some h')
      refine ⟨v, fp, ?_, h2⟩
      show some ((σ[j]?).join) = some (some v)
      rw [h1]; rfl
theorem WS.set0 {K : PySem.W.Frag} {κ : Str -> Addr} {H : Hp} {σ : St} {ps : PSt} {v : V} {d : D} {fp : List Addr} (w : ∀ (i : Nat) (d : D), i ≠ 0 -> ps[i]? = some (some d) -> ∃ v fp, σ[i]? = some (some v) /\ Rep K κ H v d fp) (hl : ps.length <= σ.length) (r : Rep K κ H v d fp) : WS K κ H (σ.set 0 (some v)) (ps.set 0 (some d)) := fun i d' h => by
  by_cases e : i = 0
  . subst e
    by_cases hp : 0 < ps.length
    . rw [List.getElem?_set_self hp] at h
      cases h
      exact ⟨v, fp, by rw [List.getElem?_set_self (by omega)], r⟩
    . rw [List.getElem?_eq_none (by simpa using hp)] at h; cases h
  . rw [List.getElem?_set_ne (fun z => e z.symm)] at h |-
    exact w i d' e h
section
variable {X : Cx} {κ : Str -> Addr} {sc : Scope} {NX N : List Str} {pick : List (Option Nat)} {elt iter : Expr} {ifs : List Expr} {scope : Scope} {pos px : Pos} {x : Str} {fi : PSt -> Option (List D)} {ft : PSt -> Option Bool} {fe : PSt -> Option D}
theorem PTs.imp {X : Cx} {ifs : List Expr} {t t' : TT} (h : PTs X ifs t) (k : ∀ σ H Q, t' σ H Q -> t σ H Q) : PTs X ifs t' := fun pins s σ H Q I q => h pins s σ H Q I (k σ H Q q)
theorem xe1 {X : Cx} : PTs X [] (tQ X.K κ yy1) := wv8.imp fun σ H Q ⟨ps, b, w, e, q⟩ => by cases e; exact q H (.refl H)
structure Grown (K : PySem.W.Frag) (κ : Str -> Addr) (H1 : Hp) (Dd : Addr) (H' : Hp) (vs : List V) (rs : List D) (fv : List Addr) : Prop where
  same : SameK H1 H'
  at_ : H' Dd = some (.lst vs)
  rep : Reps K κ H' vs rs fv
  new : ∀ a ∈ fv, H1 a = none
  ne : Dd ∉ fv
  nd : fv.Nodup
theorem wk3 {pick : List (Option Nat)} {J : It} {Z : List Addr} {σ : St} {ps : PSt} {H1 : Hp} {Dd : Addr} {ds rs : List D} {Q : Addr -> Hp -> Prop} (w : WS X.K κ H1 σ ps) (hD : H1 Dd = none) (W : Walk X.K κ J Z H1 ds) (hz : ds.length <= sizeLine)
    (e : yc1 (yi0 pick ps) ft fe ds = some rs) (q : ∀ H' vs fv, Grown X.K κ H1 Dd H' vs rs fv -> Q Dd H') :
    ∃ V : Nat -> Nat -> St -> Hp -> Prop, (∃ m, V 0 m (yf7 pick σ) (upd H1 Dd (.lst []))) /\ ∀ i m σ' H', V i m σ' H' ->
    (J.stop i H' /\ Q Dd H') \/ (J.go i H' /\ ∀ x H2, J.yld i H' x H2 -> yg2 0 x σ' H2 fun σ3 H3 => tQ X.K κ ft σ3 H3 fun b H4 =>
      if b = true then tP X.K κ fe σ3 H4 fun y H5 => ∃ ys, H5 Dd = some (.lst ys) /\ ys.length < sizeLine /\ ∃ m', m' < m /\ V (i + 1) m' σ3 (upd H5 Dd (.lst (ys ++ [y]))) else ∃ m', m' < m /\ V (i + 1) m' σ3 H4) := by
  refine ⟨fun i m σ' H' => i <= ds.length /\ m = ds.length - i /\ (∀ (j : Nat) (d : D), j ≠ 0 -> (yi0 pick ps)[j]? = some (some d) -> ∃ v fp, σ'[j]? = some (some v) /\ Rep X.K κ H1 v d fp) /\ (yi0 pick ps).length <= σ'.length /\
    ∃ vs fv done zc2, Grown X.K κ H1 Dd H' vs done fv /\ done.length <= i /\ yc1 (yi0 pick ps) ft fe (ds.drop i) = some zc2 /\ rs = done ++ zc2, ⟨_, Nat.zero_le _, rfl, fun j d _ h => w.sub pick j d h, by simp [yi0, yf7], [], [], [], rs, ⟨.new hD _, zi9, .nil, fun _ h => absurd h (by simp), by simp, List.nodup_nil⟩, Nat.zero_le _, by rw [List.drop_zero]; exact e, rfl⟩, ?_⟩
  rintro i m σ' H' ⟨hi, rfl, ws, wl, vs, fv, done, zc2, G, hdn, er, ers⟩
  have kp : yo9 Z H1 H' := fun a o h t => G.same.keep a o h (t.elim zw6 fun t => t.1)
  by_cases hlt : i < ds.length
  . right
    have ed : ds[i]? = some ds[i] := List.getElem?_eq_getElem hlt
    obtain ⟨hgo, hy⟩ := W.go H' kp i _ ed
    refine ⟨hgo, fun x H2 y => ?_⟩
    obtain ⟨rfl, rx⟩ := hy x H2 y
    rw [List.drop_eq_getElem_cons hlt, yc1] at er
    obtain ⟨b, e1, e2⟩ := bind_some er
    have wset : WS X.K κ H2 (σ'.set 0 (some x)) ((yi0 pick ps).set 0 (some ds[i])) := WS.set0 (fun j d hj h => by obtain ⟨v, fp, h1, h2⟩ := ws j d hj h; exact ⟨v, fp, h1, h2.same G.same⟩) wl rx
    refine ⟨_, b, wset, e1, fun H3 s3 => ?_⟩
    have keepS : ∀ (j : Nat) (d : D), j ≠ 0 -> (yi0 pick ps)[j]? = some (some d) -> ∃ v fp, (σ'.set 0 (some x))[j]? = some (some v) /\ Rep X.K κ H1 v d fp := fun j d hj h => by
      obtain ⟨v, fp, h1, h2⟩ := ws j d hj h
      exact ⟨v, fp, by rw [List.getElem?_set_ne (fun z => hj z.symm)]; exact h1, h2⟩
    have Dkeep : ∀ {H5 : Hp}, SameK H2 H5 -> H5 Dd = some (.lst vs) := fun s => s.keep _ _ G.at_ rfl
    cases b with
    | true =>
      dsimp only
      rw [if_pos rfl] at e2 |-
      obtain ⟨r, e3, e4⟩ := bind_some e2
      obtain ⟨rs', e5, e6⟩ := bind_some e4
      cases e6
      refine ⟨_, r, wset.same s3, e3, fun y H5 fw s5 n5 nd5 r5 => ?_⟩
      have s25 := s3.trans s5
      refine ⟨vs, Dkeep s25, ?_, ds.length - (i + 1), by omega, hlt, rfl, keepS, by simpa using wl, vs ++ [y], fv ++ fw, done ++ [r], rs', ?_, ?_, e5, by rw [ers]; simp⟩
      . have := G.rep.length; omega
      . have hDw : Dd ∉ fw := fun z => by have := s3.grow Dd (n5 Dd z); rw [G.at_] at this; cases this
        have hup : ∀ a, a ≠ Dd -> upd H5 Dd (.lst (vs ++ [y])) a = H5 a := fun a h => zg3 h
        have tfk : ∀ a o, H5 a = some o -> tf o = true -> upd H5 Dd (.lst (vs ++ [y])) a = some o := fun a o h t => by
          rw [hup a]
          . exact h
          . rintro rfl; rw [Dkeep s25] at h; cases h; cases t
        have rv5 : Reps X.K κ H5 vs done fv := G.rep.same s25
        refine ⟨⟨fun a o h k => ?_, fun a h => ?_⟩, zi9, Reps.append (rv5.move tfk fun a ha => hup a fun z => G.ne (z ▸ ha)) (Reps.one (r5.move tfk fun a ha => hup a fun z => hDw (z ▸ ha))), fun a ha => ?_, fun z => ?_, ?_⟩
        . rw [hup a (fun z => by subst z; rw [hD] at h; cases h)]
          exact (G.same.trans s25).keep a o h k
        . by_cases z : a = Dd
          . subst z; rw [zi9] at h; cases h
          . rw [hup a z] at h; exact (G.same.trans s25).grow a h
        . rcases List.mem_append.mp ha with z | z
          . exact G.new a z
          . exact (G.same.trans s3).grow a (n5 a z)
        . rcases List.mem_append.mp z with z | z
          . exact G.ne z
          . exact hDw z
        . rw [List.nodup_append]
          refine ⟨G.nd, nd5, fun a ha b hb e => ?_⟩
          subst e
          obtain ⟨o, h, k, _⟩ := G.rep.own a ha
          have := s3.keep a o h k
          rw [n5 a hb] at this; cases this
      . rw [List.length_append, List.length_singleton]; omega
    | false =>
      dsimp only
      rw [if_neg Bool.false_ne_true] at e2 |-
      refine ⟨ds.length - (i + 1), by omega, hlt, rfl, keepS, by simpa using wl, vs, fv, done, zc2, ⟨G.same.trans s3, Dkeep s3, G.rep.same s3, G.new, G.ne, G.nd⟩, by omega, e2, ers⟩
  . left
    have ek : i = ds.length := by omega
    subst ek
    rw [List.drop_length, yc1] at er
    cases er
    rw [List.append_nil] at ers
    subst ers
    exact ⟨W.stop H' kp, q H' vs fv G⟩
theorem xe2 (S : CScope sc NX N pick scope) (hsc : X.env.scope = sc) (hNX : X.N = NX) (hc : X.calm = true) (hi : QIV X κ (.Name x px) iter fi)
    (hg : ∀ cl fp s H, PG (cxB X N scope cl fp s H) (.Name x px) (yg2 0)) (ht : ∀ cl fp s H, PTs (cxB X N scope cl fp s H) ifs (tQ X.K κ ft)) (he : ∀ cl fp s H, PE (cxB X N scope cl fp s H) elt (tP X.K κ fe))
    (hs : ∀ x, foldedSetIterable iter X.env x = pure x := by intro _; rfl) : QP X κ (.ListComp elt [⟨.Name x px, iter, ifs, 0⟩] scope pos) (xb9 pick fi ft fe) :=
  (wq4 S hsc hNX hc hi hg ht he hs).imp fun σ H Q hh_ => by
    obtain ⟨ps, d, w, e, q⟩ := hh_
    obtain ⟨ds, e1, e2⟩ := bind_some e
    obtain ⟨hz, e3⟩ := zf8 e2
    obtain ⟨rs, e4, e5⟩ := bind_some e3
    cases e5
    refine ⟨ps, ds, w, e1, fun J H1 Z s1 W Dd hD => ?_⟩
    refine wk3 (Q := fun Dd H' => Q (.ref Dd) H') (w.same s1) hD W hz e4 fun H' vs fv G => ?_
    refine q _ H' (Dd :: fv) (s1.trans G.same) (fun a ha => ?_) (List.nodup_cons.mpr ⟨G.ne, G.nd⟩) (.lst G.at_ G.rep)
    rcases List.mem_cons.mp ha with z | z
    . rw [z]; exact s1.grow Dd hD
    . exact s1.grow a (G.new a z)
end
end L2
namespace L2
open PySem PySem.Spec PyProof.Rows
inductive Ps1 where
  | ix (n : Nat) | fld (f : Str)
noncomputable def zf0 : List Str -> Str -> Option Nat
  | [], _ => none
  | n :: ns, f => if n = f then some 0 else (zf0 ns f).map (· + 1)
noncomputable def ze0 {α : Type} (h : D -> Option (α × D)) : D -> List Ps1 -> Option (α × D)
  | d, [] => h d
  | .lst true xs, .ix n :: p => (xs[n]?).bind fun d => (ze0 h d p).bind fun r => some (r.1, .lst true (xs.set n r.2))
  | .obj true C ns vs, .fld f :: p => (zf0 ns f).bind fun n => (vs[n]?).bind fun d => (ze0 h d p).bind fun r => some (r.1, .obj true C ns (vs.set n r.2))
  | _, _ => none
noncomputable def ze6 : D -> List Ps1 -> Option D
  | d, [] => some d
  | .lst true xs, .ix n :: p => (xs[n]?).bind fun d => ze6 d p
  | .obj true _ ns vs, .fld f :: p => (zf0 ns f).bind fun n => (vs[n]?).bind fun d => ze6 d p
  | _, _ => none
noncomputable def At (H : Hp) : V -> List Ps1 -> V -> Prop
  | v0, [], v => v = v0
  | v0, .ix n :: p, v => ∃ a vs v1, v0 = .ref a /\ H a = some (.lst vs) /\ vs[n]? = some v1 /\ At H v1 p v
  | v0, .fld f :: p, v => ∃ a C dx fs n v1, v0 = .ref a /\ H a = some (.ins C dx fs) /\ zf0 (fs.map (·.1)) f = some n /\ (fs.map (·.2))[n]? = some v1 /\ At H v1 p v
theorem At.same {H H' : Hp} (s : SameK H H') : ∀ {p : List Ps1} {v0 v : V}, At H v0 p v -> At H' v0 p v
  | [], _, _, h => h
  | .ix n :: p, _, _, ⟨a, vs, v1, h1, h2, h3, h4⟩ => ⟨a, vs, v1, h1, s.keep _ _ h2 rfl, h3, At.same s h4⟩
  | .fld f :: p, _, _, ⟨a, C, dx, fs, n, v1, h1, h2, h3, h4, h5⟩ => ⟨a, C, dx, fs, n, v1, h1, s.keep _ _ h2 rfl, h3, h4, At.same s h5⟩
theorem At.snoc_ix {H : Hp} {a : Addr} {vs : List V} {n : Nat} {v : V} (h : H a = some (.lst vs)) (hv : vs[n]? = some v) : ∀ {p : List Ps1} {v0 : V}, At H v0 p (.ref a) -> At H v0 (p ++ [.ix n]) v
  | [], _, e => ⟨a, vs, v, e.symm, h, hv, rfl⟩
  | .ix m :: p, _, ⟨b, us, v1, h1, h2, h3, h4⟩ => ⟨b, us, v1, h1, h2, h3, At.snoc_ix h hv h4⟩
  | .fld f :: p, _, ⟨b, C, dx, fs, m, v1, h1, h2, h3, h4, h5⟩ => ⟨b, C, dx, fs, m, v1, h1, h2, h3, h4, At.snoc_ix h hv h5⟩
theorem At.snoc_fld {H : Hp} {a C dx : Addr} {fs : List (Str × V)} {f : Str} {n : Nat} {v : V} (h : H a = some (.ins C dx fs)) (hn : zf0 (fs.map (·.1)) f = some n) (hv : (fs.map (·.2))[n]? = some v) : ∀ {p : List Ps1} {v0 : V}, At H v0 p (.ref a) -> At H v0 (p ++ [.fld f]) v
  | [], _, e => ⟨a, C, dx, fs, n, v, e.symm, h, hn, hv, rfl⟩
  | .ix m :: p, _, ⟨b, us, v1, h1, h2, h3, h4⟩ => ⟨b, us, v1, h1, h2, h3, At.snoc_fld h hn hv h4⟩
  | .fld f' :: p, _, ⟨b, C', dx', fs', m, v1, h1, h2, h3, h4, h5⟩ => ⟨b, C', dx', fs', m, v1, h1, h2, h3, h4, At.snoc_fld h hn hv h5⟩
theorem xs8 {α : Type} {h : D -> Option (α × D)} {d0 : D} {n : Nat} {p : List Ps1} {r : α} {d' : D} (e : ze0 h d0 (.ix n :: p) = some (r, d')) : ∃ xs d1 d2, d0 = .lst true xs /\ xs[n]? = some d1 /\ ze0 h d1 p = some (r, d2) /\ d' = .lst true (xs.set n d2) := by
  unfold ze0 at e
  split at e
  . rename_i z; cases z
  . rename_i z; cases z
    obtain ⟨d1, h1, h2⟩ := bind_some e
    obtain ⟨⟨r1, d2⟩, h3, h4⟩ := bind_some h2
    cases h4
    exact ⟨_, _, _, rfl, h1, h3, rfl⟩
  . rename_i z; cases z
  . cases e
theorem xm7 {α : Type} {h : D -> Option (α × D)} {d0 : D} {f : Str} {p : List Ps1} {r : α} {d' : D} (e : ze0 h d0 (.fld f :: p) = some (r, d')) : ∃ C ns xs n d1 d2, d0 = .obj true C ns xs /\ zf0 ns f = some n /\ xs[n]? = some d1 /\ ze0 h d1 p = some (r, d2) /\ d' = .obj true C ns (xs.set n d2) := by
  unfold ze0 at e
  split at e
  . rename_i z; cases z
  . rename_i z; cases z
  . rename_i z; cases z
    obtain ⟨n, h0, h9⟩ := bind_some e
    obtain ⟨d1, h1, h2⟩ := bind_some h9
    obtain ⟨⟨r1, d2⟩, h3, h4⟩ := bind_some h2
    cases h4
    exact ⟨_, _, _, _, _, _, rfl, h0, h1, h3, rfl⟩
  . cases e
theorem xe3 {d0 d : D} {n : Nat} {p : List Ps1} (e : ze6 d0 (.ix n :: p) = some d) : ∃ xs d1, d0 = .lst true xs /\ xs[n]? = some d1 /\ ze6 d1 p = some d := by
  unfold ze6 at e
  split at e
  . rename_i z; cases z
  . rename_i z; cases z
    obtain ⟨d1, h1, h2⟩ := bind_some e
    exact ⟨_, _, rfl, h1, h2⟩
  . rename_i z; cases z
  . cases e
theorem yw8 {d0 d : D} {f : Str} {p : List Ps1} (e : ze6 d0 (.fld f :: p) = some d) : ∃ C ns xs n d1, d0 = .obj true C ns xs /\ zf0 ns f = some n /\ xs[n]? = some d1 /\ ze6 d1 p = some d := by
  unfold ze6 at e
  split at e
  . rename_i z; cases z
  . rename_i z; cases z
  . rename_i z; cases z
    obtain ⟨n, h0, h9⟩ := bind_some e
    obtain ⟨d1, h1, h2⟩ := bind_some h9
    exact ⟨_, _, _, _, _, rfl, h0, h1, h2⟩
  . cases e
theorem ya0 {α : Type} {h : D -> Option (α × D)} {r : α} {d' : D} {p : List Ps1} : ∀ {d0 : D}, ze0 h d0 p = some (r, d') -> ∃ d dn, ze6 d0 p = some d /\ h d = some (r, dn) := by
  induction p generalizing d' with
  | nil => intro d0 e; rw [ze0] at e; exact ⟨d0, d', by rw [ze6], e⟩
  | cons s p ih =>
    intro d0 e
    cases s with
    | ix m =>
      obtain ⟨xs, d1, d2, rfl, h1, h3, rfl⟩ := xs8 e
      obtain ⟨d, dn, g1, g2⟩ := ih h3
      refine ⟨d, dn, ?_, g2⟩
      show (xs[m]?).bind _ = _
      rw [h1]; exact g1
    | fld f =>
      obtain ⟨C, ns, xs, m, d1, d2, rfl, h0, h1, h3, rfl⟩ := xm7 e
      obtain ⟨d, dn, g1, g2⟩ := ih h3
      refine ⟨d, dn, ?_, g2⟩
      show (zf0 ns f).bind _ = _
      rw [h0]
      show (xs[m]?).bind _ = _
      rw [h1]; exact g1
section
variable {K : PySem.W.Frag} {κ : Str -> Addr} {H : Hp}
theorem Reps.focus : ∀ {vs : List V} {ds : List D} {g : List Addr} {n : Nat} {d1 : D} {v1 : V}, Reps K κ H vs ds g -> ds[n]? = some d1 -> vs[n]? = some v1 -> ∃ f1 zc2, Rep K κ H v1 d1 f1 /\ g.Perm (f1 ++ zc2) /\
    ∀ (H' : Hp) (d' : D) (f' : List Addr), (∀ a o, H a = some o -> tf o = true -> H' a = some o) -> (∀ a ∈ zc2, H' a = H a) -> Rep K κ H' v1 d' f' -> ∃ g', Reps K κ H' vs (ds.set n d') g' /\ g'.Perm (f' ++ zc2)
  | _, _, _, _, _, _, .nil, e, _ => by simp at e
  | _, _, _, 0, _, _, .cons (f := f) (g := g) h hs, e, e' => by
    simp at e e'; subst e; subst e'
    exact ⟨f, g, h, .refl _, fun H' d' f' t k r => ⟨f' ++ g, .cons r (hs.move t k), .refl _⟩⟩
  | _, _, _, n + 1, _, _, .cons (f := f) (g := g) h hs, e, e' => by
    obtain ⟨f1, zc2, h1, h2, h3⟩ := Reps.focus (n := n) hs (by simpa using e) (by simpa using e')
    refine ⟨f1, f ++ zc2, h1, ?_, fun H' d' f' t k r => ?_⟩
    . refine (h2.append_left f).trans ?_
      rw [<- List.append_assoc, <- List.append_assoc]
      exact List.perm_append_comm.append_right zc2
    . obtain ⟨g', r1, r2⟩ := h3 H' d' f' t (fun a ha => k a (List.mem_append_right _ ha)) r
      refine ⟨f ++ g', .cons (h.move t fun a ha => k a (List.mem_append_left _ ha)) r1, ?_⟩
      refine (r2.append_left f).trans ?_
      rw [<- List.append_assoc, <- List.append_assoc]
      exact List.perm_append_comm.append_right zc2
theorem xh7 {b : Addr} {g f1 fd zc2 rest1 : List Addr} (k2 : g.Perm (f1 ++ rest1)) (m3 : f1.Perm (fd ++ zc2)) : (b :: g).Perm (fd ++ b :: (zc2 ++ rest1)) := by
  refine ((k2.trans (m3.append_right rest1)).cons b).trans ?_
  rw [List.append_assoc]
  exact List.perm_middle.symm
theorem focus {α : Type} {h : D -> Option (α × D)} {r : α} {p : List Ps1} : ∀ {v0 v : V} {d0 d0' : D} {fp : List Addr}, Rep K κ H v0 d0 fp -> ze0 h d0 p = some (r, d0') -> At H v0 p v -> ∃ d d' fd zc2, Rep K κ H v d fd /\ h d = some (r, d') /\ fp.Perm (fd ++ zc2) /\
    ∀ (H' : Hp) (f' : List Addr), (∀ a o, H a = some o -> tf o = true -> H' a = some o) -> (∀ a ∈ zc2, H' a = H a) -> Rep K κ H' v d' f' -> ∃ fp', Rep K κ H' v0 d0' fp' /\ fp'.Perm (f' ++ zc2) := by
  induction p with
  | nil =>
    intro v0 v d0 d0' fp R e a
    rw [ze0] at e
    cases (show v = v0 from a)
    exact ⟨d0, d0', fp, [], R, e, by rw [List.append_nil], fun H' f' t k r => ⟨f', r, by rw [List.append_nil]⟩⟩
  | cons s p ih =>
    intro v0 v d0 d0' fp R e a
    have deep : ∀ (b : Addr) (vs : List V) (xs : List D) (n : Nat) (d1 d2 : D) (v1 : V) (g : List Addr), fp = b :: g -> Reps K κ H vs xs g -> xs[n]? = some d1 -> vs[n]? = some v1 -> ze0 h d1 p = some (r, d2) -> At H v1 p v -> (∀ (H' : Hp) (g2 : List Addr), H' b = H b -> Reps K κ H' vs (xs.set n d2) g2 -> Rep K κ H' v0 d0' (b :: g2)) ->
        ∃ d d' fd zc2, Rep K κ H v d fd /\ h d = some (r, d') /\ fp.Perm (fd ++ zc2) /\ ∀ (H' : Hp) (f' : List Addr), (∀ a o, H a = some o -> tf o = true -> H' a = some o) -> (∀ a ∈ zc2, H' a = H a) -> Rep K κ H' v d' f' -> ∃ fp', Rep K κ H' v0 d0' fp' /\ fp'.Perm (f' ++ zc2) := fun b vs xs n d1 d2 v1 g ef hs h1 e3 h3 e4 mk => by
      subst ef
      obtain ⟨f1, rest1, k1, k2, k3⟩ := hs.focus h1 e3
      obtain ⟨d, d', fd, zc2, m1, m2, m3, m4⟩ := ih k1 h3 e4
      refine ⟨d, d', fd, b :: (zc2 ++ rest1), m1, m2, xh7 k2 m3, fun H' f' t k rr => ?_⟩
      obtain ⟨g1, q1, q2⟩ := m4 H' f' t (fun a ha => k a (List.mem_cons_of_mem _ (List.mem_append_left _ ha))) rr
      obtain ⟨g2, q3, q4⟩ := k3 H' d2 g1 t (fun a ha => k a (List.mem_cons_of_mem _ (List.mem_append_right _ ha))) q1
      exact ⟨b :: g2, mk H' g2 (k b List.mem_cons_self) q3, xh7 q4 q2⟩
    cases s with
    | ix n =>
      obtain ⟨b, vs, v1, e1, e2, e3, e4⟩ := a
      subst e1
      obtain ⟨xs, d1, d2, rfl, h1, h3, rfl⟩ := xs8 e
      obtain ⟨_, _, g, e5, hb, hs, ef⟩ := R.lstT_inv
      cases e5
      rw [e2] at hb; cases hb
      exact deep b vs xs n d1 d2 v1 g ef hs h1 e3 h3 e4 fun H' g2 k q3 => .lst (k.trans e2) q3
    | fld f =>
      obtain ⟨b, C, dx, fs, n, v1, e1, e2, e2', e3, e4⟩ := a
      subst e1
      obtain ⟨C', ns, xs, n', d1, d2, rfl, h0, h1, h3, rfl⟩ := xm7 e
      obtain ⟨_, _, _, g, e5, hb, hn, hs, ef⟩ := R.objT_inv
      cases e5
      rw [e2] at hb; cases hb
      subst hn
      rw [e2'] at h0; cases h0
      exact deep b _ xs n d1 d2 v1 g ef hs h1 e3 h3 e4 fun H' g2 k q3 => .obj (k.trans e2) rfl q3
end
theorem yl4 {φ : Fx} {α : Type} {h : D -> Option (α × D)} {r : α} {H H1 : Hp} {σ : St} {ps : PSt} {F : Nat -> List Addr} {j : Nat} {d0 d0' : D} {v0 v : V} {p : List Ps1} (R : RS φ H σ ps F) (s1 : SameK H H1) (hb : φ.bor j = false) (e0 : ps[j]? = some (some d0)) (ev : σ[j]? = some (some v0))
    (em : ze0 h d0 p = some (r, d0')) (at_ : At H1 v0 p v) : ∃ d d' fd, Rep φ.K φ.κ H1 v d fd /\ h d = some (r, d') /\ fd.Nodup /\ (∀ a ∈ fd, a ∈ F j) /\
    ∀ (H' : Hp) (fd' fr : List Addr), (∀ a o, H1 a = some o -> kd o = true -> a ∉ fd -> H' a = some o) -> (∀ a, H' a = none -> H1 a = none) -> Rep φ.K φ.κ H' v d' fd' -> (fd' ++ fr).Nodup -> (∀ a ∈ fd' ++ fr, a ∈ fd \/ H a = none) ->
      ∃ F', Stp φ σ H F σ H' (ps.set j (some d0')) F' /\ OwnV F H F' fr := by
  obtain ⟨v0', fp, h1, h2, h3, _⟩ := R.rep j d0 e0
  rw [ev] at h1; cases h1
  have h3 := h3 hb
  subst h3
  obtain ⟨d, d', fd, zc2, m1, m2, m3, m4⟩ := focus (h2.same s1) em at_
  have ndF := R.nd j
  have ndp : (fd ++ zc2).Nodup := m3.nodup_iff.mp ndF
  obtain ⟨nd1, nd2, nd3⟩ := List.nodup_append.mp ndp
  have inF : ∀ a, a ∈ fd \/ a ∈ zc2 -> a ∈ F j := fun a ha => m3.mem_iff.mpr (List.mem_append.mpr ha)
  refine ⟨d, d', fd, m1, m2, nd1, fun a ha => inF a (.inl ha), fun H' fd' fr k1 k2 k3 k4 k5 => ?_⟩
  have tfk : ∀ a o, H1 a = some o -> tf o = true -> H' a = some o := fun a o ha t => k1 a o ha (zw6 t) fun hm => by
    obtain ⟨o', q, _, q'⟩ := m1.own a hm
    rw [ha] at q; cases q; rw [t] at q'; cases q'
  have keepO : ∀ a, (∃ i, a ∈ F i) -> a ∉ fd -> H' a = H1 a := fun a ⟨i, hi⟩ hn => by
    obtain ⟨o, q, q', _⟩ := R.own hi
    have q1 := s1.keep a o q q'
    rw [q1]; exact k1 a o q1 q' hn
  have notfd : ∀ a, a ∈ zc2 -> a ∉ fd := fun a hr hf => nd3 a hf a hr rfl
  obtain ⟨fp', r1, r2⟩ := m4 H' fd' tfk (fun a ha => keepO a ⟨j, inF a (.inr ha)⟩ (notfd a ha)) k3
  obtain ⟨kd1, kd2, kd3⟩ := List.nodup_append.mp k4
  have memfp : ∀ a, a ∈ fp' -> a ∈ fd' \/ a ∈ zc2 := fun a ha => List.mem_append.mp (r2.mem_iff.mp ha)
  have lt : j < ps.length := (List.getElem?_eq_some_iff.mp e0).1
  have old : ∀ a, a ∈ fd' ++ fr -> ∀ i, a ∈ F i -> a ∈ fd := fun a ha i hi => (k5 a ha).elim id fun z => by
    obtain ⟨o, q, _⟩ := R.own hi
    rw [z] at q; cases q
  refine ⟨yk4 F j fp', ⟨⟨fun a o ha hk hn => ?_, fun a ha => s1.grow a (k2 a ha)⟩, fun i a ha => ?_, ⟨fun i d2 hi => ?_, fun i a ha => ?_, fun i k a ha hk => ?_, fun i => ?_, fun i a ha kk hB => ?_, fun kk a hB z => R.bt kk a hB (s1.grow a (k2 a z)), by simpa using R.len⟩, fun _ _ => rfl⟩, ⟨fun a ha => ?_, kd2, fun i a ha hr => ?_⟩⟩
  . exact k1 a o (s1.keep a o ha hk) hk fun hm => hn j (inF a (.inl hm))
  . rcases zu8 ha with z | z
    . rcases memfp a z with z | z
      . exact (k5 a (List.mem_append_left _ z)).elim (fun z => .inl ⟨j, inF a (.inl z)⟩) .inr
      . exact .inl ⟨j, inF a (.inr z)⟩
    . exact .inl ⟨i, z⟩
  . by_cases e : i = j
    . subst e
      rw [List.getElem?_set_self lt] at hi
      cases hi
      exact ⟨v0, fp', ev, r1, fun _ => zl8.symm, fun z => by rw [hb] at z; cases z⟩
    . rw [List.getElem?_set_ne (fun z => e z.symm)] at hi
      obtain ⟨v2, f2, q1, q2, q3, q4⟩ := R.rep i d2 hi
      refine ⟨v2, f2, q1, (q2.same s1).move tfk fun a ha => ?_, fun z => by rw [zl9 e]; exact q3 z, q4⟩
      obtain ⟨o, w1, w2, _⟩ := q2.own a ha
      have w3 := s1.keep a o w1 w2
      rw [w3]
      refine k1 a o w3 w2 fun hm => ?_
      have hF := inF a (.inl hm)
      cases hbi : φ.bor i with
      | true => exact R.nb j a hF i (q4 hbi a ha)
      | false => rw [q3 hbi] at ha; exact e (R.dis i j a ha hF)
  . by_cases e : i = j
    . subst e; exact ⟨hb, d0', by rw [List.getElem?_set_self lt]⟩
    . rw [zl9 e] at ha
      obtain ⟨b1, d1, b2⟩ := R.emp i a ha
      exact ⟨b1, d1, by rw [List.getElem?_set_ne (fun z => e z.symm)]; exact b2⟩
  . have hh : ∀ a, a ∈ fp' -> ∀ i, i ≠ j -> a ∈ F i -> False := fun a ha i hij hi => by
      rcases memfp a ha with z | z
      . exact hij (R.dis i j a hi (inF a (.inl (old a (List.mem_append_left _ z) i hi))))
      . exact hij (R.dis i j a hi (inF a (.inr z)))
    by_cases e1 : i = j
    . by_cases e2 : k = j
      . rw [e1, e2]
      . subst e1; rw [zl8] at ha; rw [zl9 e2] at hk; exact (hh a ha k e2 hk).elim
    . by_cases e2 : k = j
      . subst e2; rw [zl8] at hk; rw [zl9 e1] at ha; exact (hh a hk i e1 ha).elim
      . rw [zl9 e1] at ha; rw [zl9 e2] at hk; exact R.dis i k a ha hk
  . by_cases e : i = j
    . subst e
      rw [zl8]
      refine r2.nodup_iff.mpr (List.nodup_append.mpr ⟨kd1, nd2, fun a ha b hb' e => ?_⟩)
      subst e
      exact notfd a hb' (old a (List.mem_append_left _ ha) i (inF a (.inr hb')))
    . rw [zl9 e]; exact R.nd i
  . rcases zu8 ha with z | z
    . rcases memfp a z with z | z
      . exact R.notB ((k5 a (List.mem_append_left _ z)).elim (fun z => .inl ⟨j, inF a (.inl z)⟩) .inr) kk hB
      . exact R.nb j a (inF a (.inr z)) kk hB
    . exact R.nb i a z kk hB
  . exact (k5 a (List.mem_append_right _ ha)).elim (fun z => .inl ⟨j, inF a (.inl z)⟩) .inr
  . rcases zu8 ha with z | z
    . rcases memfp a z with z | z
      . exact kd3 a z a hr rfl
      . exact notfd a z (old a (List.mem_append_right _ hr) j (inF a (.inr z)))
    . have := old a (List.mem_append_right _ hr) i z
      by_cases e : i = j
      . subst e
        rw [zl8] at ha
        rcases memfp a ha with w | w
        . exact kd3 a w a hr rfl
        . exact notfd a w this
      . exact e (R.dis i j a z (inF a (.inl this)))
end L2
namespace L2
open PySem PySem.Spec PyProof.Rows
noncomputable def zn9 (K : PySem.W.Frag) (κ : Str -> Addr) (j : Nat) (pf : PSt -> Option (List Ps1)) : TE := fun σ H Q => ∃ ps p d0 d, WS K κ H σ ps /\ ps[j]? = some (some d0) /\ pf ps = some p /\ ze6 d0 p = some d /\ ∀ v H' v0, SameK H H' -> σ[j]? = some (some v0) -> At H' v0 p v -> Q v H'
theorem yw9 {K : PySem.W.Frag} {κ : Str -> Addr} {H : Hp} {v0 v : V} {d0 d : D} {fp : List Addr} {p : List Ps1} (R : Rep K κ H v0 d0 fp) (g : ze6 d0 p = some d) (a : At H v0 p v) : ∃ fd, Rep K κ H v d fd := by
  have key : ∀ {p : List Ps1} {v0 v : V} {d0 d : D} {fp : List Addr}, Rep K κ H v0 d0 fp -> ze6 d0 p = some d -> At H v0 p v -> ∃ fd, Rep K κ H v d fd := by
    intro p
    induction p with
    | nil => intro v0 v d0 d fp R g a; cases g; cases (show v = v0 from a); exact ⟨fp, R⟩
    | cons s p ih =>
      intro v0 v d0 d fp R g a
      cases s with
      | ix n =>
        obtain ⟨b, vs, v1, e1, e2, e3, e4⟩ := a
        subst e1
        obtain ⟨xs, d1, rfl, h1, h2⟩ := xe3 g
        obtain ⟨_, _, _, e5, hb, hs, _⟩ := R.lstT_inv
        cases e5
        rw [e2] at hb; cases hb
        obtain ⟨v', f, q1, q2, _⟩ := hs.get h1
        rw [e3] at q1; cases q1
        exact ih q2 h2 e4
      | fld f =>
        obtain ⟨b, C, dx, fs, n, v1, e1, e2, e2', e3, e4⟩ := a
        subst e1
        obtain ⟨C', ns, xs, n', d1, rfl, h0, h1, h2⟩ := yw8 g
        obtain ⟨_, _, _, _, e5, hb, hn, hs, _⟩ := R.objT_inv
        cases e5
        rw [e2] at hb; cases hb
        subst hn
        rw [e2'] at h0; cases h0
        obtain ⟨v', f, q1, q2, _⟩ := hs.get h1
        rw [e3] at q1; cases q1
        exact ih q2 h2 e4
  exact key R g a
noncomputable def zb6 : PSt -> Option (List Ps1) := fun _ => some []
noncomputable def zh5 (j : Nat) (pf : PSt -> Option (List Ps1)) (fb : PSt -> Option D) : PSt -> Option (List Ps1) := fun ps => (pf ps).bind fun p => ((ps[j]?).join).bind fun d0 => (ze6 d0 p).bind fun d => (fb ps).bind fun y => match d, y with
  | .lst true xs, .int i => (ixN xs.length i).bind fun n => some (p ++ [.ix n])
  | _, _ => none
noncomputable def zo0 (j : Nat) (pf : PSt -> Option (List Ps1)) (C f : Str) : PSt -> Option (List Ps1) := fun ps => (pf ps).bind fun p => ((ps[j]?).join).bind fun d0 => (ze6 d0 p).bind fun d => match d with
  | .obj true C' _ _ => if C' = C then some (p ++ [.fld f]) else none
  | _ => none
theorem yh2 : ∀ {fs : List (Str × V)} {f : Str} {n : Nat} {v : V}, zf0 (fs.map (·.1)) f = some n -> (fs.map (·.2))[n]? = some v -> fs.lookup f = some v
  | [], _, _, _, h, _ => by cases h
  | (g, u) :: fs, f, n, v, h, hv => by
    rw [List.map_cons, zf0] at h
    by_cases e : g = f
    . rw [if_pos e] at h
      cases h
      rw [List.lookup_cons]
      have : (f == g) = true := by simp [e]
      rw [this]
      simpa using hv
    . rw [if_neg e] at h
      cases q : zf0 (fs.map (·.1)) f with
      | none => rw [q] at h; cases h
      | some m =>
        rw [q] at h; cases h
        rw [List.lookup_cons]
        have : (f == g) = false := by simp; exact fun z => e z.symm
        rw [this]
        exact yh2 q (by simpa using hv)
section
variable {X : Cx} {φ : F0} {κ : Str -> Addr} {K : PySem.W.Frag} {o e a b : Expr} {f fb fe : PSt -> Option D} {g : PSt -> Option (List D)} {pf : PSt -> Option (List Ps1)} {j : Nat} {pos apos : Pos}
theorem ze5 (j : Nat) {x : Str} (hN : X.N[j]? = some x := by rfl) (hv : Vis X.env.scope x := by first | exact Or.inl rfl | exact Or.inr (Or.inl rfl) | exact Or.inr (Or.inr rfl)) (hd : (x == ("__debug__" : Str)) = false := by decide)
    (hcd : (x == ("__classdict__" : Str)) = false := by decide) : PE X (.Name x pos) (zn9 K κ j zb6) := (yk7 hN hv hd hcd).imp fun σ H Q hh_ => by
  obtain ⟨ps, p, d0, d, w, e0, ep, eg, q⟩ := hh_
  cases ep
  obtain ⟨v, fp, h1, h2⟩ := w j d0 e0
  exact ⟨v, h1, q v H v (.refl H) h1 rfl⟩
theorem zr9 (ha : PE X a (zn9 X.K κ j pf)) (hb : QV X κ b fb) (hs : yd4 b := by exact fun _ _ => rfl) : PE X (.Subscript a b pos) (zn9 X.K κ j (zh5 j pf fb)) :=
  (xj5 xd5 ha hb hs).imp fun σ H Q hh_ => by
    obtain ⟨ps, p, d0, d, w, e0, ep, eg, q⟩ := hh_
    obtain ⟨p1, e1, e2⟩ := bind_some ep
    obtain ⟨d0', e3, e4⟩ := bind_some e2
    have := join_some e3
    rw [e0] at this; cases this
    obtain ⟨d1, e5, e6⟩ := bind_some e4
    obtain ⟨y, e7, e8⟩ := bind_some e6
    split at e8
    . rename_i xs i
      obtain ⟨n, e9, e10⟩ := bind_some e8
      cases e10
      refine ⟨ps, p1, d0, _, w, e0, e1, e5, fun v H1 v0 s1 ev a1 => ⟨ps, _, w.same s1, e7, fun u H2 fq s2 r2 => ?_⟩⟩
      obtain ⟨v0', fp, h1, h2⟩ := w j d0 e0
      rw [ev] at h1; cases h1
      obtain ⟨fd, rd⟩ := yw9 (h2.same (s1.trans s2)) e5 (a1.same s2)
      obtain ⟨l, vs, g, rfl, hl, hr, _⟩ := rd.lstT_inv
      have ln := hr.length
      have hn := (yt5 e9).2.1
      obtain ⟨v1, hv⟩ : ∃ v1, vs[n]? = some v1 := ⟨_, List.getElem?_eq_getElem (by rw [ln]; exact hn)⟩
      refine ⟨l, vs, i, v1, rfl, r2.is_int, .inl (.inl hl), ?_, q _ H2 v0 (s1.trans s2) ev (At.snoc_ix hl hv (a1.same s2))⟩
      unfold atI
      rw [ln, e9]; exact hv
    . cases e8
theorem yr1 {C fn : Str} (hc : Cls X.K (κ C)) (hna : zg9 X.K (κ C) fn) (ha : PE X a (zn9 X.K κ j pf)) (hb : attributeBase a fn X.env (eval a X.env) = eval a X.env := by rfl) : PE X (.Attribute a fn pos) (zn9 X.K κ j (zo0 j pf C fn)) :=
  (wu8 ha hb).imp fun σ H Q hh_ => by
    obtain ⟨ps, p, d0, d, w, e0, ep, eg, q⟩ := hh_
    obtain ⟨p1, e1, e2⟩ := bind_some ep
    obtain ⟨d0', e3, e4⟩ := bind_some e2
    have := join_some e3
    rw [e0] at this; cases this
    obtain ⟨d1, e5, e6⟩ := bind_some e4
    split at e6
    . rename_i C' ns xs
      obtain ⟨hC, e7⟩ := zf8 e6
      subst hC
      cases e7
      refine ⟨ps, p1, d0, _, w, e0, e1, e5, fun v H1 v0 s1 ev a1 => ?_⟩
      obtain ⟨v0', fp, h1, h2⟩ := w j d0 e0
      rw [ev] at h1; cases h1
      obtain ⟨fd, rd⟩ := yw9 (h2.same s1) e5 a1
      have key : ∀ {p : List Ps1} {d0 : D}, ze6 d0 p = some (.obj true C' ns xs) -> ze6 d0 (p ++ [.fld fn]) = some d -> ∃ n d', zf0 ns fn = some n /\ xs[n]? = some d' := by
        intro p
        induction p with
        | nil =>
          intro d0 h1 h2
          cases h1
          obtain ⟨n, k1, k2⟩ := bind_some h2
          obtain ⟨d', k3, _⟩ := bind_some k2
          exact ⟨n, d', k1, k3⟩
        | cons s p ih =>
          intro d0 h1 h2
          cases s with
          | ix m =>
            obtain ⟨ys, x1, rfl, k1, k2⟩ := xe3 h1
            obtain ⟨_, x2, z, k3, k4⟩ := xe3 h2
            cases z
            rw [k1] at k3; cases k3
            exact ih k2 k4
          | fld f' =>
            obtain ⟨C2, ns2, ys, m1, x1, rfl, k0, k1, k2⟩ := yw8 h1
            obtain ⟨_, _, _, m2, x2, z, k5, k3, k4⟩ := yw8 h2
            cases z
            rw [k0] at k5; cases k5
            rw [k1] at k3; cases k3
            exact ih k2 k4
      obtain ⟨n, d', k1, k2⟩ := key e5 eg
      obtain ⟨l, dx, fs, g, rfl, hl, hn, hr, _⟩ := rd.objT_inv
      subst hn
      obtain ⟨v1, f1, k3, _⟩ := hr.get k2
      exact ⟨l, κ C', dx, fs, v1, rfl, hl, hc, hna, yh2 k1 k3, q _ H1 v0 s1 ev (At.snoc_fld hl k1 k3 a1)⟩
    . cases e6
noncomputable def zc9 (j : Nat) (pf : PSt -> Option (List Ps1)) (g : PSt -> Option (List D)) (h : List D -> D -> Option (D × D)) : PSt -> Option (D × PSt) := fun ps => ((ps[j]?).join).bind fun d0 => (pf ps).bind fun p => (g ps).bind fun ys => (ze0 (h ys) d0 p).bind fun r => some (r.1, ps.set j (some r.2))
theorem yi7 {h : List D -> D -> Option (D × D)} {ps ps' : PSt} {d : D} (e : zc9 j pf g h ps = some (d, ps')) : ∃ d0 p ys d0', ps[j]? = some (some d0) /\ pf ps = some p /\ g ps = some ys /\ ze0 (h ys) d0 p = some (d, d0') /\ ps' = ps.set j (some d0') := by
  obtain ⟨d0, e1, e2⟩ := bind_some e
  obtain ⟨p, e3, e4⟩ := bind_some e2
  obtain ⟨ys, e5, e6⟩ := bind_some e4
  obtain ⟨⟨r, d0'⟩, e7, e8⟩ := bind_some e6
  cases e8
  exact ⟨d0, p, ys, d0', join_some e1, e3, e5, e7, rfl⟩
noncomputable def zc7 : List D -> D -> Option (D × D)
  | [y], .lst true xs => if xs.length < sizeLine then some (.non, .lst true (xs ++ [y])) else none
  | _, _ => none
theorem yr2 {ys : List D} {d r d' : D} (h : zc7 ys d = some (r, d')) : ∃ y xs, ys = [y] /\ d = .lst true xs /\ xs.length < sizeLine /\ r = .non /\ d' = .lst true (xs ++ [y]) := by
  unfold zc7 at h
  split at h
  . obtain ⟨hc, e⟩ := zf8 h
    cases e
    exact ⟨_, _, rfl, rfl, hc, rfl, rfl⟩
  . cases h
theorem yt7 {H H1 : Hp} {σ : St} {ps : PSt} {d0 d : D} {v0 v : V} {p : List Ps1} (w : WS K κ H σ ps) (s1 : SameK H H1) (e0 : ps[j]? = some (some d0)) (ev : σ[j]? = some (some v0)) (g : ze6 d0 p = some d) (a : At H1 v0 p v) : ∃ fd, Rep K κ H1 v d fd := by
  obtain ⟨v0', fp, h1, h2⟩ := w j d0 e0
  rw [ev] at h1; cases h1
  exact yw9 (h2.same s1) g a
theorem zs7 (hb : φ.bor j = false) (ho : PE X o (zn9 X.K κ j pf)) (ha : PA X [e] (tPA X.K κ g))
    (hbase : attributeBase o "append" X.env (eval o X.env) = eval o X.env := by rfl)
    (hfew : ((backTo pos (starEach [e] X.env)).all (fun x => !x.1) && (backToKw pos (keywordEach [] X.env)).all (fun x => x.1.isSome)
      && decide ([e].length + ([] : List Keyword).length + (if ([] : List Keyword).isEmpty then 0 else 1) < 30)) = true := by rfl)
    (hline : (apos.endLine == pos.line) = true := by rfl) (hs : starEach [e] X.env = (false, eval e X.env) :: starEach [] X.env := by rfl) (hplain : (backTo pos (starEach [] X.env)).any (·.1) = false := by rfl) :
    QE X κ φ (.Call (.Attribute o "append" apos) [e] [] pos) (zc9 j pf g zc7) :=
  (xw2 PySem.F.plainAttrs_list PySem.F.slot_list_append PySem.F.type_list_append xh0 ho ha hbase hfew hline hs hplain).imp fun σ H Q hh_ => by
    obtain ⟨ps, F, d, ps', R, e, q⟩ := hh_
    obtain ⟨d0, p, ys, d0', e0, ep, eg, em, rfl⟩ := yi7 e
    obtain ⟨dd, dn, gp, hh⟩ := ya0 em
    refine ⟨ps, p, d0, dd, R.ws, e0, ep, gp, fun v H1 v0 s1 ev a1 => ⟨?_, ps, ys, R.ws.same s1, eg, fun vs H2 fy s2 n2 nd2 r2 => ?_⟩⟩
    . obtain ⟨y, xs, rfl, rfl, _⟩ := yr2 hh
      obtain ⟨fd, rd⟩ := yt7 R.ws s1 e0 ev gp a1
      obtain ⟨_, _, _, rfl, hl, hr, rfl⟩ := rd.lstT_inv
      exact .inl ⟨rfl, _, .inl (.inl hl)⟩
    . obtain ⟨d1, d1', fd, m1, m2, m3, m4, m5⟩ := yl4 R (s1.trans s2) hb e0 ev em (a1.same s2)
      obtain ⟨y, xs, rfl, rfl, hz, rfl, rfl⟩ := yr2 m2
      obtain ⟨u, rfl, ru⟩ := r2.one_inv
      obtain ⟨l, us, g1, rfl, hl, hr, rfl⟩ := m1.lstT_inv
      have ln := hr.length
      refine ⟨l, us, u, rfl, rfl, hl, by omega, ?_⟩
      have nl : l ∉ fy := fun z => by have := n2 l z; have := s1.keep l; obtain ⟨o, h1, h2, _⟩ := R.own (m4 l List.mem_cons_self); have := s1.keep l o h1 h2; rw [n2 l z] at this; cases this
      obtain ⟨nl2, nd3⟩ := List.nodup_cons.mp m3
      have up : ∀ a, a ≠ l -> upd H2 l (.lst (us ++ [u])) a = H2 a := fun a h => zg3 h
      have tfk : ∀ a o, H2 a = some o -> tf o = true -> upd H2 l (.lst (us ++ [u])) a = some o := fun a o h t => by
        rw [up a]
        . exact h
        . rintro rfl; rw [hl] at h; cases h; cases t
      obtain ⟨F', st, ow⟩ := m5 (upd H2 l (.lst (us ++ [u]))) (l :: (g1 ++ fy)) [] (fun a o h _ hn => by rw [up a (fun z => hn (z ▸ List.mem_cons_self))]; exact h)
        (fun a h => by
          by_cases z : a = l
          . subst z; rw [zi9] at h; cases h
          . rw [up a z] at h; exact h)
        (.lst zi9 (Reps.append (hr.move tfk fun a ha => up a fun z => nl2 (z ▸ ha)) (Reps.one (ru.move tfk fun a ha => up a fun z => nl (z ▸ ha)))))
        (by
          rw [List.append_nil, List.nodup_cons, List.nodup_append]
          refine ⟨fun z => (List.mem_append.mp z).elim nl2 nl, nd3, nd2, fun a ha b hb e => ?_⟩
          subst e
          obtain ⟨o, h1, h2, _⟩ := R.own (m4 a (List.mem_cons_of_mem _ ha))
          have := s1.keep a o h1 h2
          rw [n2 a hb] at this; cases this)
        (fun a ha => by
          rw [List.append_nil] at ha
          rcases List.mem_cons.mp ha with z | z
          . exact .inl (z ▸ List.mem_cons_self)
          . rcases List.mem_append.mp z with z | z
            . exact .inl (List.mem_cons_of_mem _ z)
            . exact .inr (s1.grow a (n2 a z)))
      exact q .non _ F' [] st ow .non
end
end L2
namespace L2
open PySem PySem.Spec PyProof.Rows
section
variable {K : PySem.W.Frag} {κ : Str -> Addr} {H : Hp} {l : Addr} {o0 o : HO}
theorem wd8 (hl : H l = some o0) (ht : tf o0 = false) : ∀ a u, H a = some u -> tf u = true -> upd H l o a = some u := fun a u h t => by
  rw [zg3]
  . exact h
  . rintro rfl; rw [hl] at h; cases h; rw [ht] at t; cases t
theorem Rep.updL {v : V} {d : D} {g : List Addr} (r : Rep K κ H v d g) (hl : H l = some o0) (ht : tf o0 = false) (n : l ∉ g) : Rep K κ (upd H l o) v d g := r.move (wd8 hl ht) fun a ha => zg3 fun z => n (z ▸ ha)
theorem Reps.updL {v : List V} {d : List D} {g : List Addr} (r : Reps K κ H v d g) (hl : H l = some o0) (ht : tf o0 = false) (n : l ∉ g) : Reps K κ (upd H l o) v d g := r.move (wd8 hl ht) fun a ha => zg3 fun z => n (z ▸ ha)
theorem yn0 {a : Addr} {u : HO} {g : List Addr} (h : H a = some u) (n : a ∉ l :: g) : upd H l o a = some u := by
  rw [zg3 (fun z => n (by rw [z]; exact List.mem_cons_self))]; exact h
theorem yn1 {a : Addr} (h : upd H l o a = none) : H a = none := by
  by_cases z : a = l
  . subst z; rw [zi9] at h; cases h
  . rw [zg3 z] at h; exact h
theorem Reps.pop : ∀ {vs : List V} {ds : List D} {g : List Addr} {d : D}, Reps K κ H vs ds g -> ds[ds.length - 1]? = some d -> ∃ v g1 f, vs[vs.length - 1]? = some v /\ Rep K κ H v d f /\ Reps K κ H vs.dropLast ds.dropLast g1 /\ g = g1 ++ f
  | _, _, _, _, .nil, e => by simp at e
  | _, [d1], _, d, .cons (f := f) h .nil, e => by
    have e' : d1 = d := by simpa using e
    subst e'
    exact ⟨_, [], f, by simp, h, .nil, by simp⟩
  | v :: v2 :: vs, d1 :: d2 :: ds, _, d, .cons (f := f) h (.cons (f := f2) (g := g2) h2 hs), e => by
    obtain ⟨w, g1, f', k1, k2, k3, k4⟩ := Reps.pop (.cons h2 hs) (d := d) (by simpa using e)
    refine ⟨w, f ++ g1, f', by simpa using k1, k2, ?_, by rw [List.append_assoc, <- k4]⟩
    rw [List.dropLast_cons₂, List.dropLast_cons₂]
    exact .cons h k3
theorem Reps.setV : ∀ {vs : List V} {ds : List D} {g : List Addr} {n : Nat} {v' : V} {d' : D} {f' : List Addr}, Reps K κ H vs ds g -> n < ds.length -> Rep K κ H v' d' f' -> ∃ f1 zc2 g', g.Perm (f1 ++ zc2) /\ Reps K κ H (vs.set n v') (ds.set n d') g' /\ g'.Perm (f' ++ zc2)
  | _, _, _, _, _, _, _, .nil, e, _ => by simp at e
  | _, _, _, 0, _, _, f', .cons (f := f) (g := g) h hs, _, r => ⟨f, g, f' ++ g, .refl _, .cons r hs, .refl _⟩
  | _, _, _, n + 1, _, _, f', .cons (f := f) (g := g) h hs, e, r => by
    obtain ⟨f1, zc2, g', h1, h2, h3⟩ := Reps.setV (n := n) hs (by simpa using e) r
    refine ⟨f1, f ++ zc2, f ++ g', ?_, .cons h h2, ?_⟩
    . refine (h1.append_left f).trans ?_
      rw [<- List.append_assoc, <- List.append_assoc]
      exact List.perm_append_comm.append_right zc2
    . refine (h3.append_left f).trans ?_
      rw [<- List.append_assoc, <- List.append_assoc]
      exact List.perm_append_comm.append_right zc2
end
section
variable {X : Cx} {φ : F0} {κ : Str -> Addr} {K : PySem.W.Frag} {o e a b : Expr} {f fi fe : PSt -> Option D} {g : PSt -> Option (List D)} {pf : PSt -> Option (List Ps1)} {j : Nat} {pos apos : Pos}
noncomputable def yi1 : List D -> D -> Option (D × D)
  | [], .lst true xs => (xs[xs.length - 1]?).bind fun y => some (y, .lst true xs.dropLast)
  | _, _ => none
theorem xh8 {ys : List D} {d r d' : D} (h : yi1 ys d = some (r, d')) : ∃ xs, ys = [] /\ d = .lst true xs /\ xs[xs.length - 1]? = some r /\ d' = .lst true xs.dropLast := by
  unfold yi1 at h
  split at h
  . obtain ⟨y, h1, h2⟩ := bind_some h
    cases h2
    exact ⟨_, rfl, rfl, h1, rfl⟩
  . cases h
theorem xm8 (hb : φ.bor j = false) (ho : PE X o (zn9 X.K κ j pf))
    (hbase : attributeBase o "pop" X.env (eval o X.env) = eval o X.env := by rfl) (hline : (apos.endLine == pos.line) = true := by rfl) : QE X κ φ (.Call (.Attribute o "pop" apos) [] [] pos) (zc9 j pf za3 yi1) :=
  (wv5 PySem.F.plainAttrs_list PySem.F.slot_list_pop PySem.F.type_list_pop wv6 ho hbase hline).imp fun σ H Q hh_ => by
    obtain ⟨ps, F, d, ps', R, e, q⟩ := hh_
    obtain ⟨d0, p, ys, d0', e0, ep, eg, em, rfl⟩ := yi7 e
    cases eg
    obtain ⟨dd, dn, gp, hh⟩ := ya0 em
    refine ⟨ps, p, d0, dd, R.ws, e0, ep, gp, fun v H1 v0 s1 ev a1 => ⟨?_, ?_⟩⟩
    . obtain ⟨xs, _, rfl, _⟩ := xh8 hh
      obtain ⟨fd, rd⟩ := yt7 R.ws s1 e0 ev gp a1
      obtain ⟨_, _, _, rfl, hl, hr, rfl⟩ := rd.lstT_inv
      exact .inl ⟨rfl, _, .inl (.inl hl)⟩
    . obtain ⟨d1, d1', fd, m1, m2, m3, m4, m5⟩ := yl4 R s1 hb e0 ev em a1
      obtain ⟨xs, _, rfl, hx, rfl⟩ := xh8 m2
      obtain ⟨l, us, g1, rfl, hl, hr, rfl⟩ := m1.lstT_inv
      obtain ⟨u, g2, f2, k1, k2, k3, rfl⟩ := hr.pop hx
      obtain ⟨nl, nd3⟩ := List.nodup_cons.mp m3
      have n1 : l ∉ g2 := fun z => nl (List.mem_append_left _ z)
      have n2 : l ∉ f2 := fun z => nl (List.mem_append_right _ z)
      refine ⟨l, us, u, rfl, rfl, hl, k1, ?_⟩
      obtain ⟨F', st, ow⟩ := m5 (upd H1 l (.lst us.dropLast)) (l :: g2) f2 (fun a o h _ hn => yn0 h hn)
        (fun a h => yn1 h)
        (.lst zi9 (k3.updL hl rfl n1)) (by rw [List.cons_append, List.nodup_cons]; exact ⟨nl, nd3⟩) (fun a ha => .inl ha)
      exact q u _ F' f2 st ow (k2.updL hl rfl n2)
noncomputable def zm2 : D -> D -> D -> Option (Unit × D)
  | .int i, y, .lst true xs => (ixN xs.length i).bind fun n => some ((), .lst true (xs.set n y))
  | _, _, _ => none
noncomputable def zh7 (j : Nat) (pf : PSt -> Option (List Ps1)) (fi fe : PSt -> Option D) : PSt -> Option (Fl × PSt) := fun ps => (fe ps).bind fun y => ((ps[j]?).join).bind fun d0 => (pf ps).bind fun p => (fi ps).bind fun i => (ze0 (zm2 i y) d0 p).bind fun r => some (.nx, ps.set j (some r.2))
theorem xq8 {i y d d' : D} {r : Unit} (h : zm2 i y d = some (r, d')) : ∃ k xs n, i = .int k /\ d = .lst true xs /\ ixN xs.length k = some n /\ d' = .lst true (xs.set n y) := by
  unfold zm2 at h
  split at h
  . obtain ⟨n, h1, h2⟩ := bind_some h
    cases h2
    exact ⟨_, _, n, rfl, rfl, h1, rfl⟩
  . cases h
theorem zw7 {i : Expr} (hb : φ.bor j = false) (he : PE X e (tP X.K κ fe)) (ho : PE X o (zn9 X.K κ j pf)) (hi : PE X i (tV X.K κ fi)) (hs : swapsWithSole [.Subscript o i apos] e pos.line X.env = pure false := by rfl) (hw : swappedStores [.Subscript o i apos] e X.env = pure none := by rfl)
    (h1 : (assignEach [.Subscript o i apos] X.env).map (·.2) = [assign (.Subscript o i apos) X.env] := by rfl)
    (ha : ∀ v, assign (.Subscript o i apos) X.env v = (do
      let ov <- holding [v] (eval o X.env)
      let iv <- holding [v, ov] (eval i X.env)
      standAt apos
      holding [v, ov, iv] (setItem ov iv v)
      release [v, ov, iv] []) := by intro _; rfl) : QS X κ φ (.Assign [.Subscript o i apos] e pos) (zh7 j pf fi fe) :=
  (wb1 he (wu2 ho hi wj1 ha) hs hw h1).imp fun E σ H hh_ => by
    obtain ⟨ps, F, fl, ps', R, e, q⟩ := hh_
    obtain ⟨y, e1, e2⟩ := bind_some e
    obtain ⟨d0, e3, e4⟩ := bind_some e2
    have e0 := join_some e3
    obtain ⟨p, e5, e6⟩ := bind_some e4
    obtain ⟨iv, e7, e8⟩ := bind_some e6
    obtain ⟨⟨r, d0'⟩, em, e9⟩ := bind_some e8
    cases e9
    obtain ⟨dd, dn, gp, hh⟩ := ya0 em
    refine ⟨ps, y, R.ws, e1, fun v H1 fy s1 n1 nd1 ry => ⟨ps, p, d0, dd, R.ws.same s1, e0, e5, gp, fun lv H2 v0 s2 ev a2 => ⟨ps, iv, (R.ws.same s1).same s2, e7, fun u H3 fu s3 r3 => ?_⟩⟩⟩
    have s13 := (s1.trans s2).trans s3
    obtain ⟨d1, d1', fd, m1, m2, m3, m4, m5⟩ := yl4 R s13 hb e0 ev em (a2.same s3)
    obtain ⟨k, xs, n, rfl, rfl, hn, rfl⟩ := xq8 m2
    obtain ⟨l, us, g1, rfl, hl, hr, rfl⟩ := m1.lstT_inv
    have ln := hr.length
    have ry3 := (ry.same s2).same s3
    obtain ⟨nl, nd3⟩ := List.nodup_cons.mp m3
    have own0 : ∀ a ∈ l :: g1, H a ≠ none := fun a ha z => by obtain ⟨o, h, _⟩ := R.own (m4 a ha); rw [z] at h; cases h
    have nl2 : l ∉ fy := fun z => own0 l List.mem_cons_self (n1 l z)
    obtain ⟨f1, zc2, g2, k1, k2, k3⟩ := hr.setV (n := n) (yt5 hn).2.1 ry3
    have mem2 : ∀ a ∈ g2, a ∈ fy \/ a ∈ g1 := fun a ha => (List.mem_append.mp (k3.mem_iff.mp ha)).elim .inl fun z => .inr (k1.mem_iff.mpr (List.mem_append_right _ z))
    have n2 : l ∉ g2 := fun z => (mem2 l z).elim nl2 nl
    refine ⟨l, us, k, n, rfl, r3.is_int, hl, by rw [ln]; exact hn, ?_⟩
    obtain ⟨F', st, ow⟩ := m5 (upd H3 l (.lst (us.set n v))) (l :: g2) [] (fun a o h _ hn => yn0 h hn)
      (fun a h => yn1 h)
      (.lst zi9 (k2.updL hl rfl n2))
      (by
        rw [List.append_nil, List.nodup_cons]
        refine ⟨n2, k3.nodup_iff.mpr (List.nodup_append.mpr ⟨nd1, ?_, fun a ha b hb e => ?_⟩)⟩
        . exact (List.nodup_append.mp (k1.nodup_iff.mp nd3)).2.1
        . subst e
          exact own0 a (List.mem_cons_of_mem _ (k1.mem_iff.mpr (List.mem_append_right _ hb))) (n1 a ha))
      (fun a ha => by
        rw [List.append_nil] at ha
        rcases List.mem_cons.mp ha with z | z
        . exact .inl (by rw [z]; exact List.mem_cons_self)
        . exact (mem2 a z).elim (fun z => .inr (n1 a z)) fun z => .inl (List.mem_cons_of_mem _ z))
    exact q _ _ F' st
end
end L2
namespace L2
open PySem PySem.Spec PyProof.Rows
section
variable {φ : Fx} {H H1 : Hp} {σ σ1 : St} {ps ps1 : PSt} {F F1 : Nat -> List Addr}
theorem Stp.set' {fv : List Addr} {i : Nat} {v : V} {d : D} (s1 : Stp φ σ H F σ1 H1 ps1 F1) (o : OwnV F H F1 fv) (R : RS φ H σ ps F) (r : Rep φ.K φ.κ H1 v d fv) (hb : φ.bor i = false \/ fv = []) (hm : φ.M i = false) :
    ∃ F', Stp φ σ H F (σ1.set i (some v)) H1 (ps1.set i (some d)) F' /\ ∀ k a, a ∈ F' k -> a ∈ fv \/ a ∈ F1 k := by
  refine ⟨_, ⟨s1.fr, fun j a h => ?_, s1.rs.set r hb (fun j _ => o.dis j) o.nd fun a ha => R.notB (o.nw a ha), fun j h => ?_⟩, fun k a h => ?_⟩
  . rcases zu8 h with z | z
    . by_cases k : i < ps1.length
      . rw [if_pos k] at z; exact o.nw a z
      . rw [if_neg k] at z; exact absurd z (by simp)
    . exact s1.nw j a z
  . rw [List.getElem?_set_ne (fun z => by subst z; rw [hm] at h; cases h)]
    exact s1.msk j h
  . rcases zu8 h with z | z
    . by_cases k : i < ps1.length
      . rw [if_pos k] at z; exact .inl z
      . rw [if_neg k] at z; exact absurd z (by simp)
    . exact .inr z
noncomputable def setN : St -> List Nat -> List V -> St
  | σ, i :: is, v :: vs => setN (σ.set i (some v)) is vs
  | σ, _, _ => σ
noncomputable def yp0 : PSt -> List Nat -> List D -> PSt
  | ps, i :: is, d :: ds => yp0 (ps.set i (some d)) is ds
  | ps, _, _ => ps
noncomputable def xc0 : List Nat -> TGs
  | [] => wn5
  | i :: is => xz7 (yg2 i) (xc0 is)
theorem yr3 {Q : St -> Hp -> Prop} : ∀ {is : List Nat} {vs : List V} {σ : St}, vs.length = is.length -> Q (setN σ is vs) H -> xc0 is vs σ H Q
  | [], [], σ, _, q => ⟨rfl, q⟩
  | i :: is, v :: vs, σ, h, q => ⟨v, vs, rfl, yr3 (is := is) (by simpa using h) q⟩
  | [], _ :: _, _, h, _ => by simp at h
  | _ :: _, [], _, h, _ => by simp at h
theorem Stp.setN (R : RS φ H σ ps F) : ∀ {is : List Nat} {vs : List V} {ds : List D} {g : List Addr} {σ1 : St} {ps1 : PSt} {F1 : Nat -> List Addr}, Stp φ σ H F σ1 H1 ps1 F1 -> OwnV F H F1 g -> Reps φ.K φ.κ H1 vs ds g -> (∀ i ∈ is, φ.bor i = false /\ φ.M i = false) ->
    ∃ F', Stp φ σ H F (L2.setN σ1 is vs) H1 (yp0 ps1 is ds) F' := by
  intro is
  induction is with
  | nil => intro vs ds g σ1 ps1 F1 s _ _ _; exact ⟨F1, by simpa [L2.setN, yp0] using s⟩
  | cons i is ih =>
    intro vs ds g σ1 ps1 F1 s o r hi
    cases ds with
    | nil => cases r; exact ⟨F1, by simpa [L2.setN, yp0] using s⟩
    | cons d ds =>
      obtain ⟨v, us, f, g', rfl, h, hs, rfl⟩ := r.split
      obtain ⟨nd1, nd2, nd3⟩ := List.nodup_append.mp o.nd
      obtain ⟨F2, s2, hF⟩ := s.set' (i := i) (fv := f) ⟨fun a ha => o.nw a (List.mem_append_left _ ha), nd1, fun k a ha hf => o.dis k a ha (List.mem_append_left _ hf)⟩ R h (.inl (hi i List.mem_cons_self).1) (hi i List.mem_cons_self).2
      refine ih s2 ⟨fun a ha => o.nw a (List.mem_append_right _ ha), nd2, fun k a ha hg => ?_⟩ hs fun k hk => hi k (List.mem_cons_of_mem _ hk)
      rcases hF k a ha with z | z
      . exact nd3 a z a hg rfl
      . exact o.dis k a z (List.mem_append_right _ hg)
end
noncomputable def xp8 : D -> Option (List D)
  | .lst _ ds => some ds
  | .tup ds => some ds
  | _ => none
noncomputable def yp1 (is : List Nat) (f : PSt -> Option (D × PSt)) : PSt -> Option (Fl × PSt) := fun ps => (f ps).bind fun r => (xp8 r.1).bind fun ds => if ds.length = is.length then some (.nx, yp0 r.2 is ds) else none
section
variable {X : Cx} {κ : Str -> Addr} {φ : F0} {es : List Expr} {pos p : Pos} {k : Nat} {is : List Nat} {e : Expr} {f : PSt -> Option (D × PSt)}
theorem ww4 {t : TGs} {n : Nat} (hc : X.calm = true) (h : PGs X es t)
    (hn : (assignEach es X.env).length = n := by rfl) (hst : (assignEach es X.env).findIdx? (·.1) = none := by rfl) : PG X (.Tuple es k pos) (fun v σ H Q => wz4 X.K n t v σ H Q \/ wy4 X.K n t v σ H Q) := by
  intro pins s σ H v u Q I r hw
  rcases hw with hw | hw
  . exact ww1 hc h hn hst pins s σ H v u Q I r hw
  . exact wu1 hc h hn hst pins s σ H v u Q I r hw
theorem yr4 (hc : X.calm = true) (hg : PGs X es (xc0 is)) (he : QE X κ φ e f) (hb : ∀ i ∈ is, φ.bor i = false /\ φ.M i = false) (hn : (assignEach es X.env).length = is.length := by rfl) (hst : (assignEach es X.env).findIdx? (·.1) = none := by rfl)
    (hs : swapsWithSole [.Tuple es k p] e pos.line X.env = pure false := by rfl) (hw : swappedStores [.Tuple es k p] e X.env = pure none := by rfl)
    (h1 : (assignEach [.Tuple es k p] X.env).map (·.2) = [assign (.Tuple es k p) X.env] := by rfl) : QS X κ φ (.Assign [.Tuple es k p] e pos) (yp1 is f) :=
  (wb1 he (ww4 (n := is.length) hc hg hn hst) hs hw h1).imp fun E σ H hh_ => by
    obtain ⟨ps, F, fl, ps', R, e, q⟩ := hh_
    obtain ⟨⟨d, ps1⟩, e1, e2⟩ := bind_some e
    obtain ⟨ds, e3, e4⟩ := bind_some e2
    obtain ⟨hl, e5⟩ := zf8 e4
    cases e5
    refine ⟨ps, F, d, ps1, R, e1, fun v H' F' fv s o r => ?_⟩
    cases d with
    | lst ow xs =>
      cases e3
      obtain ⟨a, vs, g, rfl, h, hs, sub⟩ := r.lst_inv
      have ln := hs.length
      obtain ⟨F2, s2⟩ := Stp.setN R s ⟨fun a ha => o.nw a (sub.subset ha), o.nd.sublist sub, fun k a ha hg => o.dis k a ha (sub.subset hg)⟩ hs hb
      exact .inl ⟨a, vs, rfl, .inl h, by omega, yr3 (by omega) (q _ _ F2 s2)⟩
    | tup xs =>
      cases e3
      obtain ⟨a, vs, rfl, h, hs⟩ := r.tup_inv
      have ln := hs.length
      obtain ⟨F2, s2⟩ := Stp.setN R s ⟨fun a ha => absurd ha (by simp), List.nodup_nil, fun k a ha hg => absurd hg (by simp)⟩ hs hb
      exact .inr ⟨a, vs, rfl, h, by omega, yr3 (by omega) (q _ _ F2 s2)⟩
    | _ => cases e3
end
noncomputable def D.key : D -> Option Key
  | .int i => some (.inl i)
  | .str x => some (.inr x)
  | _ => none
end L2
namespace L2
open PySem PySem.Spec PyProof.Rows
noncomputable def fxE (K : PySem.W.Frag) (κ : Str -> Addr) (np : Nat) (m : Nat -> Bool) : Fx := ⟨K, κ, fun i => decide (i < np) && !m i, m, fun _ _ => False⟩
noncomputable def f0E (np : Nat) (m : Nat -> Bool) : F0 := ⟨fun i => decide (i < np) && !m i, m, fun _ _ => False⟩
noncomputable def SpE (np : Nat) (K : PySem.W.Frag) (κ : Str -> Addr) (m : Nat -> Bool) (g : List D -> Option (D × List D)) : Sp := fun vs H Q _ => vs.length = np /\ ∃ ds r ds' F, ds.length = np /\ RS (fxE K κ np m) H (vs.map some) (ds.map some) F /\ g ds = some (r, ds') /\
  ∀ v H' F' fv, Stp (fxE K κ np m) (vs.map some) H F (vs.map some) H' (ds'.map some) F' -> OwnV F H F' fv -> Rep K κ H' v r fv -> Q v H'
noncomputable def zl6 (m : Nat -> Bool) (ps : PSt) : Nat -> List D -> Option (List D)
  | _, [] => some []
  | i, d :: ds => (if m i = true then (ps[i]?).join else some d).bind fun d' => (zl6 m ps (i + 1) ds).bind fun ds' => some (d' :: ds')
theorem xh9 {m : Nat -> Bool} {ps : PSt} : ∀ {ds ds' : List D} {i : Nat}, zl6 m ps i ds = some ds' -> ds'.length = ds.length /\ ∀ (k : Nat) (d' : D), ds'[k]? = some d' -> (m (i + k) = true -> ps[i + k]? = some (some d')) /\ (m (i + k) = false -> ds[k]? = some d')
  | [], _, _, e => by cases e; exact ⟨rfl, fun k d' h => by simp at h⟩
  | d :: ds, _, i, e => by
    obtain ⟨d1, e1, e2⟩ := bind_some e
    obtain ⟨ds1, e3, e4⟩ := bind_some e2
    cases e4
    obtain ⟨l, h⟩ := xh9 e3
    refine ⟨by simp [l], fun k d' hk => ?_⟩
    cases k with
    | zero =>
      simp at hk; subst hk
      refine ⟨fun z => ?_, fun z => ?_⟩
      . rw [Nat.add_zero] at z |-; rw [if_pos z] at e1; exact join_some e1
      . rw [Nat.add_zero] at z; rw [if_neg (by rw [z]; simp)] at e1; simpa using e1
    | succ k =>
      obtain ⟨h1, h2⟩ := h k d' (by simpa using hk)
      have ea : i + (k + 1) = i + 1 + k := by omega
      rw [ea]
      exact ⟨h1, fun z => by simpa using h2 z⟩
noncomputable def gE (np n : Nat) (m : Nat -> Bool) (f : PSt -> Option (Fl × PSt)) : List D -> Option (D × List D) := fun ds => if ds.length = np then (f (ds.map some ++ List.replicate n none)).bind fun r => match r with
  | (.ret d, ps) => (zl6 m ps 0 ds).bind fun ds' => some (d, ds')
  | (.nx, ps) => (zl6 m ps 0 ds).bind fun ds' => some (.non, ds')
  | _ => none
  else none
theorem RS.more {φ : Fx} {H : Hp} {σ σ2 : St} {ps : PSt} {F : Nat -> List Addr} {n : Nat} (R : RS φ H σ ps F) (hl : ps.length = σ.length) (h2 : n <= σ2.length) : RS φ H (σ ++ σ2) (ps ++ List.replicate n none) F := by
  refine ⟨fun i d h => ?_, fun i a h => ?_, R.dis, R.nd, R.nb, R.bt, by simp [hl]; omega⟩
  . by_cases hi : i < ps.length
    . rw [List.getElem?_append_left hi] at h
      rw [List.getElem?_append_left (by omega)]
      exact R.rep i d h
    . rw [List.getElem?_append_right (by omega), List.getElem?_replicate] at h
      split at h <;> cases h
  . obtain ⟨b, d, e⟩ := R.emp i a h
    have hi := (List.getElem?_eq_some_iff.mp e).1
    exact ⟨b, d, by rw [List.getElem?_append_left hi]; exact e⟩
theorem xm9 {K : PySem.W.Frag} {κ : Str -> Addr} {np n : Nat} {m : Nat -> Bool} {H H' : Hp} {vs : List V} {σ2 σ' : St} {ds ds' : List D} {ps' : PSt} {F F' : Nat -> List Addr} {fv : List Addr} (hm : ∀ i, m i = true -> i < np) (hl : vs.length = np) (hd : ds.length = np) (R : RS (fxE K κ np m) H (vs.map some) (ds.map some) F)
    (s : Stp (fxE K κ np m) (vs.map some ++ σ2) H F σ' H' ps' F') (o : OwnV F H F' fv) (e : zl6 m ps' 0 ds = some ds') :
    ∃ F2, Stp (fxE K κ np m) (vs.map some) H F (vs.map some) H' (ds'.map some) F2 /\ OwnV F H F2 fv := by
  obtain ⟨l, ho⟩ := xh9 e
  have sub : ∀ i a, a ∈ (if m i = true then F' i else []) -> m i = true /\ a ∈ F' i := fun i a h => by
    by_cases z : m i = true
    . rw [if_pos z] at h; exact ⟨z, h⟩
    . rw [if_neg z] at h; exact absurd h (by simp)
  have tfk : ∀ a u, H a = some u -> tf u = true -> H' a = some u := fun a u h t => s.fr.keep a u h (zw6 t) fun i hi => by
    obtain ⟨u', h', _, t'⟩ := R.own hi
    rw [h] at h'; cases h'; rw [t] at t'; cases t'
  have mb : ∀ i, m i = true -> (fxE K κ np m).bor i = false := fun i h => by simp [fxE, h]
  refine ⟨fun i => if m i = true then F' i else [], ⟨s.fr, fun i a h => s.nw i a (sub i a h).2, ⟨fun i d h => ?_, fun i a h => ?_, fun i j a h1 h2 => s.rs.dis i j a (sub i a h1).2 (sub j a h2).2, fun i => ?_, fun i a h => s.rs.nb i a (sub i a h).2, fun _ a h => h.elim, by simp [l, hl, hd]⟩, fun _ _ => rfl⟩, ⟨o.nw, o.nd, fun i a h => o.dis i a (sub i a h).2⟩⟩
  . rw [List.getElem?_map] at h
    cases q : ds'[i]? with
    | none => rw [q] at h; cases h
    | some d1 =>
      rw [q] at h; cases h
      obtain ⟨h1, h2⟩ := ho i d q
      rw [Nat.zero_add] at h1 h2
      by_cases z : m i = true
      . obtain ⟨v, fp, k1, k2, k3, _⟩ := s.rs.rep i d (h1 z)
        refine ⟨v, fp, ?_, k2, fun _ => by rw [if_pos z]; exact k3 (mb i z), fun w => by rw [mb i z] at w; cases w⟩
        rw [<- k1]
        have := s.msk i z
        rw [this, List.getElem?_append_left (by simp [hl]; exact hm i z)]
      . have zf : m i = false := by simpa using z
        have hi : (ds.map some)[i]? = some (some d) := by rw [List.getElem?_map, h2 zf]; rfl
        have hib : (fxE K κ np m).bor i = true := by
          have := (List.getElem?_eq_some_iff.mp (h2 zf)).1
          simp [fxE, zf]; omega
        obtain ⟨v, fp, k1, k2, _, k4⟩ := R.rep i d hi
        have efp : fp = [] := by
          cases fp with
          | nil => rfl
          | cons a r => exact (k4 hib a List.mem_cons_self).elim
        subst efp
        exact ⟨v, [], k1, k2.move tfk (fun a ha => absurd ha (by simp)), (fun w => by rw [hib] at w; cases w), (fun _ a ha => absurd ha (by simp))⟩
  . obtain ⟨z, h⟩ := sub i a h
    refine ⟨mb i z, ?_⟩
    have hi : i < ds'.length := by rw [l, hd]; exact hm i z
    exact ⟨ds'[i], by rw [List.getElem?_map, List.getElem?_eq_getElem hi]; rfl⟩
  . by_cases z : m i = true
    . rw [if_pos z]; exact s.rs.nd i
    . rw [if_neg z]; exact List.nodup_nil
section
variable {P : Program} {w : World} {K : PySem.W.Frag} {mg : Str -> Option Value} {base : Heap} {κ : Str -> Addr}
theorem zy6 {x qual : Str} {st : Stmt} {f : Addr} {fd : FuncData} {N ps : List Str} {k : Nat} {fb : PSt -> Option (Fl × PSt)} {m : Nat -> Bool} (F : Fun K x qual st f fd) (S : FnScope N ps (zb1 st)) (hm : ∀ i, m i = true -> i < ps.length)
    (hbody : ∀ (cdv : Value) (A : Around) (outer : List Env) (s : Shared) (H : Hp) (E : XK), Room k (A.deeper (envOfC qual (zb1 st) s.heap.objs.size f cdv)) ->
      QSs (yk3 CX0 P w K mg base N qual (zb1 st) f cdv A outer s H E).nox κ (f0E ps.length m) (zf2 st) fb) :
    FnOk P w K mg base CX0 (k + 1) f fd ps (SpE ps.length K κ m (gE ps.length (N.length - ps.length) m fb)) := by
  refine F.ok S (fun vs H Q E h => h.1) fun cdv A outer s H vs Q E hr ⟨hl, ds, r, ds', F0, hd, R, e, q⟩ => ⟨_, hbody cdv A outer s H E hr, ?_⟩
  have hn : ps.length <= N.length := by have := congrArg List.length S.pre; rw [List.length_take] at this; omega
  unfold gE at e
  obtain ⟨_, e0⟩ := zf8 e
  obtain ⟨⟨fl, ps'⟩, e1, e2⟩ := bind_some e0
  have R0 := R.more (σ2 := List.replicate (N.length - vs.length) none) (n := N.length - ps.length) (by simp [hl, hd]) (by simp [hl])
  refine ⟨_, F0, fl, ps', R0, e1, ?_⟩
  cases fl with
  | ret d' =>
    obtain ⟨ds1, e3, e4⟩ := bind_some e2
    cases e4
    exact fun v σ' H' F' fv s o rv => by
      obtain ⟨F2, s2, o2⟩ := xm9 (n := 0) hm hl hd R s o e3
      exact q v H' F2 fv s2 o2 rv
  | nx =>
    obtain ⟨ds1, e3, e4⟩ := bind_some e2
    cases e4
    exact fun σ' H' F' s => by
      obtain ⟨F2, s2, o2⟩ := xm9 (n := 0) (fv := []) hm hl hd R s ⟨fun _ h => absurd h (by simp), List.nodup_nil, fun _ _ _ h => absurd h (by simp)⟩ e3
      exact q .non H' F2 [] s2 o2 .non
  | bk => cases e2
  | ct => cases e2
end
inductive Arg where
  | io (j : Nat) | im (f : PSt -> Option D)
noncomputable def zc4 : List Arg -> PSt -> Option (List D)
  | [], _ => some []
  | .io j :: as, ps => ((ps[j]?).join).bind fun d => (zc4 as ps).bind fun ds => some (d :: ds)
  | .im f :: as, ps => (zb7 f ps).bind fun d => (zc4 as ps).bind fun ds => some (d :: ds)
noncomputable def zx6 : List Arg -> Nat -> Bool
  | .io _ :: _, 0 => true
  | _ :: as, i + 1 => zx6 as i
  | _, _ => false
noncomputable def slots : List Arg -> List Nat
  | [] => []
  | .io j :: as => j :: slots as
  | .im _ :: as => slots as
noncomputable def zi7 : PSt -> List Arg -> List D -> PSt
  | ps, .io j :: as, d :: ds => zi7 (ps.set j (some d)) as ds
  | ps, .im _ :: as, _ :: ds => zi7 ps as ds
  | ps, _, _ => ps
inductive ArgsAt (K : PySem.W.Frag) (κ : Str -> Addr) (H : Hp) (σ : St) (ps : PSt) : List Arg -> List V -> List D -> Prop
  | nil : ArgsAt K κ H σ ps [] [] []
  | io {j : Nat} {as : List Arg} {v : V} {vs : List V} {d : D} {ds : List D} : σ[j]? = some (some v) -> ps[j]? = some (some d) -> ArgsAt K κ H σ ps as vs ds -> ArgsAt K κ H σ ps (.io j :: as) (v :: vs) (d :: ds)
  | im {f : PSt -> Option D} {as : List Arg} {v : V} {vs : List V} {d : D} {ds : List D} : Rep K κ H v d [] -> ArgsAt K κ H σ ps as vs ds -> ArgsAt K κ H σ ps (.im f :: as) (v :: vs) (d :: ds)
theorem ArgsAt.same {K : PySem.W.Frag} {κ : Str -> Addr} {H H' : Hp} {σ : St} {ps : PSt} (s : SameK H H') : ∀ {as : List Arg} {vs : List V} {ds : List D}, ArgsAt K κ H σ ps as vs ds -> ArgsAt K κ H' σ ps as vs ds
  | _, _, _, .nil => .nil
  | _, _, _, .io h1 h2 h => .io h1 h2 (ArgsAt.same s h)
  | _, _, _, .im r h => .im (r.same s) (ArgsAt.same s h)
theorem ArgsAt.len {K : PySem.W.Frag} {κ : Str -> Addr} {H : Hp} {σ : St} {ps : PSt} : ∀ {as : List Arg} {vs : List V} {ds : List D}, ArgsAt K κ H σ ps as vs ds -> vs.length = as.length /\ ds.length = as.length
  | _, _, _, .nil => ⟨rfl, rfl⟩
  | _, _, _, .io _ _ h => by have := h.len; simp [this]
  | _, _, _, .im _ h => by have := h.len; simp [this]
theorem ArgsAt.get {K : PySem.W.Frag} {κ : Str -> Addr} {H : Hp} {σ : St} {ps : PSt} : ∀ {as : List Arg} {vs : List V} {ds : List D} {i : Nat} {d : D}, ArgsAt K κ H σ ps as vs ds -> ds[i]? = some d -> ∃ v, vs[i]? = some v /\ ((∃ j, as[i]? = some (.io j) /\ zx6 as i = true /\ σ[j]? = some (some v) /\ ps[j]? = some (some d)) \/ (zx6 as i = false /\ Rep K κ H v d []))
  | _, _, _, _, _, .nil, e => by simp at e
  | _, _, _, 0, _, .io h1 h2 _, e => by simp at e; subst e; exact ⟨_, rfl, .inl ⟨_, rfl, rfl, h1, h2⟩⟩
  | _, _, _, 0, _, .im r _, e => by simp at e; subst e; exact ⟨_, rfl, .inr ⟨rfl, r⟩⟩
  | _, _, _, i + 1, _, .io _ _ h, e => by
    obtain ⟨v, h1, h2⟩ := ArgsAt.get (i := i) h (by simpa using e)
    exact ⟨v, by simpa using h1, by simpa [zx6] using h2⟩
  | _, _, _, i + 1, _, .im _ h, e => by
    obtain ⟨v, h1, h2⟩ := ArgsAt.get (i := i) h (by simpa using e)
    exact ⟨v, by simpa using h1, by simpa [zx6] using h2⟩
theorem xe4 : ∀ {as : List Arg} {i : Nat}, zx6 as i = true -> ∃ j, as[i]? = some (.io j)
  | .io j :: _, 0, _ => ⟨j, rfl⟩
  | .im _ :: _, 0, h => by cases h
  | .io _ :: as, i + 1, h => by obtain ⟨j, e⟩ := xe4 (as := as) (i := i) h; exact ⟨j, by simpa using e⟩
  | .im _ :: as, i + 1, h => by obtain ⟨j, e⟩ := xe4 (as := as) (i := i) h; exact ⟨j, by simpa using e⟩
  | [], _, h => by cases h
theorem yc8 : ∀ {as : List Arg} {i j : Nat}, as[i]? = some (.io j) -> zx6 as i = true
  | .io _ :: _, 0, _, _ => rfl
  | .im _ :: _, 0, _, h => by simp at h
  | .io _ :: as, i + 1, j, h => yc8 (as := as) (i := i) (j := j) (by simpa using h)
  | .im _ :: as, i + 1, j, h => yc8 (as := as) (i := i) (j := j) (by simpa using h)
  | [], _, _, h => by simp at h
theorem zs8 : ∀ {as : List Arg} {i j : Nat}, as[i]? = some (.io j) -> j ∈ slots as
  | .io _ :: _, 0, _, h => by simp at h; subst h; exact List.mem_cons_self
  | .im _ :: _, 0, _, h => by simp at h
  | .io _ :: as, i + 1, j, h => List.mem_cons_of_mem _ (zs8 (as := as) (i := i) (by simpa using h))
  | .im _ :: as, i + 1, j, h => zs8 (as := as) (i := i) (by simpa using h)
  | [], _, _, h => by simp at h
theorem yr5 : ∀ {as : List Arg} {i k j : Nat}, (slots as).Nodup -> as[i]? = some (.io j) -> as[k]? = some (.io j) -> i = k
  | [], _, _, _, _, h, _ => by simp at h
  | a :: as, 0, 0, _, _, _, _ => rfl
  | .io j' :: as, 0, k + 1, j, nd, h1, h2 => by
    simp at h1; subst h1
    exact absurd (zs8 (as := as) (i := k) (by simpa using h2)) (List.nodup_cons.mp nd).1
  | .im _ :: as, 0, k + 1, j, _, h1, _ => by simp at h1
  | .io j' :: as, i + 1, 0, j, nd, h1, h2 => by
    simp at h2; subst h2
    exact absurd (zs8 (as := as) (i := i) (by simpa using h1)) (List.nodup_cons.mp nd).1
  | .im _ :: as, i + 1, 0, j, _, _, h2 => by simp at h2
  | .io j' :: as, i + 1, k + 1, j, nd, h1, h2 => by rw [yr5 (as := as) (i := i) (k := k) (j := j) (List.nodup_cons.mp nd).2 (by simpa using h1) (by simpa using h2)]
  | .im _ :: as, i + 1, k + 1, j, nd, h1, h2 => by rw [yr5 (as := as) (i := i) (k := k) (j := j) nd (by simpa using h1) (by simpa using h2)]
noncomputable def zm9 : List Arg -> Nat -> Option Nat
  | [], _ => none
  | .io i :: as, j => if i = j then some 0 else (zm9 as j).map (· + 1)
  | .im _ :: as, j => (zm9 as j).map (· + 1)
theorem zy7 : ∀ {as : List Arg} {j i : Nat}, zm9 as j = some i -> as[i]? = some (.io j)
  | [], _, _, h => by cases h
  | .io k :: as, j, i, h => by
    rw [zm9] at h
    by_cases z : k = j
    . rw [if_pos z] at h; cases h; rw [z]; rfl
    . rw [if_neg z] at h
      cases q : zm9 as j with
      | none => rw [q] at h; cases h
      | some n => rw [q] at h; cases h; simpa using zy7 q
  | .im _ :: as, j, i, h => by
    rw [zm9] at h
    cases q : zm9 as j with
    | none => rw [q] at h; cases h
    | some n => rw [q] at h; cases h; simpa using zy7 q
theorem zu9 : ∀ {as : List Arg} {j : Nat}, zm9 as j = none -> j ∉ slots as
  | [], _, _ => by simp [slots]
  | .io k :: as, j, h => by
    rw [zm9] at h
    by_cases z : k = j
    . rw [if_pos z] at h; cases h
    . rw [if_neg z] at h
      have h' : zm9 as j = none := by
        cases q : zm9 as j with
        | none => rfl
        | some n => rw [q] at h; cases h
      exact fun hm => (List.mem_cons.mp hm).elim (fun e => z e.symm) (zu9 h')
  | .im _ :: as, j, h => by
    rw [zm9] at h
    have h' : zm9 as j = none := by
      cases q : zm9 as j with
      | none => rfl
      | some n => rw [q] at h; cases h
    exact fun hm => zu9 (as := as) h' hm
theorem yn2 : ∀ {as : List Arg} {ds : List D} {ps : PSt}, (zi7 ps as ds).length = ps.length
  | [], _, _ => by simp [zi7]
  | .io j :: as, [], _ => by simp [zi7]
  | .im _ :: as, [], _ => by simp [zi7]
  | .io j :: as, d :: ds, ps => by rw [zi7, yn2 (as := as)]; simp
  | .im _ :: as, d :: ds, ps => by rw [zi7, yn2 (as := as)]
theorem yb4 : ∀ {as : List Arg} {ds : List D} {ps : PSt} {j : Nat}, j ∉ slots as -> (zi7 ps as ds)[j]? = ps[j]?
  | [], _, _, _, _ => by simp [zi7]
  | .io _ :: _, [], _, _, _ => by simp [zi7]
  | .im _ :: _, [], _, _, _ => by simp [zi7]
  | .io k :: as, d :: ds, ps, j, h => by
    rw [zi7, yb4 (as := as) (fun z => h (List.mem_cons_of_mem _ z)), List.getElem?_set_ne (fun z => h (by rw [<- z]; exact List.mem_cons_self))]
  | .im _ :: as, d :: ds, ps, j, h => by rw [zi7]; exact yb4 (as := as) h
theorem yt8 : ∀ {as : List Arg} {ds : List D} {ps : PSt} {i j : Nat} {d : D}, (slots as).Nodup -> as[i]? = some (.io j) -> ds[i]? = some d -> j < ps.length -> (zi7 ps as ds)[j]? = some (some d)
  | [], _, _, _, _, _, _, h, _, _ => by simp at h
  | _ :: _, [], _, _, _, _, _, _, h, _ => by simp at h
  | .io k :: as, d1 :: ds, ps, 0, j, d, nd, h1, h2, h3 => by
    simp at h1 h2; subst h1; subst h2
    rw [zi7, yb4 (List.nodup_cons.mp nd).1, List.getElem?_set_self h3]
  | .im _ :: as, d1 :: ds, ps, 0, j, d, _, h1, _, _ => by simp at h1
  | .io k :: as, d1 :: ds, ps, i + 1, j, d, nd, h1, h2, h3 => by
    rw [zi7]; exact yt8 (List.nodup_cons.mp nd).2 (by simpa using h1) (by simpa using h2) (by simpa using h3)
  | .im _ :: as, d1 :: ds, ps, i + 1, j, d, nd, h1, h2, h3 => by
    rw [zi7]; exact yt8 (as := as) nd (by simpa using h1) (by simpa using h2) h3
noncomputable def yd6 (as : List Arg) (F : Nat -> List Addr) : Nat -> List Addr := fun i => match as[i]? with
  | some (.io j) => F j
  | _ => []
theorem xs9 {as : List Arg} {F : Nat -> List Addr} {i j : Nat} (e : as[i]? = some (.io j)) : yd6 as F i = F j := by unfold yd6; rw [e]
theorem xn0 {as : List Arg} {F : Nat -> List Addr} {i : Nat} {b : Addr} (h : b ∈ yd6 as F i) : ∃ j, as[i]? = some (.io j) /\ b ∈ F j := by
  unfold yd6 at h
  cases q : as[i]? with
  | none => rw [q] at h; exact absurd h (by simp)
  | some x =>
    cases x with
    | io j => rw [q] at h; exact ⟨j, rfl, h⟩
    | im _ => rw [q] at h; exact absurd h (by simp)
theorem xe5 {as : List Arg} {F : Nat -> List Addr} {i : Nat} (e : zx6 as i = false) : yd6 as F i = [] := by
  unfold yd6
  cases q : as[i]? with
  | none => rfl
  | some x => cases x with
    | io j => rw [yc8 q] at e; cases e
    | im _ => rfl
theorem wk4 {φ : Fx} {H : Hp} {σ : St} {ps : PSt} {F : Nat -> List Addr} {as : List Arg} {vs : List V} {ds : List D} (R : RS φ H σ ps F) (nd : (slots as).Nodup) (hb : ∀ j ∈ slots as, φ.bor j = false) (a : ArgsAt φ.K φ.κ H σ ps as vs ds) :
    RS (fxE φ.K φ.κ as.length (zx6 as)) H (vs.map some) (ds.map some) (yd6 as F) := by
  obtain ⟨lv, ld⟩ := a.len
  have memF : ∀ i b, b ∈ yd6 as F i -> ∃ j, as[i]? = some (Arg.io j) /\ b ∈ F j := fun i b h => xn0 h
  refine ⟨fun i d h => ?_, fun i b h => ?_, fun i k b h1 h2 => ?_, fun i => ?_, fun i b h k z => z.elim, fun k b z => z.elim, by simp [lv, ld]⟩
  . rw [List.getElem?_map] at h
    cases q : ds[i]? with
    | none => rw [q] at h; cases h
    | some d1 =>
      rw [q] at h; cases h
      obtain ⟨v, h1, h2⟩ := a.get q
      have hi := (List.getElem?_eq_some_iff.mp q).1
      refine ⟨v, yd6 as F i, by rw [List.getElem?_map, h1]; rfl, ?_, fun _ => rfl, fun z => ?_⟩
      . rcases h2 with ⟨j, e1, e2, e3, e4⟩ | ⟨e1, r⟩
        . obtain ⟨v', fp, k1, k2, k3, _⟩ := R.rep j d e4
          rw [e3] at k1; cases k1
          rw [xs9 e1]
          have := k3 (hb j (zs8 e1))
          subst this
          exact k2
        . rw [xe5 e1]; exact r
      . rcases h2 with ⟨j, e1, e2, _⟩ | ⟨e1, r⟩
        . simp [fxE, e2] at z
        . rw [xe5 e1]; intro b hb; exact absurd hb (by simp)
  . obtain ⟨j, e, hj⟩ := memF i b h
    have hi : i < ds.length := by rw [ld]; exact (List.getElem?_eq_some_iff.mp e).1
    exact ⟨by simp [fxE, yc8 e], ds[i], by rw [List.getElem?_map, List.getElem?_eq_getElem hi]; rfl⟩
  . obtain ⟨j1, e1, m1⟩ := memF i b h1
    obtain ⟨j2, e2, m2⟩ := memF k b h2
    have := R.dis j1 j2 b m1 m2
    subst this
    exact yr5 nd e1 e2
  . cases z : zx6 as i with
    | true => obtain ⟨j, e⟩ := xe4 z; rw [xs9 e]; exact R.nd j
    | false => rw [xe5 z]; exact List.nodup_nil
noncomputable def yj0 (as : List Arg) (F Fc : Nat -> List Addr) : Nat -> List Addr := fun j => match zm9 as j with
  | some i => Fc i
  | none => F j
theorem wd9 {as : List Arg} {F Fc : Nat -> List Addr} {j : Nat} {b : Addr} (h : b ∈ yj0 as F Fc j) : (∃ i, zm9 as j = some i /\ b ∈ Fc i) \/ (zm9 as j = none /\ b ∈ F j) := by
  unfold yj0 at h
  cases q : zm9 as j with
  | none => rw [q] at h; exact .inr ⟨rfl, h⟩
  | some i => rw [q] at h; exact .inl ⟨i, rfl, h⟩
theorem yz7 {as : List Arg} {F Fc : Nat -> List Addr} {j i : Nat} (e : zm9 as j = some i) : yj0 as F Fc j = Fc i := by unfold yj0; rw [e]
theorem yz8 {as : List Arg} {F Fc : Nat -> List Addr} {j : Nat} (e : zm9 as j = none) : yj0 as F Fc j = F j := by unfold yj0; rw [e]
theorem wq9 {φ : Fx} {H H1 H' : Hp} {σ : St} {ps : PSt} {F Fc' : Nat -> List Addr} {as : List Arg} {vs : List V} {ds ds' : List D} {fv : List Addr} (R : RS φ H σ ps F) (s1 : SameK H H1) (nd : (slots as).Nodup) (hb : ∀ j ∈ slots as, φ.bor j = false) (a : ArgsAt φ.K φ.κ H1 σ ps as vs ds) (hl : ds'.length = as.length)
    (s : Stp (fxE φ.K φ.κ as.length (zx6 as)) (vs.map some) H1 (yd6 as F) (vs.map some) H' (ds'.map some) Fc') (o : OwnV (yd6 as F) H1 Fc' fv) :
    ∃ F', Stp φ σ H F σ H' (zi7 ps as ds') F' /\ OwnV F H F' fv := by
  have memF : ∀ i b, b ∈ yd6 as F i -> ∃ j, as[i]? = some (Arg.io j) /\ b ∈ F j := fun i b h => xn0 h
  have nwA : ∀ b, ((∃ i, b ∈ yd6 as F i) \/ H1 b = none) -> (∃ j ∈ slots as, b ∈ F j) \/ H b = none := fun b h => by
    rcases h with ⟨i, h⟩ | h
    . obtain ⟨j, e, m⟩ := memF i b h
      exact .inl ⟨j, zs8 e, m⟩
    . exact .inr (s1.grow b h)
  have isDisj : ∀ b, ((∃ i, b ∈ Fc' i) \/ b ∈ fv) -> ∀ j, j ∉ slots as -> b ∉ F j := fun b h j hj hm => by
    have h' : (∃ j ∈ slots as, b ∈ F j) \/ H b = none := by
      rcases h with ⟨i, h⟩ | h
      . exact nwA b (s.nw i b h)
      . exact nwA b (o.nw b h)
    rcases h' with ⟨k, hk, hm2⟩ | z
    . exact hj (R.dis j k b hm hm2 ▸ hk)
    . obtain ⟨u, q, _⟩ := R.own hm; rw [z] at q; cases q
  have keepN : ∀ b u, H b = some u -> kd u = true -> (∀ j ∈ slots as, b ∉ F j) -> H' b = some u := fun b u h k n => s.fr.keep b u (s1.keep b u h k) k fun i hi => by
    obtain ⟨j, e, m⟩ := memF i b hi
    exact n j (zs8 e) m
  have tfk : ∀ b u, H b = some u -> tf u = true -> H' b = some u := fun b u h t => keepN b u h (zw6 t) fun j _ hm => by
    obtain ⟨u', h', _, t'⟩ := R.own hm
    rw [h] at h'; cases h'; rw [t] at t'; cases t'
  have posmem : ∀ j b, b ∈ yj0 as F Fc' j -> (∃ i, zm9 as j = some i /\ b ∈ Fc' i) \/ (zm9 as j = none /\ b ∈ F j) := fun j b h => wd9 h
  refine ⟨yj0 as F Fc', ⟨⟨fun b u h k n => keepN b u h k fun j _ => n j, fun b h => s1.grow b (s.fr.grow b h)⟩, fun j b h => ?_, ⟨fun j d h => ?_, fun j b h => ?_, fun j k b h1 h2 => ?_, fun j => ?_, fun j b h => ?_, fun kk b hB z => R.bt kk b hB (s1.grow b (s.fr.grow b z)), by rw [yn2]; exact R.len⟩, fun _ _ => rfl⟩, ⟨fun b hb' => ?_, o.nd, fun j b h hv => ?_⟩⟩
  . rcases posmem j b h with ⟨i, e, m⟩ | ⟨e, m⟩
    . exact (nwA b (s.nw i b m)).elim (fun ⟨k, _, hk⟩ => .inl ⟨k, hk⟩) .inr
    . exact .inl ⟨j, m⟩
  . cases q : zm9 as j with
    | some i =>
      have e := zy7 q
      have hi : i < ds'.length := by rw [hl]; exact (List.getElem?_eq_some_iff.mp e).1
      have ei : ds'[i]? = some ds'[i] := List.getElem?_eq_getElem hi
      have hj : j < ps.length := by
        have := (List.getElem?_eq_some_iff.mp h).1
        rwa [yn2] at this
      rw [yt8 nd e ei hj] at h
      cases h
      obtain ⟨v, fp, k1, k2, k3, _⟩ := s.rs.rep i ds'[i] (by rw [List.getElem?_map, ei]; rfl)
      have hbi : (fxE φ.K φ.κ as.length (zx6 as)).bor i = false := by simp [fxE, yc8 e]
      have k3 := k3 hbi
      subst k3
      have hvi : i < vs.length := by rw [a.len.1]; exact (List.getElem?_eq_some_iff.mp e).1
      have hdi : i < ds.length := by rw [a.len.2]; exact (List.getElem?_eq_some_iff.mp e).1
      obtain ⟨v', g1, g2⟩ := a.get (List.getElem?_eq_getElem hdi)
      rw [List.getElem?_map, g1] at k1
      cases k1
      rcases g2 with ⟨j', e1, _, e3, _⟩ | ⟨e1, _⟩
      . rw [e] at e1; cases e1
        exact ⟨v, Fc' i, e3, k2, (fun _ => (yz7 q).symm), (fun z => by rw [hb j (zs8 e)] at z; cases z)⟩
      . rw [yc8 e] at e1; cases e1
    | none =>
      have hn := zu9 q
      rw [yb4 hn] at h
      obtain ⟨v, fp, k1, k2, k3, k4⟩ := R.rep j d h
      refine ⟨v, fp, k1, k2.move tfk fun b hb' => ?_, (fun z => by rw [yz8 q]; exact k3 z), k4⟩
      obtain ⟨u, q1, q2, _⟩ := k2.own b hb'
      rw [q1]
      refine keepN b u q1 q2 fun k hk hm => ?_
      cases z : φ.bor j with
      | true => exact R.nb k b hm j (k4 z b hb')
      | false => rw [k3 z] at hb'; exact hn (R.dis j k b hb' hm ▸ hk)
  . rcases posmem j b h with ⟨i, e, m⟩ | ⟨e, m⟩
    . have e' := zy7 e
      refine ⟨hb j (zs8 e'), ?_⟩
      have hi : i < ds'.length := by rw [hl]; exact (List.getElem?_eq_some_iff.mp e').1
      have hdi : i < ds.length := by rw [a.len.2]; exact (List.getElem?_eq_some_iff.mp e').1
      obtain ⟨v', g1, g2⟩ := a.get (List.getElem?_eq_getElem hdi)
      rcases g2 with ⟨j', e1, _, _, e4⟩ | ⟨e1, _⟩
      . rw [e'] at e1; cases e1
        exact ⟨_, yt8 nd e' (List.getElem?_eq_getElem hi) (List.getElem?_eq_some_iff.mp e4).1⟩
      . rw [yc8 e'] at e1; cases e1
    . obtain ⟨b1, d, b2⟩ := R.emp j b m
      exact ⟨b1, d, by rw [yb4 (zu9 e)]; exact b2⟩
  . rcases posmem j b h1 with ⟨i, e, m⟩ | ⟨e, m⟩
    . rcases posmem k b h2 with ⟨i', e', m'⟩ | ⟨e', m'⟩
      . have := s.rs.dis i i' b m m'
        subst this
        have q1 := zy7 e
        have q2 := zy7 e'
        rw [q1] at q2
        cases q2; rfl
      . exact absurd m' (isDisj b (.inl ⟨i, m⟩) k (zu9 e'))
    . rcases posmem k b h2 with ⟨i', e', m'⟩ | ⟨e', m'⟩
      . exact absurd m (isDisj b (.inl ⟨i', m'⟩) j (zu9 e))
      . exact R.dis j k b m m'
  . cases q : zm9 as j with
    | some i => rw [yz7 q]; exact s.rs.nd i
    | none => rw [yz8 q]; exact R.nd j
  . rcases posmem j b h with ⟨i, e, m⟩ | ⟨e, m⟩
    . exact R.notB ((nwA b (s.nw i b m)).elim (fun ⟨k, _, hk⟩ => .inl ⟨k, hk⟩) .inr)
    . exact R.nb j b m
  . exact (nwA b (o.nw b hb')).elim (fun ⟨k, _, hk⟩ => .inl ⟨k, hk⟩) .inr
  . rcases posmem j b h with ⟨i, e, m⟩ | ⟨e, m⟩
    . exact o.dis i b m hv
    . exact isDisj b (.inr hv) j (zu9 e) m
noncomputable def tIO (K : PySem.W.Frag) (κ : Str -> Addr) (as : List Arg) : TA := fun σ H Q => ∃ ps ds, WS K κ H σ ps /\ zc4 as ps = some ds /\ ∀ vs H', SameK H H' -> ArgsAt K κ H' σ ps as vs ds -> Q vs H'
noncomputable def fIO (as : List Arg) (g : List D -> Option (D × List D)) : PSt -> Option (D × PSt) := fun ps => (zc4 as ps).bind fun ds => (g ds).bind fun r => if r.2.length = as.length then some (r.1, zi7 ps as r.2) else none
section
variable {X : Cx} {φ : F0} {κ : Str -> Addr} {e : Expr} {es : List Expr} {as : List Arg} {f : PSt -> Option D} {pos p : Pos}
theorem zi4 : PA X [] (tIO X.K κ []) := yb1.imp fun σ H Q ⟨ps, ds, w, e, q⟩ => by cases e; exact q [] H (.refl H) .nil
theorem zp1 (j : Nat) {x : Str} (hr : PA X es (tIO X.K κ as)) (hN : X.N[j]? = some x := by rfl) (hv : Vis X.env.scope x := by first | exact Or.inl rfl | exact Or.inr (Or.inl rfl) | exact Or.inr (Or.inr rfl)) (hd : (x == ("__debug__" : Str)) = false := by decide)
    (hcd : (x == ("__classdict__" : Str)) = false := by decide) (hs : starEach (.Name x pos :: es) X.env = (false, eval (.Name x pos) X.env) :: starEach es X.env := by rfl) : PA X (.Name x pos :: es) (tIO X.K κ (.io j :: as)) :=
  (zo1 (yk7 hN hv hd hcd) hr hs).imp fun σ H Q hh_ => by
    obtain ⟨ps, ds, w, e, q⟩ := hh_
    obtain ⟨d, e1, e2⟩ := bind_some e
    obtain ⟨ds', e3, e4⟩ := bind_some e2
    cases e4
    have e0 := join_some e1
    obtain ⟨v, fp, h1, h2⟩ := w j d e0
    exact ⟨v, h1, ps, ds', w, e3, fun vs H1 s1 a1 => q (v :: vs) H1 s1 (.io h1 e0 a1)⟩
theorem zd9 (ha : QV X κ e f) (hr : PA X es (tIO X.K κ as)) (hs : starEach (e :: es) X.env = (false, eval e X.env) :: starEach es X.env := by rfl) : PA X (e :: es) (tIO X.K κ (.im f :: as)) :=
  (zo1 ha.p hr hs).imp fun σ H Q hh_ => by
    obtain ⟨ps, ds, w, e, q⟩ := hh_
    obtain ⟨d, e1, e2⟩ := bind_some e
    obtain ⟨ds', e3, e4⟩ := bind_some e2
    cases e4
    refine ⟨ps, d, w, e1, fun v H1 fv s1 n1 nd1 r1 => ⟨ps, ds', w.same s1, e3, fun vs H2 s2 a2 => q (v :: vs) H2 (s1.trans s2) (.im ?_ a2)⟩⟩
    unfold zb7 at e1
    obtain ⟨d1, k1, k2⟩ := bind_some e1
    obtain ⟨k3, k4⟩ := zf8 k2
    cases k4
    have := r1.imm k3
    subst this
    exact r1.same s2
theorem zs9 {x : Str} {st : Stmt} {ps : List Str} {fa : Addr} {fd : FuncData} {k np : Nat} {m : Nat -> Bool} {g : List D -> Option (D × List D)} (Dd : Dn X.K X.mg x st ps fa fd) (G : FnOk X.prog X.w X.K X.mg X.base CX0 k fa fd ps (SpE np X.K κ m g)) (hr : Room k X.A) (hg : Gl X x) (ha : PA X (e :: es) (tIO X.K κ as))
    (hnp : np = as.length) (hm : m = zx6 as) (nd : (slots as).Nodup) (hb : ∀ j ∈ slots as, φ.bor j = false)
    (hdb : (x == ("__debug__" : Str)) = false := by decide) (he : starEach (e :: es) X.env = (false, eval e X.env) :: starEach es X.env := by rfl) (hpl : (backTo pos (starEach es X.env)).any (·.1) = false := by rfl) :
    QE X κ φ (.Call (.Name x p) (e :: es) [] pos) (fIO as g) := (xj6 Dd G hr hg ha hdb he hpl).imp fun σ H Q hh_ => by
  obtain ⟨ps, F, d, ps', R, e, q⟩ := hh_
  obtain ⟨ds, e1, e2⟩ := bind_some e
  obtain ⟨⟨r, ds'⟩, e3, e4⟩ := bind_some e2
  obtain ⟨hl, e5⟩ := zf8 e4
  cases e5
  subst hnp hm
  refine ⟨ps, ds, R.ws, e1, fun vs H1 s1 a1 => ?_⟩
  show SpE _ X.K κ _ g (vs ++ []) H1 Q E0
  rw [List.append_nil]
  refine ⟨a1.len.1, ds, r, ds', _, a1.len.2, wk4 (R.same s1) nd hb a1, e3, fun v H' F' fv s o rv => ?_⟩
  obtain ⟨F2, s2, o2⟩ := wq9 R s1 nd hb a1 hl s o
  exact q v H' F2 fv s2 o2 rv
end
end L2
namespace L2
open PySem PySem.Spec PyProof.Rows
inductive AreD : List Expr -> List D -> Prop
  | nil : AreD [] []
  | int {i : Int} {j : Nat} {pos : Pos} {es : List Expr} {ds : List D} : AreD es ds -> AreD (.Constant (.int i) j pos :: es) (.int i :: ds)
  | str {x : Str} {j : Nat} {pos : Pos} {es : List Expr} {ds : List D} : AreD es ds -> AreD (.Constant (.str x) j pos :: es) (.str x :: ds)
noncomputable def fKs (ds : List D) : PSt -> Option (List D) := fun _ => some ds
theorem zv0 {X : Cx} {κ : Str -> Addr} {es : List Expr} {ds : List D} (h : AreD es ds) : QPA X κ es (fKs ds) := by
  have key : ∃ vs, AreC es vs /\ ∀ K κ H, Reps K κ H vs ds [] := by
    induction h with
    | nil => exact ⟨[], .nil, fun _ _ _ => .nil⟩
    | int _ ih => obtain ⟨vs, h1, h2⟩ := ih; exact ⟨_, .int h1, fun K κ H => .cons (f := []) (g := []) (.int _) (h2 K κ H)⟩
    | str _ ih => obtain ⟨vs, h1, h2⟩ := ih; exact ⟨_, .str h1, fun K κ H => .cons (f := []) (g := []) (.str _) (h2 K κ H)⟩
  obtain ⟨vs, h1, h2⟩ := key
  exact (wd2 h1).imp fun σ H Q ⟨ps, ds', w, e, q⟩ => by cases e; exact q vs H [] (.refl H) (fun _ h => absurd h (by simp)) List.nodup_nil (h2 _ _ _)
noncomputable def zc8 (l : List Bool) : Nat -> Bool := fun i => (l[i]?).getD false
noncomputable def wi0 (as : List Arg) : List Bool := as.map fun a => match a with
  | .io _ => true
  | .im _ => false
theorem zj9 : ∀ {as : List Arg} {l : List Bool}, wi0 as = l -> zc8 l = zx6 as := by
  intro as l h
  subst h
  funext i
  induction as generalizing i with
  | nil => cases i <;> rfl
  | cons a as ih =>
    cases i with
    | zero => cases a <;> rfl
    | succ i =>
      have e : zx6 (a :: as) (i + 1) = zx6 as i := by cases a <;> rfl
      rw [e, <- ih i]
      simp [zc8, wi0]
theorem zs0 {l : List Bool} {i : Nat} (h : zc8 l i = true) : i < l.length := by
  unfold zc8 at h
  cases q : l[i]? with
  | none => rw [q] at h; cases h
  | some b => exact (List.getElem?_eq_some_iff.mp q).1
section
variable {P : Program} {w : World} {K : PySem.W.Frag} {mg : Str -> Option Value} {base : Heap} {κ : Str -> Addr}
theorem FnOk.noneE {f : Addr} {fd : FuncData} {ps : List Str} {k : Nat} {m : Nat -> Bool} : FnOk P w K mg base CX0 k f fd ps (SpE ps.length K κ m fun _ => none) :=
  ⟨fun vs H Q E h => h.1, fun A outer s H args us vs Q E _ _ _ _ ⟨_, ds, r, ds', F, _, _, e, _⟩ => by cases e⟩
end
end L2
namespace L2
open PySem PySem.Spec PyProof.Rows
theorem yz9 : ∀ ys : List (Str × Tok), zd5 (ys.map fun p => V.str p.1) (ys.map fun p => Value.str p.1 p.2)
  | [] => .nil
  | y :: ys => .cons ⟨y.2, rfl⟩ (yz9 ys)
theorem xi0 {K : PySem.W.Frag} {κ : Str -> Addr} {H : Hp} : ∀ ys : List (Str × Tok), Reps K κ H (ys.map fun p => V.str p.1) (ys.map fun p => D.str p.1) []
  | [] => .nil
  | y :: ys => .cons (f := []) (g := []) (.str _) (xi0 ys)
theorem wk5 {K : PySem.W.Frag} {κ : Str -> Addr} {a : Addr} {ys : List (Str × Tok)} {od : Option Addr} {n : Nat} {sl : Array (Option Value)} (h : K.lookup a = some ⟨.type "tuple", od, .seq (ys.map fun p => Value.str p.1 p.2).toArray n, sl⟩) (hl : ys.length <= 1000) (H : Hp) :
    Rep K κ H (.ref a) (.tup (ys.map fun p => D.str p.1)) [] :=
  .tup (.inr ⟨_, _, n, h, rfl, rfl, by rw [List.size_toArray, List.length_map]; exact xj7 hl, yz9 ys⟩) (xi0 ys)
end L2
namespace L2
open PySem PySem.Spec PyProof.Rows
section
variable {X : Cx} {pins : List (Addr × Obj)} {σ : St} {H : Hp} {s : Shared} {a C dx : Addr} {fs : List (Str × V)} {f : Str} {v : V} {A : Around} {E : Value -> Shared -> Prop}
theorem ww5 {P : Program} {w : World} {h : Heap} (hok : HOk P w H h) (e : Rd H a (.ins C dx fs)) : ∃ mA, ObjM h a dx C mA /\ (∀ f, zv8 (fs.lookup f) (mA f)) := by
  obtain ⟨d, z, ne, ob, mA, n, r, q⟩ := (show zm8 P w H h a (.ins C dx fs) from e.ok hok)
  exact ⟨mA, ⟨ob, n, ne⟩, r⟩
theorem xx5 {b : Bool} {Q : Value -> Shared -> Prop} (I : Inv X pins σ H s) (e : Rd H a (.ins C dx fs)) (c : Cls X.K C) (n : zg9 X.K C f) (l : fs.lookup f = some v)
    (h : ∀ u s', Inv X pins σ H s' -> zg4 v u -> Q u s') : wpAny (model X.prog X.w) A (getAttr (.ref a) f b) Q E s := by
  obtain ⟨mA, O, r⟩ := ww5 I.hok e
  obtain ⟨u, hu, ru⟩ := zv8.some_of (v := v) (o := mA f) (by rw [<- l]; exact r f)
  exact xs2 I.kIn O (c.get f) c.hd n hu (xg4 ru) (h u _ (I.tok _) ru)
end
noncomputable def kc1 (K : PySem.W.Frag) (ta : TE) (f : Str) : TE := fun σ H Q => ta σ H fun x H1 => ∃ a C dx fs v, x = .ref a /\ Rd H1 a (.ins C dx fs) /\ Cls K C /\ zg9 K C f /\ fs.lookup f = some v /\ Q v H1
theorem wr0 {X : Cx} {e : Expr} {f : Str} {pos : Pos} {ta : TE} (he : PE X e ta) (hb : attributeBase e f X.env (eval e X.env) = eval e X.env) : PE X (.Attribute e f pos) (kc1 X.K ta f) := by
  intro pins s σ H Q I h
  refine xs3 hb (thn (he pins s σ H _ I h) fun u s1 ⟨x, H1, I1, rx, a, C, dx, fs, v, ex, ea, c, n, l, q⟩ => ?_)
  subst ex
  obtain rfl : u = Value.ref a := rx
  exact xx5 I1 ea c n l fun w' s2 I2 rw' => ⟨v, H1, I2, rw', q⟩
noncomputable def zt4 (C f : Str) : D -> Option D
  | .obj _ C' ns vs => if C' = C then (zf0 ns f).bind fun n => vs[n]? else none
  | _ => none
noncomputable def zi8 (C f : Str) (fo : PSt -> Option D) : PSt -> Option D := fun ps => (fo ps).bind (zt4 C f)
theorem Rep.obj_inv {K : PySem.W.Frag} {κ : Str -> Addr} {H : Hp} {v : V} {o : Bool} {C : Str} {ns : List Str} {ds : List D} {fp : List Addr} (r : Rep K κ H v (.obj o C ns ds) fp) : ∃ a dx fs g, v = .ref a /\ Rd H a (.ins (κ C) dx fs) /\ fs.map (·.1) = ns /\ Reps K κ H (fs.map (·.2)) ds g /\ g.Sublist fp := by
  cases r with
  | obj h e hs => exact ⟨_, _, _, _, rfl, .inl h, e, hs, List.sublist_cons_self _ _⟩
  | objF h e hs => exact ⟨_, _, _, _, rfl, .inr ⟨_, h⟩, e, hs, .refl _⟩
section
variable {X : Cx} {κ : Str -> Addr} {o e : Expr} {C fn : Str} {fo : PSt -> Option D} {pos : Pos}
theorem zm7 (hc : Cls X.K (κ C)) (hna : zg9 X.K (κ C) fn) (ho : QV X κ o fo) (hb : attributeBase o fn X.env (eval o X.env) = eval o X.env := by rfl) : QV X κ (.Attribute o fn pos) (zi8 C fn fo) :=
  (wr0 ho hb).imp fun σ H Q hh_ => by
    obtain ⟨ps, d, w, e, q⟩ := hh_
    obtain ⟨x, e1, e2⟩ := bind_some e
    refine ⟨ps, x, w, e1, fun v H1 fp s1 r1 => ?_⟩
    cases x with
    | obj ow C' ns ds =>
      have e2' : (if C' = C then (zf0 ns fn).bind fun n => ds[n]? else none) = some d := e2
      by_cases hC : C' = C
      case neg => rw [if_neg hC] at e2'; cases e2'
      rw [if_pos hC] at e2'
      subst hC
      obtain ⟨n, e4, e5⟩ := bind_some e2'
      obtain ⟨a, dx, fs, g, rfl, h, hk, hs, sub⟩ := r1.obj_inv
      subst hk
      obtain ⟨u, f1, k3, k4, _⟩ := hs.get e5
      exact ⟨a, κ C', dx, fs, u, rfl, h, hc, hna, yh2 e4 k3, q u H1 f1 s1 k4⟩
    | _ => cases e2
end
theorem xt0 : ∀ {fs : List (Str × V)} {f : Str} {n : Nat} (v : V), zf0 (fs.map (·.1)) f = some n -> (zp2 f v fs).map (·.1) = fs.map (·.1) /\ (zp2 f v fs).map (·.2) = (fs.map (·.2)).set n v
  | [], _, _, _, h => by cases h
  | (g, x) :: r, f, n, v, h => by
    rw [List.map_cons, zf0] at h
    by_cases z : g = f
    . have z' : (g, x).1 = f := z
      rw [if_pos z'] at h; cases h
      rw [zp2, if_pos z]; exact ⟨rfl, rfl⟩
    . have z' : ¬ (g, x).1 = f := z
      rw [if_neg z'] at h
      obtain ⟨m, h1, h2⟩ := Option.map_eq_some_iff.mp h
      subst h2
      obtain ⟨k1, k2⟩ := xt0 v h1
      rw [zp2, if_neg z]
      exact ⟨by rw [List.map_cons, List.map_cons, k1], by rw [List.map_cons, List.map_cons, List.set_cons_succ, k2]⟩
theorem xn1 : ∀ {fs : List (Str × V)} {f : Str} (v : V), zf0 (fs.map (·.1)) f = none -> (zp2 f v fs).map (·.1) = fs.map (·.1) ++ [f] /\ (zp2 f v fs).map (·.2) = fs.map (·.2) ++ [v]
  | [], _, _, _ => ⟨rfl, rfl⟩
  | (g, x) :: r, f, v, h => by
    rw [List.map_cons, zf0] at h
    by_cases z : g = f
    . have z' : (g, x).1 = f := z
      rw [if_pos z'] at h; cases h
    . have z' : ¬ (g, x).1 = f := z
      rw [if_neg z'] at h
      obtain ⟨k1, k2⟩ := xn1 v (Option.map_eq_none_iff.mp h)
      rw [zp2, if_neg z]
      exact ⟨by rw [List.map_cons, List.map_cons, k1]; rfl, by rw [List.map_cons, List.map_cons, k2]; rfl⟩
noncomputable def zj4 (C f : Str) (y : D) : D -> Option (Unit × D)
  | .obj true C' ns vs => if (C' = C /\ ns.length < 900) then (match zf0 ns f with
      | some n => some ((), .obj true C' ns (vs.set n y))
      | none => some ((), .obj true C' (ns ++ [f]) (vs ++ [y]))) else none
  | _ => none
theorem xn2 {C f : Str} {y d d' : D} {r : Unit} (h : zj4 C f y d = some (r, d')) : ∃ ns vs, d = .obj true C ns vs /\ ns.length < 900 /\ ((∃ n, zf0 ns f = some n /\ d' = .obj true C ns (vs.set n y)) \/ (zf0 ns f = none /\ d' = .obj true C (ns ++ [f]) (vs ++ [y]))) := by
  unfold zj4 at h
  split at h
  . rename_i C' ns vs
    by_cases hh : C' = C /\ ns.length < 900
    . rw [if_pos hh] at h
      obtain ⟨hC, hl⟩ := hh
      subst hC
      cases q : zf0 ns f with
      | some n => rw [q] at h; cases h; exact ⟨ns, vs, rfl, hl, .inl ⟨n, q, rfl⟩⟩
      | none => rw [q] at h; cases h; exact ⟨ns, vs, rfl, hl, .inr ⟨q, rfl⟩⟩
    . rw [if_neg hh] at h; cases h
  . cases h
noncomputable def zh4 (j : Nat) (pf : PSt -> Option (List Ps1)) (C f : Str) (fe : PSt -> Option D) : PSt -> Option (Fl × PSt) := fun ps => (fe ps).bind fun y => ((ps[j]?).join).bind fun d0 => (pf ps).bind fun p => (ze0 (zj4 C f y) d0 p).bind fun r => some (.nx, ps.set j (some r.2))
theorem xn3 : ∀ {ns : List Str} {f : Str} {n : Nat}, zf0 ns f = some n -> n < ns.length
  | [], _, _, h => by cases h
  | m :: ns, f, n, h => by
    rw [zf0] at h
    by_cases z : m = f
    . rw [if_pos z] at h; cases h; simp
    . rw [if_neg z] at h
      obtain ⟨k, h1, h2⟩ := Option.map_eq_some_iff.mp h
      subst h2
      have := xn3 h1
      simp; omega
section
variable {X : Cx} {κ : Str -> Addr} {φ : F0} {o e : Expr} {C fn : Str} {j : Nat} {pf : PSt -> Option (List Ps1)} {fe : PSt -> Option D} {pos pos' : Pos}
theorem zr3 (hc : Cls X.K (κ C)) (hna : zg9 X.K (κ C) fn) (hb : φ.bor j = false) (he : PE X e (tP X.K κ fe)) (ho : PE X o (zn9 X.K κ j pf)) (hs : swapsWith e (some (.Attribute o fn pos')) pos.line X.env = pure false := by rfl) :
    QS X κ φ (.Assign [.Attribute o fn pos'] e pos) (zh4 j pf C fn fe) :=
  (wu9 ho he hs).imp fun E σ H hh_ => by
    obtain ⟨ps, F, fl, ps', R, e, q⟩ := hh_
    obtain ⟨y, e1, e2⟩ := bind_some e
    obtain ⟨d0, e3, e4⟩ := bind_some e2
    have e0 := join_some e3
    obtain ⟨p, e5, e6⟩ := bind_some e4
    obtain ⟨⟨r, d0'⟩, em, e9⟩ := bind_some e6
    cases e9
    obtain ⟨dd, dn, gp, hh⟩ := ya0 em
    refine ⟨ps, y, R.ws, e1, fun v H1 fy s1 n1 nd1 ry => ⟨ps, p, d0, dd, R.ws.same s1, e0, e5, gp, fun lv H2 v0 s2 ev a2 => ?_⟩⟩
    have s12 := s1.trans s2
    obtain ⟨d1, d1', fd, m1, m2, m3, m4, m5⟩ := yl4 R s12 hb e0 ev em a2
    obtain ⟨ns, vs, rfl, hlen, hd⟩ := xn2 m2
    obtain ⟨l, dx, fs, g1, rfl, hl, hn, hr, rfl⟩ := m1.objT_inv
    subst hn
    have ry2 := ry.same s2
    obtain ⟨nl, nd3⟩ := List.nodup_cons.mp m3
    have own0 : ∀ a ∈ l :: g1, H a ≠ none := fun a ha z => by obtain ⟨o, h, _⟩ := R.own (m4 a ha); rw [z] at h; cases h
    have nl2 : l ∉ fy := fun z => own0 l List.mem_cons_self (n1 l z)
    have hl9 : fs.length < 900 := by rw [List.length_map] at hlen; exact hlen
    refine ⟨l, κ C, dx, fs, rfl, hl, hc, hna, by omega, ?_⟩
    have go : ∀ (g2 : List Addr), (∀ a ∈ g2, a ∈ fy \/ a ∈ g1) -> g2.Nodup -> Rep X.K κ (upd H2 l (.ins (κ C) dx (zp2 fn v fs))) (.ref l) d1' (l :: g2) -> ∃ F', Stp (φ.fx X.K κ) σ H F σ (upd H2 l (.ins (κ C) dx (zp2 fn v fs))) (ps.set j (some d0')) F' := fun g2 mem2 nd2 rp => by
      have n2 : l ∉ g2 := fun z => (mem2 l z).elim nl2 nl
      obtain ⟨F', st, ow⟩ := m5 (upd H2 l (.ins (κ C) dx (zp2 fn v fs))) (l :: g2) [] (fun a o h _ hn => yn0 h hn) (fun a h => yn1 h) rp
        (by rw [List.append_nil, List.nodup_cons]; exact ⟨n2, nd2⟩)
        (fun a ha => by
          rw [List.append_nil] at ha
          rcases List.mem_cons.mp ha with z | z
          . exact .inl (by rw [z]; exact List.mem_cons_self)
          . exact (mem2 a z).elim (fun z => .inr (n1 a z)) fun z => .inl (List.mem_cons_of_mem _ z))
      exact ⟨F', st⟩
    rcases hd with ⟨n, hx, rfl⟩ | ⟨hx, rfl⟩
    . obtain ⟨k1, k2⟩ := xt0 v hx
      have hn' := xn3 hx
      obtain ⟨f1, zc2, g2, p1, p2, p3⟩ := hr.setV (n := n) (by rw [<- hr.length, List.length_map]; rw [List.length_map] at hn'; exact hn') ry2
      have mem2 : ∀ a ∈ g2, a ∈ fy \/ a ∈ g1 := fun a ha => (List.mem_append.mp (p3.mem_iff.mp ha)).elim .inl fun z => .inr (p1.mem_iff.mpr (List.mem_append_right _ z))
      have n2 : l ∉ g2 := fun z => (mem2 l z).elim nl2 nl
      have nd2 : g2.Nodup := p3.nodup_iff.mpr (List.nodup_append.mpr ⟨nd1, (List.nodup_append.mp (p1.nodup_iff.mp nd3)).2.1, fun a ha b hb e => by
        subst e
        exact own0 a (List.mem_cons_of_mem _ (p1.mem_iff.mpr (List.mem_append_right _ hb))) (n1 a ha)⟩)
      obtain ⟨F', st⟩ := go g2 mem2 nd2 (.obj zi9 k1 (by rw [k2]; exact p2.updL hl rfl n2))
      exact q _ _ F' st
    . obtain ⟨k1, k2⟩ := xn1 v hx
      have mem2 : ∀ a ∈ g1 ++ fy, a ∈ fy \/ a ∈ g1 := fun a ha => (List.mem_append.mp ha).elim .inr .inl
      have n2 : l ∉ g1 ++ fy := fun z => (mem2 l z).elim nl2 nl
      have nd2 : (g1 ++ fy).Nodup := List.nodup_append.mpr ⟨nd3, nd1, fun a ha b hb e => by
        subst e
        exact own0 a (List.mem_cons_of_mem _ ha) (n1 a hb)⟩
      obtain ⟨F', st⟩ := go (g1 ++ fy) mem2 nd2 (.obj zi9 k1 (by rw [k2]; exact (Reps.append hr (Reps.one ry2)).updL hl rfl n2))
      exact q _ _ F' st
end
end L2
namespace L2
open PySem PySem.Spec PyProof.Rows
structure Mn (K : PySem.W.Frag) (κ : Str -> Addr) (C m qual : Str) (st : Stmt) (ps : List Str) (f : Addr) (fd : FuncData) : Prop where
  F : Fun K m qual st f fd
  b : zz0 K fd ps []
  c : Cls K (κ C)
  h : Meth K (κ C) m f
noncomputable def zm3 (C m : Str) (fo : PSt -> Option D) : PSt -> Option D := fun ps => (fo ps).bind fun d => match d with
  | .obj true C' ns vs => if (C' = C /\ zf0 ns m = none) then some (.obj true C' ns vs) else none
  | _ => none
theorem xx6 {C m : Str} {fo : PSt -> Option D} {ps : PSt} {d : D} (h : zm3 C m fo ps = some d) : ∃ ns vs, d = .obj true C ns vs /\ fo ps = some d /\ zf0 ns m = none := by
  obtain ⟨x, e1, e2⟩ := bind_some h
  cases x with
  | obj o C' ns vs => cases o with
    | true =>
      have e2' : (if (C' = C /\ zf0 ns m = none) then some (D.obj true C' ns vs) else none) = some d := e2
      obtain ⟨⟨hC, hn⟩, e3⟩ := zf8 e2'
      subst hC; cases e3
      exact ⟨ns, vs, rfl, e1, hn⟩
    | false => cases e2
  | _ => cases e2
theorem yk0 : ∀ {fs : List (Str × V)} {m : Str}, zf0 (fs.map (·.1)) m = none -> fs.lookup m = none
  | [], _, _ => rfl
  | (g, x) :: r, m, h => by
    rw [List.map_cons, zf0] at h
    by_cases z : g = m
    . have z' : (g, x).1 = m := z
      rw [if_pos z'] at h; cases h
    . have z' : ¬ (g, x).1 = m := z
      rw [if_neg z'] at h
      have ih := yk0 (Option.map_eq_none_iff.mp h)
      rw [List.lookup_cons]
      have : (m == g) = false := by
        rw [beq_eq_false_iff_ne]; exact fun e => z e.symm
      rw [this]; exact ih
section
variable {X : Cx} {κ : Str -> Addr} {o e : Expr} {es : List Expr} {C m qual : Str} {st : Stmt} {ps : List Str} {f : Addr} {fd : FuncData} {k np : Nat} {h : List D -> Option D} {fo : PSt -> Option D} {g : PSt -> Option (List D)} {apos pos p : Pos} {pl : Sem Bool}
theorem yx0 (M : Mn X.K κ C m qual st ps f fd) (G : FnOk X.prog X.w X.K X.mg X.base CX0 k f fd ps (SpP 1 X.K κ h)) (hr : Room k X.A) (ho : QV X κ o fo)
    (ht : eval (.Call (.Attribute o m apos) [] [] pos) X.env = (do
      let ov <- eval o X.env
      standAt apos.atName
      let (f, first) <- holding [ov] (getMethod ov m pl)
      callWith pos f first (backTo pos (starEach [] X.env)) (backToKw pos (keywordEach [] X.env))) := by rfl) :
    QP X κ (.Call (.Attribute o m apos) [] [] pos) (za7 h (za1 (zm3 C m fo) za3)) := (wi9 ho M.c M.h G hr M.b .nil yz0 ht).imp fun σ H Q hh_ => by
  obtain ⟨ps, d, w, e, q⟩ := hh_
  obtain ⟨ds, e1, e2⟩ := bind_some e
  obtain ⟨x, k1, k2⟩ := bind_some e1
  obtain ⟨ds', k3, k4⟩ := bind_some k2
  cases k4; cases k3
  obtain ⟨ns, vs, rfl, k5, k6⟩ := xx6 k1
  refine ⟨ps, _, w, k5, fun v H1 fp s1 r1 => ?_⟩
  have r1' := r1
  obtain ⟨_, _, _, _, rfl, hl, hn, hs, rfl⟩ := r1.objT_inv
  subst hn
  exact ⟨_, _, _, rfl, hl, yk0 k6, rfl, _, _, d, Reps.one r1', e2, q.after s1⟩
end
noncomputable def zz1 : Nat -> Bool := fun i => decide (i = 0)
noncomputable def yj1 (fd : List Addr) : Nat -> List Addr := fun i => if i = 0 then fd else []
theorem zw8 {fd : List Addr} {i : Nat} {a : Addr} (h : a ∈ yj1 fd i) : i = 0 /\ a ∈ fd := by
  unfold yj1 at h
  by_cases z : i = 0
  . rw [if_pos z] at h; exact ⟨z, h⟩
  . rw [if_neg z] at h; exact absurd h (by simp)
theorem xa0 {K : PySem.W.Frag} {κ : Str -> Addr} {H : Hp} {v : V} {vs : List V} {d : D} {ds : List D} {fd : List Addr} (r : Rep K κ H v d fd) (nd : fd.Nodup) (rs : Reps K κ H vs ds []) :
    RS (fxE K κ (ds.length + 1) zz1) H ((v :: vs).map some) ((d :: ds).map some) (yj1 fd) := by
  refine ⟨fun i x hx => ?_, fun i a ha => ?_, fun i j a h1 h2 => ?_, fun i => ?_, fun i a _ k z => z.elim, fun k a z => z.elim, by simp [rs.length]⟩
  . cases i with
    | zero =>
      simp at hx; subst hx
      exact ⟨v, fd, rfl, r, fun _ => rfl, fun z => by simp [fxE, zz1] at z⟩
    | succ i =>
      rw [List.map_cons, List.getElem?_cons_succ, List.getElem?_map] at hx
      obtain ⟨y, hy, e⟩ := Option.map_eq_some_iff.mp hx
      cases e
      obtain ⟨u, f1, k1, k2, k3⟩ := rs.get hy
      have ef : f1 = [] := by
        cases f1 with
        | nil => rfl
        | cons b l => exact absurd (k3 b List.mem_cons_self) (by simp)
      subst ef
      exact ⟨u, [], by rw [List.map_cons, List.getElem?_cons_succ, List.getElem?_map, k1]; rfl, k2, (fun _ => by simp [yj1]), fun _ a ha => absurd ha (by simp)⟩
  . obtain ⟨e, h⟩ := zw8 ha
    subst e
    exact ⟨by simp [fxE, zz1], d, rfl⟩
  . rw [(zw8 h1).1, (zw8 h2).1]
  . unfold yj1; split
    . exact nd
    . exact List.nodup_nil
noncomputable def yu9 : List Arg -> Bool
  | [] => true
  | .im _ :: as => yu9 as
  | .io _ :: _ => false
theorem ArgsAt.reps {K : PySem.W.Frag} {κ : Str -> Addr} {H : Hp} {σ : St} {ps : PSt} : ∀ {as : List Arg} {vs : List V} {ds : List D}, ArgsAt K κ H σ ps as vs ds -> yu9 as = true -> Reps K κ H vs ds []
  | _, _, _, .nil, _ => .nil
  | _, _, _, .io _ _ _, h => by cases h
  | _, _, _, .im r a, h => .cons (f := []) (g := []) r (ArgsAt.reps a h)
noncomputable def zo8 (C m : Str) (g : List D -> Option (D × List D)) (ys : List D) (d : D) : Option (D × D) := match d with
  | .obj true C' ns vs => if (C' = C /\ zf0 ns m = none) then (g (.obj true C' ns vs :: ys)).bind fun r => match r.2 with
      | d' :: ds => if ds.length = ys.length then some (r.1, d') else none
      | [] => none
    else none
  | _ => none
theorem xa1 {C m : Str} {g : List D -> Option (D × List D)} {ys : List D} {d r d' : D} (h : zo8 C m g ys d = some (r, d')) : ∃ ns vs ds, d = .obj true C ns vs /\ zf0 ns m = none /\ g (d :: ys) = some (r, d' :: ds) /\ ds.length = ys.length := by
  unfold zo8 at h
  split at h
  . rename_i C' ns vs
    by_cases hc : C' = C /\ zf0 ns m = none
    . rw [if_pos hc] at h
      obtain ⟨hC, hn⟩ := hc
      subst hC
      obtain ⟨⟨r1, ds⟩, e1, e2⟩ := bind_some h
      cases ds with
      | nil => cases e2
      | cons d1 ds =>
        obtain ⟨hl, e3⟩ := zf8 e2
        cases e3
        exact ⟨ns, vs, ds, rfl, hn, e1, hl⟩
    . rw [if_neg hc] at h; cases h
  . cases h
section
variable {X : Cx} {κ : Str -> Addr} {φ : F0} {o e : Expr} {es : List Expr} {C m qual : Str} {st : Stmt} {ps : List Str} {f : Addr} {fd : FuncData} {k np j : Nat} {mk : Nat -> Bool} {g : List D -> Option (D × List D)} {pf : PSt -> Option (List Ps1)} {as : List Arg} {apos pos p : Pos} {pl : Sem Bool}
theorem wk6 {σ : St} {H H1 : Hp} {Q : VK} {ps : PSt} {F : Nat -> List Addr} {d0 d0' r : D} {pp : List Ps1} {v0 v : V} {ys : List D} {us : List V} (R : RS (φ.fx X.K κ) H σ ps F) (s1 : SameK H H1) (hb : φ.bor j = false) (e0 : ps[j]? = some (some d0)) (ev : σ[j]? = some (some v0))
    (em : ze0 (zo8 C m g ys) d0 pp = some (r, d0')) (at_ : At H1 v0 pp v) (ry : Reps X.K κ H1 us ys []) (hnp : np = ys.length + 1) (hm : mk = zz1)
    (q : ∀ v H' F' fv, Stp (φ.fx X.K κ) σ H F σ H' (ps.set j (some d0')) F' -> OwnV F H F' fv -> Rep X.K κ H' v r fv -> Q v H') : SpE np X.K κ mk g (v :: us) H1 Q E0 := by
  subst hnp hm
  obtain ⟨d1, d1', fd, m1, m2, m3, m4, m5⟩ := yl4 R s1 hb e0 ev em at_
  obtain ⟨ns, vs, ds, rfl, hn, eg, hl⟩ := xa1 m2
  refine ⟨by rw [List.length_cons, ry.length], _, r, d1' :: ds, yj1 fd, by simp, xa0 m1 m3 ry, eg, fun u H' F' fv s o rv => ?_⟩
  obtain ⟨v2, fp2, k1, k2, k3, _⟩ := s.rs.rep 0 d1' rfl
  have ek : v2 = v := by
    have : (List.map some (v :: us))[0]? = some (some v2) := k1
    simp at this; exact this.symm
  subst ek
  have k3' := k3 (by simp [fxE, zz1])
  subst k3'
  have old : ∀ a, ((∃ i, a ∈ yj1 fd i) \/ H1 a = none) -> a ∈ fd \/ H a = none := fun a h => h.elim (fun ⟨i, hi⟩ => .inl (zw8 hi).2) fun z => .inr (s1.grow a z)
  obtain ⟨F2, st2, ow2⟩ := m5 H' (F' 0) fv (fun a o h k hn => s.fr.keep a o h k fun i hi => hn (zw8 hi).2) (fun a h => s.fr.grow a h) k2
    (List.nodup_append.mpr ⟨s.rs.nd 0, o.nd, fun a ha b hb e => by subst e; exact o.dis 0 a ha hb⟩)
    (fun a ha => (List.mem_append.mp ha).elim (fun z => old a (s.nw 0 a z)) fun z => old a (o.nw a z))
  exact q u H' F2 fv st2 ow2 rv
theorem wk7 {σ : St} {H H1 : Hp} {ps : PSt} {F : Nat -> List Addr} {d0 d0' r : D} {pp : List Ps1} {v0 v : V} {ys : List D} (R : RS (φ.fx X.K κ) H σ ps F) (s1 : SameK H H1) (e0 : ps[j]? = some (some d0)) (ev : σ[j]? = some (some v0))
    (em : ze0 (zo8 C m g ys) d0 pp = some (r, d0')) (at_ : At H1 v0 pp v) : ∃ a dx fs, v = .ref a /\ H1 a = some (.ins (κ C) dx fs) /\ fs.lookup m = none := by
  obtain ⟨dd, dn, gp, hh⟩ := ya0 em
  obtain ⟨ns, vs, ds, rfl, hn, _⟩ := xa1 hh
  obtain ⟨fd, rd⟩ := yt7 R.ws s1 e0 ev gp at_
  obtain ⟨_, _, _, _, rfl, hl, hk, hs, rfl⟩ := rd.objT_inv
  subst hk; exact ⟨_, _, _, rfl, hl, yk0 hn⟩
theorem yc9 (M : Mn X.K κ C m qual st ps f fd) (G : FnOk X.prog X.w X.K X.mg X.base CX0 k f fd ps (SpE np X.K κ mk g)) (hr : Room k X.A) (hb : φ.bor j = false) (ho : PE X o (zn9 X.K κ j pf)) (ha : PA X (e :: es) (tIO X.K κ as)) (has : yu9 as = true) (hnp : np = as.length + 1) (hm : mk = zz1)
    (hst : starEach (e :: es) X.env = (false, eval e X.env) :: starEach es X.env := by rfl) (hpl : (backTo pos (starEach es X.env)).any (·.1) = false := by rfl)
    (ht : eval (.Call (.Attribute o m apos) (e :: es) [] pos) X.env = (do
      let ov <- eval o X.env
      standAt apos.atName
      let (f, first) <- holding [ov] (getMethod ov m pl)
      callWith pos f first (backTo pos (starEach (e :: es) X.env)) (backToKw pos (keywordEach [] X.env))) := by rfl) :
    QE X κ φ (.Call (.Attribute o m apos) (e :: es) [] pos) (zc9 j pf (zc4 as) (zo8 C m g)) := (wq1 ho M.c M.h G hr M.b .nil yz0 ha hst hpl ht).imp fun σ H Q hh_ => by
  obtain ⟨ps, F, d, ps', R, e, q⟩ := hh_
  obtain ⟨d0, pp, ys, d0', e0, ep, eg, em, rfl⟩ := yi7 e
  obtain ⟨dd, dn, gp, hh⟩ := ya0 em
  refine ⟨ps, pp, d0, dd, R.ws, e0, ep, gp, fun v H1 v0 s1 ev a1 => ?_⟩
  obtain ⟨a, dx, fs, rfl, hl, hn⟩ := wk7 R s1 e0 ev em a1
  refine ⟨a, dx, fs, rfl, hl, hn, ps, ys, R.ws.same s1, eg, fun us H2 s2 a2 => ?_⟩
  show SpE np X.K κ mk g (_ :: (us ++ [])) H2 Q E0
  rw [List.append_nil]
  exact wk6 R (s1.trans s2) hb e0 ev em (a1.same s2) (a2.reps has) (by rw [hnp, a2.len.2]) hm q
end
structure Kn (K : PySem.W.Frag) (mg : Str -> Option Value) (κ : Str -> Addr) (C qual : Str) (st : Stmt) (ps : List Str) (f : Addr) (fd : FuncData) : Prop where
  F : Fun K "__init__" qual st f fd
  b : zz0 K fd ps []
  M : Mk K (κ C) f
  m : mg C = some (.ref (κ C))
noncomputable def zj6 (C : Str) (ga : PSt -> Option (List D)) (g : List D -> Option (D × List D)) : PSt -> Option D := fun ps => (ga ps).bind fun ys => (g (.obj true C [] [] :: ys)).bind fun r => match r with
  | (.non, d' :: _) => some d'
  | _ => none
theorem xx7 {C : Str} {ga : PSt -> Option (List D)} {g : List D -> Option (D × List D)} {ps : PSt} {d : D} (h : zj6 C ga g ps = some d) : ∃ ys ds, ga ps = some ys /\ g (.obj true C [] [] :: ys) = some (.non, d :: ds) := by
  obtain ⟨ys, e1, e2⟩ := bind_some h
  obtain ⟨⟨r, ds⟩, e3, e4⟩ := bind_some e2
  cases r with
  | non => cases ds with
    | nil => cases e4
    | cons d1 ds => cases e4; exact ⟨ys, ds, e1, e3⟩
  | _ => cases e4
section
variable {X : Cx} {κ : Str -> Addr} {e : Expr} {es : List Expr} {C qual : Str} {st : Stmt} {ps : List Str} {f : Addr} {fd : FuncData} {k np : Nat} {mk : Nat -> Bool} {g : List D -> Option (D × List D)} {as : List Arg} {pos p : Pos}
theorem wr1 {H H1 : Hp} {Q : VK} {d : D} {ys ds : List D} {us : List V} {x dx : Addr} (s1 : SameK H H1) (hx : H1 x = none) (hdx : H1 dx = none) (hne : dx ≠ x) (ry : Reps X.K κ H1 us ys []) (hnp : np = ys.length + 1) (hm : mk = zz1) (eg : g (.obj true C [] [] :: ys) = some (.non, d :: ds)) (q : zx4 X.K κ H d Q) :
    SpE np X.K κ mk g (.ref x :: us) (upd (upd H1 dx (.own x)) x (.ins (κ C) dx [])) (fun v H2 => v = .non /\ Q (.ref x) H2) E0 := by
  subst hnp hm
  have ne : ∀ a o, H1 a = some o -> a ≠ x /\ a ≠ dx := fun a o h => ⟨fun z => (by rw [z, hx] at h; cases h), fun z => (by rw [z, hdx] at h; cases h)⟩
  have up : ∀ a o, H1 a = some o -> upd (upd H1 dx (.own x)) x (.ins (κ C) dx []) a = some o := fun a o h => by rw [zg3 (ne a o h).1, zg3 (ne a o h).2]; exact h
  have gr : ∀ a, upd (upd H1 dx (.own x)) x (.ins (κ C) dx []) a = none -> H1 a = none := fun a h => by
    by_cases z : a = x
    . rw [z]; exact hx
    . rw [zg3 z] at h
      by_cases z2 : a = dx
      . rw [z2]; exact hdx
      . rwa [zg3 z2] at h
  have s2 : SameK H1 (upd (upd H1 dx (.own x)) x (.ins (κ C) dx [])) := ⟨fun a o h _ => up a o h, gr⟩
  have r0 : Rep X.K κ (upd (upd H1 dx (.own x)) x (.ins (κ C) dx [])) (.ref x) (.obj true C [] []) [x] := .obj (fs := []) zi9 rfl .nil
  have ry2 : Reps X.K κ (upd (upd H1 dx (.own x)) x (.ins (κ C) dx [])) us ys [] := ry.move (fun a o h _ => up a o h) fun a ha => absurd ha (by simp)
  refine ⟨by rw [List.length_cons, ry.length], _, .non, d :: ds, yj1 [x], by simp, xa0 r0 (by simp) ry2, eg, fun u H' F' fv s o rv => ⟨by cases rv; rfl, ?_⟩⟩
  obtain ⟨v2, fp2, k1, k2, k3, _⟩ := s.rs.rep 0 d rfl
  have ek : v2 = .ref x := by
    have : (List.map some (V.ref x :: us))[0]? = some (some v2) := k1
    simp at this; exact this.symm
  subst ek
  have k3' := k3 (by simp [fxE, zz1])
  subst k3'
  refine q (.ref x) H' (F' 0) ⟨fun a o h hk => ?_, fun a h => s1.grow a (gr a (s.fr.grow a h))⟩ (fun a ha => ?_) (s.rs.nd 0) k2
  . have h1 := s1.keep a o h hk
    refine s.fr.keep a o (up a o h1) hk fun i hi => ?_
    have := (zw8 hi).2
    simp at this
    exact (ne a o h1).1 this
  . rcases s.nw 0 a ha with ⟨i, hi⟩ | z
    . have := (zw8 hi).2
      simp at this
      subst this
      exact s1.grow a hx
    . exact s1.grow a (gr a z)
theorem yg7 (Kd : Kn X.K X.mg κ C qual st ps f fd) (G : FnOk X.prog X.w X.K X.mg X.base CX0 k f fd ps (SpE np X.K κ mk g)) (hr : Room (k + 1) X.A) (hg : Gl X C) (ha : PA X (e :: es) (tIO X.K κ as)) (has : yu9 as = true) (hnp : np = as.length + 1) (hm : mk = zz1)
    (hdb : (C == ("__debug__" : Str)) = false := by decide) (he : starEach (e :: es) X.env = (false, eval e X.env) :: starEach es X.env := by rfl) (hpl : (backTo pos (starEach es X.env)).any (·.1) = false := by rfl) :
    QP X κ (.Call (.Name C p) (e :: es) [] pos) (zj6 C (zc4 as) g) := (wq2 Kd.M G hr hg Kd.m Kd.b .nil yz0 ha hdb he hpl).imp fun σ H Q hh_ => by
  obtain ⟨ps, d, w, e, q⟩ := hh_
  obtain ⟨ys, ds, e1, e2⟩ := xx7 e
  refine ⟨ps, ys, w, e1, fun us H1 s1 a1 x dx hx hdx hne => ?_⟩
  show SpE np X.K κ mk g (_ :: (us ++ [])) _ _ E0
  rw [List.append_nil]
  exact wr1 s1 hx hdx hne (a1.reps has) (by rw [hnp, a1.len.2]) hm e2 q
end
end L2
namespace L2
open PySem PySem.Spec PyProof.Rows
section
variable {X : Cx} {κ : Str -> Addr}
theorem we0 : MtR X "str.startswith" (fun x xs H Q => ∃ z y, x = .str z /\ xs = [.str y] /\ Q (.bl (Txt.startswith z y)) H) := by
  intro pins s σ H x xs v us Q I rx r h
  obtain ⟨z, y, rfl, rfl, q⟩ := h
  obtain ⟨t, rfl⟩ := rx
  obtain ⟨u, rfl, t', rfl⟩ := ye1 r
  exact SC.startswith ⟨.bl _, H, I.tok _, rfl, q⟩
noncomputable def zz3 : D -> List D -> Option D
  | .str z, [.str y] => some (.bl (Txt.startswith z y))
  | _, _ => none
theorem yh3 : MtR X "str.startswith" (PMt X.K κ zz3) := by
  rintro pins s σ H x vs v us Q I rx r ⟨dx, ds, fx, fp, d, r1, rs, e, q⟩
  unfold zz3 at e
  split at e
  . cases e
    obtain ⟨w, rfl, r2⟩ := rs.one_inv
    exact we0 pins s σ H x _ v us Q I rx r ⟨_, _, r1.is_str, by rw [r2.is_str], q.now (.bl _)⟩
  . cases e
end
theorem zq7 (n : Nat) : zc8 (true :: List.replicate n false) = zz1 := by
  funext i
  unfold zc8 zz1
  cases i with
  | zero => rfl
  | succ i =>
    rw [List.getElem?_cons_succ, List.getElem?_replicate]
    split <;> simp
noncomputable def kap : List (Str × Addr) -> Str -> Addr
  | [], _ => mainGlobals
  | (x, a) :: r, y => if x = y then a else kap r y
end L2
namespace L2
open PySem PySem.Spec PyProof.Rows
section
variable {X : Cx} {pins : List (Addr × Obj)} {σ : St} {H : Hp} {s : Shared} {a C dx : Addr} {fs : List (Str × V)}
theorem Inv.freeze (I : Inv X pins σ H s) (h : H a = some (.ins C dx fs)) : Inv X pins σ (upd H a (.frz (PySem.W.instObj C dx) (.ins C dx fs))) s := by
  have ne : ∀ b, H b = none -> b ≠ a := fun b hb z => by rw [z, h] at hb; cases hb
  have nt : ∀ b o, H b = some o -> (∀ C' dx' fs', o ≠ .ins C' dx' fs') -> b ≠ a := fun b o hb ho z => by
    rw [z, h] at hb
    cases hb
    exact ho _ _ _ rfl
  refine ⟨I.ok, I.os, I.bare, ⟨I.base.keep, I.base.slot, fun b o h1 h2 h3 => ?_, I.base.there, fun b xs h1 => ?_, fun b o u h1 => ?_, fun b ps h1 => ?_⟩, I.loc, I.cell, ?_, fun x c e => ?_, fun p hp => ?_, fun b o e => ?_, I.len⟩
  . have := I.base.free b o h1 h2 h3
    rw [zg3 (ne b this)]; exact this
  . have := I.base.tups b xs h1
    rw [zg3 (nt b _ this fun _ _ _ z => by cases z)]; exact this
  . have := I.base.frzs b o u h1
    rw [zg3 (nt b _ this fun _ _ _ z => by cases z)]; exact this
  . obtain ⟨more, this⟩ := I.base.tbls b ps h1
    exact ⟨more, by rw [zg3 (nt b _ this fun _ _ _ z => by cases z)]; exact this⟩
  . rw [zg3 (ne _ I.free)]; exact I.free
  . have := I.freeC x c e
    rw [zg3 (ne _ this)]; exact this
  . obtain ⟨p1, p2, p3⟩ := I.pin p hp
    exact ⟨p1, by rw [zg3 (ne _ p2)]; exact p2, p3⟩
  . have st : ∀ {b o}, zm8 X.prog X.w H s.heap b o -> zm8 X.prog X.w (upd H a (.frz (PySem.W.instObj C dx) (.ins C dx fs))) s.heap b o := fun x =>
      x.stay (fun _ _ _ q => q) (fun b' hb => by rw [zg3 (nt b' _ hb fun _ _ _ z => by cases z)]; exact hb) fun b' xs hb => by rw [zg3 (nt b' _ hb fun _ _ _ z => by cases z)]; exact hb
    by_cases z : b = a
    . subst z
      rw [zi9] at e
      cases e
      have x := I.hok b _ h
      obtain ⟨_, _, _, ob, _⟩ := (show zm8 X.prog X.w H s.heap b (.ins C dx fs) from x)
      exact ⟨ob, st x⟩
    . rw [zg3 z] at e
      exact st (I.hok b o e)
end
theorem PE.frz {X : Cx} {e : Expr} {t : TE} (h : PE X e t) : PE X e (fun σ H Q => t σ H fun x H' => ∃ a C dx fs, x = .ref a /\ H' a = some (.ins C dx fs) /\ Q x (upd H' a (.frz (PySem.W.instObj C dx) (.ins C dx fs)))) := by
  intro pins s σ H Q I q
  exact thn (h pins s σ H _ I q) fun v s1 ⟨x, H1, I1, rx, a, C, dx, fs, ex, ea, q1⟩ => ⟨x, _, I1.freeze ea, rx, q1⟩
noncomputable def yd7 (f : PSt -> Option D) : PSt -> Option D := fun ps => (f ps).bind fun d => match d with
  | .obj true C ns vs => if D.imms vs = true then some (.obj false C ns vs) else none
  | _ => none
theorem yr6 {X : Cx} {κ : Str -> Addr} {e : Expr} {f : PSt -> Option D} (h : QP X κ e f) : QP X κ e (yd7 f) :=
  (PE.frz h).imp fun σ H Q hh_ => by
    obtain ⟨ps, d, w, e, q⟩ := hh_
    obtain ⟨d0, e1, e2⟩ := bind_some e
    refine ⟨ps, d0, w, e1, fun v H1 fv s1 n1 nd1 r1 => ?_⟩
    cases d0 with
    | obj o C ns vs => cases o with
      | true =>
        have e2' : (if D.imms vs = true then some (D.obj false C ns vs) else none) = some d := e2
        obtain ⟨hi, e3⟩ := zf8 e2'
        cases e3
        obtain ⟨l, dx, fs, g, rfl, hl, hn, hs, rfl⟩ := r1.objT_inv
        have eg := hs.imm hi
        subst eg
        have hln := n1 l List.mem_cons_self
        have up : ∀ b o, H b = some o -> b ≠ l := fun b o hb z => by rw [z, hln] at hb; cases hb
        refine ⟨l, κ C, dx, fs, rfl, hl, q (.ref l) _ [] ⟨fun b o hb hk => ?_, fun b hb => ?_⟩ (fun _ h => absurd h (by simp)) List.nodup_nil (.objF zi9 hn (hs.move (fun b o hb ht => ?_) fun _ h => absurd h (by simp)))⟩
        . rw [zg3 (up b o hb)]; exact s1.keep b o hb hk
        . by_cases z : b = l
          . rw [z, zi9] at hb; cases hb
          . rw [zg3 z] at hb; exact s1.grow b hb
        . by_cases z : b = l
          . rw [z, hl] at hb; cases hb; cases ht
          . rw [zg3 z]; exact hb
      | false => cases e2
    | _ => cases e2
end L2
namespace L2
open PySem PySem.Spec PyProof.Rows
section
variable {X : Cx} {κ : Str -> Addr}
theorem wk8 : MtR X "str.rfind" (fun x xs H Q => ∃ z y, x = .str z /\ xs = [.str y] /\ Q (.int (Txt.rfind z y)) H) := by
  intro pins s σ H x xs v us Q I rx r h
  obtain ⟨z, y, rfl, rfl, q⟩ := h
  obtain ⟨t, rfl⟩ := rx
  obtain ⟨u, rfl, t', rfl⟩ := ye1 r
  exact SC.rfind ⟨.int _, H, I.tok _, ⟨_, rfl⟩, q⟩
noncomputable def ys6 : D -> List D -> Option D
  | .str z, [.str y] => some (.int (Txt.rfind z y))
  | _, _ => none
theorem xe6 : MtR X "str.rfind" (PMt X.K κ ys6) := by
  rintro pins s σ H x vs v us Q I rx r ⟨dx, ds, fx, fp, d, r1, rs, e, q⟩
  unfold ys6 at e
  split at e
  . cases e
    obtain ⟨w, rfl, r2⟩ := rs.one_inv
    exact wk8 pins s σ H x _ v us Q I rx r ⟨_, _, r1.is_str, by rw [r2.is_str], q.now (.int _)⟩
  . cases e
end
noncomputable def zz5 (f : PSt -> Option (Bool × PSt)) : PSt -> Option (Bool × PSt) := fun ps => (f ps).bind fun r => some (!r.1, r.2)
noncomputable def fTE (f : PSt -> Option (D × PSt)) : PSt -> Option (Bool × PSt) := fun ps => (f ps).bind fun r => (ze7 r.1).bind fun b => some (b, r.2)
noncomputable def fE2 (g : D -> D -> Option D) (fa : PSt -> Option (D × PSt)) (fb : PSt -> Option D) : PSt -> Option (D × PSt) := fun ps => (fa ps).bind fun r => (fb r.2).bind fun y => (g r.1 y).bind fun d => some (d, r.2)
section
variable {X : Cx} {κ : Str -> Addr} {φ : F0} {a b : Expr} {pos : Pos}
theorem yl5 {f : PSt -> Option (Bool × PSt)} (h : QTE X κ φ a f) : QTE X κ φ (.UnaryOp .Not a pos) (zz5 f) := (wa9 h).imp fun σ H Q hh_ => by
  obtain ⟨ps, F, c, ps', R, e, q⟩ := hh_
  obtain ⟨⟨c1, p1⟩, e1, e2⟩ := bind_some e
  cases e2
  exact ⟨ps, F, c1, p1, R, e1, fun H' F' s => q H' F' s⟩
theorem yg8 {f : PSt -> Option (D × PSt)} (h : QE X κ φ a f) (he : ∀ whole, isTrue a X.env whole = (do let v <- whole; standAt a.pos; holding [v] (truthy v)) := by intro _; rfl) : QTE X κ φ a (fTE f) := (xl3 h he).imp fun σ H Q hh_ => by
  obtain ⟨ps, F, c, ps', R, e, q⟩ := hh_
  obtain ⟨⟨d, p1⟩, e1, e2⟩ := bind_some e
  obtain ⟨c1, e3, e4⟩ := bind_some e2
  cases e4
  exact ⟨ps, F, d, p1, R, e1, fun v H' F' fv s o r => ⟨_, xs4 r e3, q H' F' s⟩⟩
theorem xa2 {op : CmpOp} {g : D -> D -> Option D} {fa : PSt -> Option (D × PSt)} {fb : PSt -> Option D} (ho : OpR X (compareOp op) (POp X.K κ g)) (ha : QE X κ φ a fa) (hb : QV X κ b fb) (hm : behindInMarks op b = false) : QE X κ φ (.Compare a [op] [b] pos) (fE2 g fa fb) :=
  (xs0 ho ha hb hm).imp fun σ H Q hh_ => by
    obtain ⟨ps, F, d, ps', R, e, q⟩ := hh_
    obtain ⟨⟨dx, p1⟩, e1, e2⟩ := bind_some e
    obtain ⟨y, e3, e4⟩ := bind_some e2
    obtain ⟨d1, e5, e6⟩ := bind_some e4
    cases e6
    refine ⟨ps, F, dx, p1, R, e1, fun v H1 F1 fv s1 o1 r1 => ⟨p1, y, s1.rs.ws, e3, fun u H2 fu s2 r2 => ⟨dx, y, _, fv, fu, r1.same s2, r2, e5, fun w H3 fw s3 n3 nd3 r3 => ?_⟩⟩⟩
    exact q w H3 F1 fw (s1.trans (.same s1.rs (s2.trans s3))) (OwnV.after s1 (OwnV.new s1.rs (fun a ha => s2.grow a (n3 a ha)) nd3)) r3
end
end L2
namespace L2
open PySem PySem.Spec PyProof.Rows
noncomputable def yy2 (g : D -> D -> Option D) (fa : PSt -> Option D) (fb : PSt -> Option (D × PSt)) : PSt -> Option (D × PSt) := fun ps => (zb7 fa ps).bind fun x => (fb ps).bind fun r => (g x r.1).bind fun d => some (d, r.2)
noncomputable def xg1 (fa : PSt -> Option D) (fb : PSt -> Option (D × PSt)) : PSt -> Option (D × PSt) := fun ps => (fa ps).bind fun c => match c with
  | .bl true => some (.bl true, ps)
  | .bl false => fb ps
  | _ => none
theorem we1 {f : PSt -> Option D} {ps : PSt} {d : D} (e : zb7 f ps = some d) : f ps = some d /\ d.imm = true := by
  unfold zb7 at e
  obtain ⟨d1, k1, k2⟩ := bind_some e
  obtain ⟨k3, k4⟩ := zf8 k2
  cases k4
  exact ⟨k1, k3⟩
theorem wr2 {φ : Fx} {H H' : Hp} {σ σ' : St} {ps ps' : PSt} {F F' : Nat -> List Addr} (R : RS φ H σ ps F) (s : Stp φ σ H F σ' H' ps' F') : ∀ a u, H a = some u -> tf u = true -> H' a = some u := fun a u h t => s.fr.keep a u h (zw6 t) fun i hi => by
  obtain ⟨u', h', _, t'⟩ := R.own hi
  rw [h] at h'; cases h'; rw [t] at t'; cases t'
theorem Reps.cons_inv {K : PySem.W.Frag} {κ : Str -> Addr} {H : Hp} {vs : List V} {d : D} {ds : List D} {fp : List Addr} (r : Reps K κ H vs (d :: ds) fp) : ∃ v vs' f g, vs = v :: vs' /\ Rep K κ H v d f /\ Reps K κ H vs' ds g /\ fp = f ++ g := by
  cases r with
  | cons h hs => exact ⟨_, _, _, _, rfl, h, hs, rfl⟩
theorem Reps.nil_inv {K : PySem.W.Frag} {κ : Str -> Addr} {H : Hp} {vs : List V} {fp : List Addr} (r : Reps K κ H vs [] fp) : vs = [] /\ fp = [] := by
  cases r with
  | nil => exact ⟨rfl, rfl⟩
section
variable {X : Cx} {κ : Str -> Addr} {φ : F0} {a b o e : Expr} {es zc2 : List Expr} {pos apos p : Pos} {j : Nat} {pf : PSt -> Option (List Ps1)}
theorem yr7 {op : Operator} {g : D -> D -> Option D} {fa : PSt -> Option D} {fb : PSt -> Option (D × PSt)} (ho : OpR X (binaryOp op) (POp X.K κ g)) (ha : QV X κ a fa) (hb : QE X κ φ b fb) : QE X κ φ (.BinOp a op b pos) (yy2 g fa fb) :=
  (zn6 ho ha.p hb).imp fun σ H Q hh_ => by
    obtain ⟨ps, F, d, ps', R, e, q⟩ := hh_
    obtain ⟨x, e1, e2⟩ := bind_some e
    obtain ⟨⟨y, p1⟩, e3, e4⟩ := bind_some e2
    obtain ⟨d1, e5, e6⟩ := bind_some e4
    cases e6
    refine ⟨ps, x, R.ws, e1, fun v H1 fv s1 n1 nd1 r1 => ⟨ps, F, y, p1, R.same s1, e3, fun u H2 F2 fu s2 o2 r2 => ?_⟩⟩
    have := r1.imm (we1 e1).2
    subst this
    have s12 := (Stp.same R s1).trans s2
    refine ⟨x, y, _, [], fu, r1.move (wr2 (R.same s1) s2) (fun a ha => absurd ha (by simp)), r2, e5, fun w H3 fw s3 n3 nd3 r3 => ?_⟩
    exact q w H3 F2 fw (s12.trans (.same s2.rs s3)) (OwnV.after s12 (OwnV.new s2.rs n3 nd3)) r3
theorem xn4 {op} {fa : PSt -> Option (D × PSt)} (h : QE X κ φ a fa) : QE X κ φ (.BoolOp op [a] pos) fa := wb0 h
theorem xx8 {fa : PSt -> Option D} {fb : PSt -> Option (D × PSt)} (ha : QP X κ a fa) (hb : QE X κ φ (.BoolOp .Or (b :: zc2) pos) fb) : QE X κ φ (.BoolOp .Or (a :: b :: zc2) pos) (xg1 fa fb) :=
  (wo0 ha hb).imp fun σ H Q hh_ => by
    obtain ⟨ps, F, d, ps', R, e, q⟩ := hh_
    unfold xg1 at e
    obtain ⟨k, e1, e2⟩ := bind_some e
    obtain ⟨c, rfl, e3⟩ := xw8 (d := k) (x := some (D.bl true, ps)) (y := fb ps) (z := (d, ps')) e2
    refine ⟨ps, _, R.ws, e1, fun v H1 fv s1 _ _ r1 => ⟨c, r1.is_bl, ?_⟩⟩
    cases c with
    | true =>
      rw [if_pos rfl] at e3 |-
      cases e3
      exact q _ H1 F [] (.same R s1) (OwnV.new R (fun _ h => absurd h (by simp)) List.nodup_nil) (.bl true)
    | false =>
      rw [if_neg Bool.false_ne_true] at e3 |-
      exact ⟨ps, F, d, ps', R.same s1, e3, fun v H2 F2 fv s2 o2 r2 => q v H2 F2 fv ((Stp.same R s1).trans s2) (OwnV.after (Stp.same R s1) o2) r2⟩
noncomputable def yp2 : List D -> D -> Option (D × D)
  | [.int 0], .lst true (y :: ys) => some (y, .lst true ys)
  | _, _ => none
theorem xa3 {ys : List D} {d r d' : D} (h : yp2 ys d = some (r, d')) : ∃ xs, ys = [.int 0] /\ d = .lst true (r :: xs) /\ d' = .lst true xs := by
  unfold yp2 at h
  split at h
  . cases h; exact ⟨_, rfl, rfl, rfl⟩
  . cases h
theorem yt9 {g : PSt -> Option (List D)} (hb : φ.bor j = false) (ho : PE X o (zn9 X.K κ j pf)) (ha : PA X [e] (tVA X.K κ g))
    (hbase : attributeBase o "pop" X.env (eval o X.env) = eval o X.env := by rfl)
    (hfew : ((backTo pos (starEach [e] X.env)).all (fun x => !x.1) && (backToKw pos (keywordEach [] X.env)).all (fun x => x.1.isSome)
      && decide ([e].length + ([] : List Keyword).length + (if ([] : List Keyword).isEmpty then 0 else 1) < 30)) = true := by rfl)
    (hline : (apos.endLine == pos.line) = true := by rfl) (hs : starEach [e] X.env = (false, eval e X.env) :: starEach [] X.env := by rfl) (hplain : (backTo pos (starEach [] X.env)).any (·.1) = false := by rfl) :
    QE X κ φ (.Call (.Attribute o "pop" apos) [e] [] pos) (zc9 j pf g yp2) :=
  (xw2 PySem.F.plainAttrs_list PySem.F.slot_list_pop PySem.F.type_list_pop wj2 ho ha hbase hfew hline hs hplain).imp fun σ H Q hh_ => by
    obtain ⟨ps, F, d, ps', R, e, q⟩ := hh_
    obtain ⟨d0, p, ys, d0', e0, ep, eg, em, rfl⟩ := yi7 e
    obtain ⟨dd, dn, gp, hh⟩ := ya0 em
    refine ⟨ps, p, d0, dd, R.ws, e0, ep, gp, fun v H1 v0 s1 ev a1 => ⟨?_, ps, ys, R.ws.same s1, eg, fun vs H2 fy s2 r2 => ?_⟩⟩
    . obtain ⟨xs, _, rfl, _⟩ := xa3 hh
      obtain ⟨fd, rd⟩ := yt7 R.ws s1 e0 ev gp a1
      obtain ⟨_, _, _, rfl, hl, hr, rfl⟩ := rd.lstT_inv
      exact .inl ⟨rfl, _, .inl (.inl hl)⟩
    . obtain ⟨d1, d1', fd, m1, m2, m3, m4, m5⟩ := yl4 R (s1.trans s2) hb e0 ev em (a1.same s2)
      obtain ⟨xs, rfl, rfl, rfl⟩ := xa3 m2
      obtain ⟨u0, rfl, ru0⟩ := r2.one_inv
      obtain ⟨l, us, g1, rfl, hl, hr, rfl⟩ := m1.lstT_inv
      obtain ⟨u, us', f2, g2, rfl, k2, k3, rfl⟩ := hr.cons_inv
      obtain ⟨nl, nd3⟩ := List.nodup_cons.mp m3
      have n1 : l ∉ g2 := fun z => nl (List.mem_append_right _ z)
      have n2 : l ∉ f2 := fun z => nl (List.mem_append_left _ z)
      refine ⟨l, u :: us', 0, 0, u, rfl, by rw [ru0.is_int], hl, by decide, by decide, ?_, rfl, ?_⟩
      . simp [seqIndex?]
      obtain ⟨F', st, ow⟩ := m5 (upd H2 l (.lst us')) (l :: g2) f2 (fun a o h _ hn => yn0 h hn)
        (fun a h => yn1 h)
        (.lst zi9 (k3.updL hl rfl n1)) (by
          rw [List.cons_append, List.nodup_cons]
          exact ⟨fun z => nl (List.mem_append.mpr ((List.mem_append.mp z).symm)), (List.perm_append_comm.nodup_iff).mp nd3⟩) (fun a ha => .inl (by
          rcases List.mem_append.mp ha with z | z
          . rcases List.mem_cons.mp z with z | z
            . exact z ▸ List.mem_cons_self
            . exact List.mem_cons_of_mem _ (List.mem_append_right _ z)
          . exact List.mem_cons_of_mem _ (List.mem_append_left _ z)))
      exact q u _ F' f2 st ow (k2.updL hl rfl n2)
noncomputable def yp3 (np : Nat) : Nat -> Bool := fun i => decide (i + 1 = np)
theorem xx9 (n : Nat) : zc8 (List.replicate n false ++ [true]) = yp3 (n + 1) := by
  funext i
  unfold zc8 yp3
  by_cases h : i < n
  . rw [List.getElem?_append_left (by simpa using h), List.getElem?_replicate, if_pos h]
    simp; omega
  . by_cases h2 : i = n
    . subst h2; simp
    . rw [List.getElem?_eq_none (by simp; omega)]
      simp; omega
theorem Reps.lastOnly {K : PySem.W.Frag} {H : Hp} : ∀ {ds : List D} {vs : List V} {fp : List Addr}, Reps K κ H vs ds fp -> D.imms ds.dropLast = true -> ∀ {i : Nat} {d : D}, ds[i]? = some d -> ∃ v, vs[i]? = some v /\ Rep K κ H v d (if i + 1 = ds.length then fp else [])
  | [], _, _, _, _, i, d, h => by simp at h
  | d1 :: ds, vs, fp, r, hi, i, d, h => by
    obtain ⟨v, vs', f, g, rfl, h1, h2, rfl⟩ := r.cons_inv
    cases ds with
    | nil =>
      obtain ⟨rfl, rfl⟩ := h2.nil_inv
      cases i with
      | zero => simp at h; subst h; exact ⟨v, rfl, by simpa using h1⟩
      | succ i => simp at h
    | cons d2 ds =>
      have hi' : (d1.imm && D.imms (d2 :: ds).dropLast) = true := hi
      obtain ⟨i1, i2⟩ := Bool.and_eq_true_iff.mp hi'
      have := h1.imm i1
      subst this
      cases i with
      | zero => simp at h; subst h; exact ⟨v, rfl, by simpa using h1⟩
      | succ i =>
        obtain ⟨w, k1, k2⟩ := Reps.lastOnly h2 i2 (i := i) (d := d) (by simpa using h)
        refine ⟨w, by simpa using k1, ?_⟩
        simpa using k2
noncomputable def ym4 (h : List D -> Option (D × List D)) (g : PSt -> Option (List D)) : PSt -> Option D := fun ps => (g ps).bind fun ds => if D.imms ds.dropLast = true then (h ds).bind fun r => some r.1 else none
theorem xn5 {x : Str} {st : Stmt} {ps : List Str} {fa : Addr} {fd : FuncData} {k np : Nat} {m : Nat -> Bool} {h : List D -> Option (D × List D)} {g : PSt -> Option (List D)} (Dd : Dn X.K X.mg x st ps fa fd) (G : FnOk X.prog X.w X.K X.mg X.base CX0 k fa fd ps (SpE np X.K κ m h)) (hr : Room k X.A) (hg : Gl X x) (hm : m = yp3 np) (hnp : (e :: es).length = np) (ha : QPA X κ (e :: es) g)
    (hlen : ∀ ps ds, g ps = some ds -> ds.length = (e :: es).length)
    (hdb : (x == ("__debug__" : Str)) = false := by decide) (he : starEach (e :: es) X.env = (false, eval e X.env) :: starEach es X.env := by rfl) (hpl : (backTo pos (starEach es X.env)).any (·.1) = false := by rfl) :
    QP X κ (.Call (.Name x p) (e :: es) [] pos) (ym4 h g) := (xj6 Dd G hr hg ha hdb he hpl).imp fun σ H Q hh_ => by
  obtain ⟨ps, d, w, e, q⟩ := hh_
  obtain ⟨ds, e1, e2⟩ := bind_some e
  obtain ⟨hi, e3⟩ := zf8 e2
  obtain ⟨⟨r, ds'⟩, e4, e5⟩ := bind_some e3
  cases e5
  subst hm
  have ln : ds.length = np := by rw [hlen ps ds e1, hnp]
  refine ⟨ps, ds, w, e1, fun vs H1 fp s1 n1 nd1 r1 => ?_⟩
  show SpE np X.K κ (yp3 np) h (vs ++ []) H1 Q E0
  rw [List.append_nil]
  have mem : ∀ {i : Nat} {a : Addr}, a ∈ (if i + 1 = np then fp else []) -> i + 1 = np /\ a ∈ fp := fun {i a} ha => by
    by_cases z : i + 1 = np
    . rw [if_pos z] at ha; exact ⟨z, ha⟩
    . rw [if_neg z] at ha; exact absurd ha (by simp)
  have hbor : ∀ {i : Nat}, i + 1 = np -> (fxE X.K κ np (yp3 np)).bor i = false := fun {i} z => by simp [fxE, yp3, z]
  refine ⟨by rw [r1.length, ln], ds, r, ds', fun i => if i + 1 = np then fp else [], ln, ⟨fun i d h => ?_, fun i a ha => ?_, fun i j a h1 h2 => by have := (mem h1).1; have := (mem h2).1; omega, fun i => ?_, fun i a _ k z => z.elim, fun k a z => z.elim, by simp [r1.length]⟩, e4, fun v H' F' fv s o rv => ?_⟩
  . rw [List.getElem?_map] at h
    cases q : ds[i]? with
    | none => rw [q] at h; cases h
    | some d1 =>
      rw [q] at h; cases h
      obtain ⟨v, k1, k2⟩ := r1.lastOnly hi q
      rw [ln] at k2
      refine ⟨v, _, by rw [List.getElem?_map, k1]; rfl, k2, fun _ => rfl, fun z => fun a ha => ?_⟩
      rw [hbor (mem ha).1] at z
      cases z
  . obtain ⟨z, _⟩ := mem ha
    refine ⟨hbor z, ds[i]'(by omega), ?_⟩
    rw [List.getElem?_map, List.getElem?_eq_getElem]; rfl
  . show (if i + 1 = np then fp else []).Nodup
    split
    . exact nd1
    . exact List.nodup_nil
  . refine q v H' fv ⟨fun a o h k => s.fr.keep a o (s1.keep a o h k) k fun i hi => ?_, fun a h => s1.grow a (s.fr.grow a h)⟩ (fun a ha => ?_) o.nd rv
    . rw [n1 a (mem hi).2] at h; cases h
    . rcases o.nw a ha with ⟨i, hi⟩ | z
      . exact n1 a (mem hi).2
      . exact s1.grow a z
noncomputable def PEk (X : Cx) (e : Expr) (t : TE) : Prop :=
  ∀ (pins : List (Addr × Obj)) (s : Shared) (σ : St) (H : Hp) (Q : VK), 0 < s.toks -> Inv X pins σ H s -> t σ H Q -> wpAny (model X.prog X.w) X.A (eval e X.env) (EP X pins σ Q) X.xe s
theorem wr3 {t t' : TE} (h : PEk X e t) (k : ∀ σ H Q, t' σ H Q -> t σ H Q) : PEk X e t' := fun pins s σ H Q ht I q => h pins s σ H Q ht I (k σ H Q q)
theorem we2 {i : Nat} {x : Str} {pins : List (Addr × Obj)} {s : Shared} {σ : St} {H : Hp} {v : V} {Q : Value -> Shared -> Prop} (hN : X.N[i]? = some x) (hv : Vis X.env.scope x) (hd : (x == ("__debug__" : Str)) = false) (hcd : (x == ("__classdict__" : Str)) = false) (I : Inv X pins σ H s) (e : σ[i]? = some (some v)) (fin : ∀ u, zg4 v u -> Q u s) : wpAny (model X.prog X.w) X.A (eval (.Name x pos) X.env) Q X.xe s := by
  obtain ⟨m, hn, hl⟩ := I.loc
  obtain ⟨u, r, l⟩ := hl i x v hN e hv
  rcases l with ⟨hk, hm⟩ | ⟨hk, c, hc, hcell⟩
  . exact wpAny_Name (wpAny_loadName_local I.ok.kind hk hn hm (fin u r)) hd
  . rcases hk with hk | hk
    . exact wpAny_Name (wpAny_loadName_cell I.ok.kind hk hc hcell (fin u r)) hd
    . exact wpAny_Name (wpAny_loadName_free I.ok.kind hk hc hcell (fin u r) hcd) hd
noncomputable def ye4 (i : Nat) (y z : Str) : PSt -> Option D := fun ps => ((ps[i]?).join).bind fun d => match d with
  | .str x => if (x.length + (x.length + 1) * z.length <= 16777216 /\ (y == z) = false) then some (.str (Txt.replace x y z)) else none
  | _ => none
theorem xe7 (i : Nat) {x y z : Str} {j1 j2 : Nat} {p1 p2 p0 : Pos} (hN : X.N[i]? = some x := by rfl) (hv : Vis X.env.scope x := by first | exact Or.inl rfl | exact Or.inr (Or.inl rfl) | exact Or.inr (Or.inr rfl)) (hd : (x == ("__debug__" : Str)) = false := by decide)
    (hcd : (x == ("__classdict__" : Str)) = false := by decide)
    (hbase : attributeBase (.Name x p0) "replace" X.env (eval (.Name x p0) X.env) = eval (.Name x p0) X.env := by rfl)
    (hfew : ((backTo pos (starEach [.Constant (.str y) j1 p1, .Constant (.str z) j2 p2] X.env)).all (fun x => !x.1) && (backToKw pos (keywordEach [] X.env)).all (fun x => x.1.isSome)
      && decide (([.Constant (.str y) j1 p1, .Constant (.str z) j2 p2] : List Expr).length + ([] : List Keyword).length + (if ([] : List Keyword).isEmpty then 0 else 1) < 30)) = true := by rfl)
    (hline : (apos.endLine == pos.line) = true := by rfl)
    (hs : starEach [.Constant (.str y) j1 p1, .Constant (.str z) j2 p2] X.env = [(false, eval (.Constant (.str y) j1 p1) X.env), (false, eval (.Constant (.str z) j2 p2) X.env)] := by rfl) :
    PEk X (.Call (.Attribute (.Name x p0) "replace" apos) [.Constant (.str y) j1 p1, .Constant (.str z) j2 p2] [] pos) (tP X.K κ (ye4 i y z)) := by
  intro pins s σ H Q ht I h
  obtain ⟨ps, d, w, e, q⟩ := h
  obtain ⟨d0, e0, e1⟩ := bind_some e
  split at e1
  . rename_i x0
    obtain ⟨⟨hb, hyz⟩, e2⟩ := zf8 e1
    cases e2
    obtain ⟨v, fp, hσ, r⟩ := w i _ (join_some e0)
    have := r.is_str
    subst this
    refine wpAny_Call_method_late hbase hfew hline rfl (we2 hN hv hd hcd I hσ fun u ru => ?_)
    obtain ⟨h1, h2⟩ := yq8 (T := "str") I ru rfl
    refine ⟨"str", "str.replace", PySem.F.plainAttrs_str, PySem.F.slot_str_replace, PySem.F.type_str_replace, h1, h2, ?_⟩
    rw [hs]
    refine Calls.callWith_builtin rfl (Calls.evalArgs_plain ?_)
    refine Calls.spliced_cons (Calls.Constant_str (k := j1) (pos := p1) (Calls.spliced_cons (Calls.Constant_str (k := j2) (pos := p2) (Calls.spliced_nil ?_))))
    obtain ⟨t, rfl⟩ := ru
    exact SC.replace (by show s.toks ≠ 0; omega) (by show s.toks + 1 ≠ 0; omega) (by show s.toks ≠ s.toks + 1; omega) hyz hb fun t' k => ⟨.str _, H, I.tok k, ⟨_, rfl⟩, q.now (.str _)⟩
  . cases e1
theorem ww6 {es : List Expr} {to : TE} {t : TA} {name : Str} {T id : String} {r : V -> List V -> Hp -> VK -> Prop} (pa : PlainAttrs T) (slot : Slot T name id) (hty : typeOf (.builtin id) = pure (.type "method_descriptor")) (hm : MtR X id r) (ho : PEk X o to) (ha : PA X (e :: es) t)
    (hbase : attributeBase o name X.env (eval o X.env) = eval o X.env)
    (hfew : ((backTo pos (starEach (e :: es) X.env)).all (fun x => !x.1) && (backToKw pos (keywordEach [] X.env)).all (fun x => x.1.isSome)
      && decide ((e :: es).length + ([] : List Keyword).length + (if ([] : List Keyword).isEmpty then 0 else 1) < 30)) = true)
    (hline : (apos.endLine == pos.line) = true) (hs : starEach (e :: es) X.env = (false, eval e X.env) :: starEach es X.env) (hplain : (backTo pos (starEach es X.env)).any (·.1) = false) :
    PEk X (.Call (.Attribute o name apos) (e :: es) [] pos) (tBM X.K T r to t) := by
  intro pins s σ H Q ht I h
  refine wpAny_Call_method_late hbase hfew hline rfl (thn (ho pins s σ H _ ht I h) fun v s1 ⟨x, H1, I1, r1, ty, q1⟩ => ?_)
  obtain ⟨h1, h2⟩ := yq8 I1 r1 ty
  refine ⟨T, id, pa, slot, hty, h1, h2, ?_⟩
  have hA := ha pos pins s1 σ H1 _ I1 q1
  rw [hs] at hA |-
  refine Calls.callWith_builtin (by show (false || (backTo pos (starEach es X.env)).any (·.1)) = false; rw [hplain] <;> rfl) (Calls.evalArgs_plain ?_)
  exact thn hA fun us s2 ⟨vs, H2, I2, r2, q2⟩ => hm pins s2 σ H2 x vs v us Q I2 r1 r2 q2
theorem xy0 {es : List Expr} {fa : PSt -> Option D} {g : PSt -> Option (List D)} {name : Str} {id : String} {h : D -> List D -> Option D} (slot : Slot "str" name id) (hty : typeOf (.builtin id) = pure (.type "method_descriptor")) (hm : MtR X id (PMt X.K κ h)) (ho : PEk X a (tP X.K κ fa)) (ha : QVA X κ (e :: es) g)
    (hbase : attributeBase a name X.env (eval a X.env) = eval a X.env := by rfl)
    (hfew : ((backTo pos (starEach (e :: es) X.env)).all (fun x => !x.1) && (backToKw pos (keywordEach [] X.env)).all (fun x => x.1.isSome)
      && decide ((e :: es).length + ([] : List Keyword).length + (if ([] : List Keyword).isEmpty then 0 else 1) < 30)) = true := by rfl)
    (hline : (apos.endLine == pos.line) = true := by rfl) (hs : starEach (e :: es) X.env = (false, eval e X.env) :: starEach es X.env := by rfl) (hplain : (backTo pos (starEach es X.env)).any (·.1) = false := by rfl) :
    PEk X (.Call (.Attribute a name apos) (e :: es) [] pos) (tP X.K κ (fMt h fa g)) :=
  wr3 (ww6 PySem.F.plainAttrs_str slot hty hm ho ha hbase hfew hline hs hplain) fun σ H Q hh_ => by
    obtain ⟨ps, d, w, e, q⟩ := hh_
    obtain ⟨x, e1, e2⟩ := bind_some e
    obtain ⟨ds, e3, e4⟩ := bind_some e2
    obtain ⟨hc, e5⟩ := zf8 e4
    refine ⟨ps, x, w, e1, fun v H1 fp s1 _ _ r1 => ⟨?_, ps, ds, w.same s1, e3, fun vs H2 fq s2 r2 => ⟨x, ds, fp, fq, d, r1.same s2, r2, e5, q.after (s1.trans s2)⟩⟩⟩
    cases x with
    | str z => rw [r1.is_str]; rfl
    | _ => cases hc
theorem yx1 {z : Str} {j1 : Nat} {p1 : Pos} {f : PSt -> Option D} (he : PEk X e (tP X.K κ f))
    (hbase : attributeBase (.Constant (.str z) j1 p1) "join" X.env (eval (.Constant (.str z) j1 p1) X.env) = eval (.Constant (.str z) j1 p1) X.env := by rfl)
    (hfew : ((backTo pos (starEach [e] X.env)).all (fun x => !x.1) && (backToKw pos (keywordEach [] X.env)).all (fun x => x.1.isSome)
      && decide ([e].length + ([] : List Keyword).length + (if ([] : List Keyword).isEmpty then 0 else 1) < 30)) = true := by rfl)
    (hline : (apos.endLine == pos.line) = true := by rfl) (hs : starEach [e] X.env = [(false, eval e X.env)] := by rfl) :
    QP X κ (.Call (.Attribute (.Constant (.str z) j1 p1) "join" apos) [e] [] pos) (fMt zv1 (fC (.str z)) (za1 f za3)) := by
  intro pins s σ H Q I hh_
  obtain ⟨ps, d, w, e, q⟩ := hh_
  obtain ⟨x, e1, e2⟩ := bind_some e
  cases e1
  obtain ⟨ds, e3, e4⟩ := bind_some e2
  obtain ⟨hc, e5⟩ := zf8 e4
  obtain ⟨d1, ds1, e6, e7, rfl⟩ := yg1 e3
  cases e7
  refine wpAny_Call_method_late hbase hfew hline rfl (Calls.Constant_str ?_)
  obtain ⟨h1, h2⟩ := yq8 (T := "str") (x := .str z) (v := .str z s.toks) (I.tok (s.toks + 1)) ⟨_, rfl⟩ rfl
  refine ⟨"str", "str.join", PySem.F.plainAttrs_str, PySem.F.slot_str_join, PySem.F.type_str_join, h1, h2, ?_⟩
  rw [hs]
  refine Calls.callWith_builtin rfl (Calls.evalArgs_plain ?_)
  refine Calls.spliced_cons (thn (he pins _ σ H (fun v H' => ∃ fv, SameK H H' /\ Rep X.K κ H' v d1 fv) (Nat.succ_pos _) (I.tok (s.toks + 1)) ⟨ps, d1, w, e6, fun v H1 fv s1 _ _ r1 => ⟨fv, s1, r1⟩⟩) fun u s1 hu => ?_)
  obtain ⟨v, H1, I1, r1, fv, k1, k2⟩ := hu
  refine Calls.spliced_nil ?_
  exact yz5 pins s1 σ H1 (.str z) [v] _ [u] Q I1 ⟨_, rfl⟩ (.cons r1 .nil) ⟨.str z, [d1], [], fv ++ [], d, .str z, .cons k2 .nil, e5, q.after k1⟩
end
end L2
namespace L2
open PySem PySem.Spec PyProof.Rows
section
variable {φ : Fx} {H : Hp} {σ : St} {ps : PSt} {F : Nat -> List Addr} {k l : Nat} {xs : List D}
theorem RS.list (R : RS φ H σ ps F) (hb : φ.bor k = false) (e : ps[k]? = some (some (.lst true xs))) (hi : D.imms xs = true) : ∃ l us, σ[k]? = some (some (.ref l)) /\ H l = some (.lst us) /\ Reps φ.K φ.κ H us xs [] /\ F k = [l] := by
  obtain ⟨v, fp, h1, h2, h3, _⟩ := R.rep k _ e
  obtain ⟨l, us, g, rfl, hl, hr, rfl⟩ := h2.lstT_inv
  have := hr.imm hi
  subst this
  exact ⟨l, us, h1, hl, hr, (h3 hb).symm⟩
theorem RS.apart (R : RS φ H σ ps F) {l : Addr} (hF : F k = [l]) {i : Nat} (hi : i ≠ k) {v : V} {d : D} {fp : List Addr} (h3 : φ.bor i = false -> fp = F i) (h4 : φ.bor i = true -> ∀ a ∈ fp, φ.B i a) : l ∉ fp := fun hm => by
  have lk : l ∈ F k := by rw [hF]; exact List.mem_cons_self
  cases z : φ.bor i with
  | false => rw [h3 z] at hm; exact hi (R.dis i k l hm lk)
  | true => exact R.nb k l lk i (h4 z l hm)
theorem RS.keepS (R : RS φ H σ ps F) {H' : Hp} (s : SameK H H') {i : Nat} {a : Addr} (h : a ∈ F i) : H' a = H a := by
  obtain ⟨o, h1, h2, _⟩ := R.own h
  rw [h1]; exact s.keep a o h1 h2
end
end L2
namespace L3
open PySem PySem.Spec PyProof.Rows L2
@[irreducible] def PEk := @L2.PEk
@[irreducible] def PE := @L2.PE
@[irreducible] def PT := @L2.PT
@[irreducible] def PW := @L2.PW
@[irreducible] def PA := @L2.PA
@[irreducible] def PS := @L2.PS
@[irreducible] def PSs := @L2.PSs
@[irreducible] def PI := @L2.PI
@[irreducible] def PG := @L2.PG
@[irreducible] def PGs := @L2.PGs
@[irreducible] def PTs := @L2.PTs
@[irreducible] def OpR := @L2.OpR
@[irreducible] def zk7 := @L2.zk7
@[irreducible] def MtR := @L2.MtR
noncomputable abbrev QV (X : Cx) (κ : Str -> Addr) (e : Expr) (f : PSt -> Option D) : Prop := PE X e (tV X.K κ f)
noncomputable abbrev QP (X : Cx) (κ : Str -> Addr) (e : Expr) (f : PSt -> Option D) : Prop := PE X e (tP X.K κ f)
noncomputable abbrev QT (X : Cx) (κ : Str -> Addr) (e : Expr) (f : PSt -> Option Bool) : Prop := PT X e (tQ X.K κ f)
noncomputable abbrev QW (X : Cx) (κ : Str -> Addr) (e : Expr) (f : PSt -> Option Bool) : Prop := PW X e (tQ X.K κ f)
noncomputable abbrev QVA (X : Cx) (κ : Str -> Addr) (es : List Expr) (f : PSt -> Option (List D)) : Prop := PA X es (tVA X.K κ f)
noncomputable abbrev QPA (X : Cx) (κ : Str -> Addr) (es : List Expr) (f : PSt -> Option (List D)) : Prop := PA X es (tPA X.K κ f)
noncomputable abbrev QS (X : Cx) (κ : Str -> Addr) (φ : F0) (st : Stmt) (f : PSt -> Option (Fl × PSt)) : Prop := PS X st (tS (φ.fx X.K κ) f)
noncomputable abbrev QSs (X : Cx) (κ : Str -> Addr) (φ : F0) (st : List Stmt) (f : PSt -> Option (Fl × PSt)) : Prop := PSs X st (tS (φ.fx X.K κ) f)
noncomputable abbrev QE (X : Cx) (κ : Str -> Addr) (φ : F0) (e : Expr) (f : PSt -> Option (D × PSt)) : Prop := PE X e (tE (φ.fx X.K κ) f)
noncomputable abbrev QTE (X : Cx) (κ : Str -> Addr) (φ : F0) (e : Expr) (f : PSt -> Option (Bool × PSt)) : Prop := PT X e (tTE (φ.fx X.K κ) f)
noncomputable abbrev QIV (X : Cx) (κ : Str -> Addr) (tg iter : Expr) (f : PSt -> Option (List D)) : Prop := PI X tg iter (tIV X.K κ f)
noncomputable abbrev QIP (X : Cx) (κ : Str -> Addr) (tg iter : Expr) (f : PSt -> Option (List D)) : Prop := PI X tg iter (tIP X.K κ f)
section
variable {X : Cx} {pos : Pos}
theorem zy5 {i : Nat} {x : Str} (hN : X.N.Nodup) (hi : X.N[i]? = some x) (hx : Loc X.env.scope x) (hf : X.fn x = true \/ X.env.scope.names.lookup x = some .local := by first | exact .inl rfl | exact .inr rfl | assumption) : PG X (.Name x pos) (yg2 i) := by with_unfolding_all exact L2.zy5 hN hi hx hf
end
section
variable {X : Cx} {pos : Pos}
theorem xd3 : PGs X [] wn5 := by with_unfolding_all exact L2.xd3
end
section
variable {X : Cx} {pos : Pos}
theorem yc6 {e : Expr} {es : List Expr} {t : TG} {u : TGs} (h1 : PG X e t) (h2 : PGs X es u)
    (hs : (assignEach (e :: es) X.env).map (·.2) = assign e X.env :: (assignEach es X.env).map (·.2) := by rfl) : PGs X (e :: es) (xz7 t u) := by with_unfolding_all exact L2.yc6 h1 h2 hs
end
section
variable {X : Cx} {κ : Str -> Addr} {e a b : Expr} {f fa fb : PSt -> Option D}
theorem QP.v (h : QP X κ e f) : QV X κ e f := by with_unfolding_all exact L2.QP.v h
end
section
variable {X : Cx} {κ : Str -> Addr} {e a b : Expr} {f fa fb : PSt -> Option D}
theorem QV.p (h : QV X κ e f) : QP X κ e (zb7 f) := by with_unfolding_all exact L2.QV.p h
end
section
variable {X : Cx} {κ : Str -> Addr} {e a b : Expr} {f fa fb : PSt -> Option D}
theorem za2 (i : Nat) {x : Str} {pos : Pos} (hN : X.N[i]? = some x := by rfl) (hv : Vis X.env.scope x := by first | exact Or.inl rfl | exact Or.inr (Or.inl rfl) | exact Or.inr (Or.inr rfl)) (hd : (x == ("__debug__" : Str)) = false := by decide)
    (hcd : (x == ("__classdict__" : Str)) = false := by decide) : QV X κ (.Name x pos) (za0 i) := by with_unfolding_all exact L2.za2 i hN hv hd hcd
end
section
variable {X : Cx} {κ : Str -> Addr} {e a b : Expr} {f fa fb : PSt -> Option D}
theorem za6 {i j pos} : QP X κ (.Constant (.int i) j pos) (fC (.int i)) := by with_unfolding_all exact L2.za6
end
section
variable {X : Cx} {κ : Str -> Addr} {e a b : Expr} {f fa fb : PSt -> Option D}
theorem ze2 {x j pos} : QP X κ (.Constant (.str x) j pos) (fC (.str x)) := by with_unfolding_all exact L2.ze2
end
section
variable {X : Cx} {κ : Str -> Addr} {e a b : Expr} {f fa fb : PSt -> Option D}
theorem zu7 {b j pos} : QP X κ (.Constant (.bool b) j pos) (fC (.bl b)) := by with_unfolding_all exact L2.zu7
end
section
variable {X : Cx} {κ : Str -> Addr} {e a b : Expr} {f fa fb : PSt -> Option D}
theorem yz1 {j pos} : QP X κ (.Constant .none j pos) (fC .non) := by with_unfolding_all exact L2.yz1
end
section
variable {X : Cx} {κ : Str -> Addr} {e a b : Expr} {f fa fb : PSt -> Option D}
theorem xd7 {x : Str} {v : V} {u : Value} {d : D} {pos : Pos} (hg : Gl X x) (hm : X.mg x = some u) (r : zg4 v u) (hd : ∀ H, Rep X.K κ H v d []) (hdb : (x == ("__debug__" : Str)) = false := by decide) : QP X κ (.Name x pos) (fC d) := by with_unfolding_all exact L2.xd7 hg hm r hd hdb
end
section
variable {X : Cx} {κ : Str -> Addr} {e a b : Expr} {f fa fb : PSt -> Option D}
theorem xw7 {x : Str} {n : String} {pos : Pos} (hg : Gl X x) (hm : X.mg x = none) (hv : bootBuiltins x = some (.type n)) (hn : x ≠ "__name__" := by decide) (hd : (x == ("__debug__" : Str)) = false := by decide) : QP X κ (.Name x pos) (fC (.ty n)) := by with_unfolding_all exact L2.xw7 hg hm hv hn hd
end
section
variable {X : Cx} {κ : Str -> Addr} {e a b : Expr} {f fa fb : PSt -> Option D}
theorem ze4 {op : Operator} {g : D -> D -> Option D} {pos : Pos} (ho : OpR X (binaryOp op) (POp X.K κ g)) (ha : QV X κ a fa) (hb : QV X κ b fb) : QP X κ (.BinOp a op b pos) (f2 g fa fb) := by with_unfolding_all exact L2.ze4 ho ha hb
end
section
variable {X : Cx} {κ : Str -> Addr} {e a b : Expr} {f fa fb : PSt -> Option D}
theorem yl0 {op : CmpOp} {g : D -> D -> Option D} {pos : Pos} (ho : OpR X (compareOp op) (POp X.K κ g)) (ha : QV X κ a fa) (hb : QV X κ b fb) (hm : behindInMarks op b = false) : QP X κ (.Compare a [op] [b] pos) (f2 g fa fb) := by with_unfolding_all exact L2.yl0 ho ha hb hm
end
section
variable {X : Cx} {κ : Str -> Addr} {e a b : Expr} {f fa fb : PSt -> Option D}
theorem zf7 {op : CmpOp} {g : D -> D -> Option D} {pos : Pos} (ho : OpR X (compareOp op) (POp X.K κ g)) (ha : QV X κ a fa) (hb : QV X κ b fb) (hm : behindInMarks op b = false) : QT X κ (.Compare a [op] [b] pos) (fB (f2 g fa fb)) := by with_unfolding_all exact L2.zf7 ho ha hb hm
end
section
variable {X : Cx} {κ : Str -> Addr} {e a b : Expr} {f fa fb : PSt -> Option D}
theorem zr8 (ha : QV X κ a fa) (he : ∀ whole, isTrue a X.env whole = (do let v <- whole; standAt a.pos; holding [v] (truthy v)) := by intro _; rfl) : QT X κ a (fT fa) := by with_unfolding_all exact L2.zr8 ha he
end
section
variable {X : Cx} {κ : Str -> Addr} {e a b : Expr} {f fa fb : PSt -> Option D}
variable {pos : Pos} {zc2 : List Expr} {ta tb : PSt -> Option Bool}
theorem zr5 (ha : QT X κ a ta) : QW X κ (.BoolOp .And [a] pos) ta := by with_unfolding_all exact L2.zr5 ha
end
section
variable {X : Cx} {κ : Str -> Addr} {e a b : Expr} {f fa fb : PSt -> Option D}
variable {pos : Pos} {zc2 : List Expr} {ta tb : PSt -> Option Bool}
theorem yz2 (ha : QT X κ a ta) : QW X κ (.BoolOp .Or [a] pos) ta := by with_unfolding_all exact L2.yz2 ha
end
section
variable {X : Cx} {κ : Str -> Addr} {e a b : Expr} {f fa fb : PSt -> Option D}
variable {pos : Pos} {zc2 : List Expr} {ta tb : PSt -> Option Bool}
theorem zs6 (ha : QT X κ a ta) (hb : QW X κ (.BoolOp .And (b :: zc2) pos) tb) : QW X κ (.BoolOp .And (a :: b :: zc2) pos) (zf6 ta tb) := by with_unfolding_all exact L2.zs6 ha hb
end
section
variable {X : Cx} {κ : Str -> Addr} {e a b : Expr} {f fa fb : PSt -> Option D}
variable {pos : Pos} {zc2 : List Expr} {ta tb : PSt -> Option Bool}
theorem xj8 (ha : QT X κ a ta) (hb : QW X κ (.BoolOp .Or (b :: zc2) pos) tb) : QW X κ (.BoolOp .Or (a :: b :: zc2) pos) (zk4 ta tb) := by with_unfolding_all exact L2.xj8 ha hb
end
section
variable {X : Cx} {κ : Str -> Addr} {e a b : Expr} {f fa fb : PSt -> Option D}
variable {pos : Pos} {zc2 : List Expr} {ta tb : PSt -> Option Bool}
theorem zz9 (h : QW X κ a ta) : QT X κ a ta := by with_unfolding_all exact L2.zz9 h
end
section
variable {X : Cx} {κ : Str -> Addr} {e a b : Expr} {f fa fb : PSt -> Option D}
variable {pos : Pos} {zc2 : List Expr} {ta tb : PSt -> Option Bool}
theorem ye7 (ha : QT X κ a ta) : QT X κ (.UnaryOp .Not a pos) (zi3 ta) := by with_unfolding_all exact L2.ye7 ha
end
section
variable {X : Cx} {κ : Str -> Addr} {e a b : Expr} {f fa fb : PSt -> Option D}
variable {pos : Pos} {zc2 : List Expr} {ta tb : PSt -> Option Bool}
theorem yz3 {op} (h : QP X κ a fa) : QP X κ (.BoolOp op [a] pos) fa := by with_unfolding_all exact L2.yz3 h
end
section
variable {X : Cx} {κ : Str -> Addr} {e a b : Expr} {f fa fb : PSt -> Option D}
variable {pos : Pos} {zc2 : List Expr} {ta tb : PSt -> Option Bool}
theorem xm0 (ha : QP X κ a fa) (hb : QP X κ (.BoolOp .And (b :: zc2) pos) fb) : QP X κ (.BoolOp .And (a :: b :: zc2) pos) (yo8 fa fb) := by with_unfolding_all exact L2.xm0 ha hb
end
section
variable {X : Cx} {κ : Str -> Addr} {e a b : Expr} {f fa fb : PSt -> Option D}
variable {pos : Pos} {zc2 : List Expr} {ta tb : PSt -> Option Bool}
theorem xw9 (ha : QP X κ a fa) (hb : QP X κ (.BoolOp .Or (b :: zc2) pos) fb) : QP X κ (.BoolOp .Or (a :: b :: zc2) pos) (fOr fa fb) := by with_unfolding_all exact L2.xw9 ha hb
end
section
variable {X : Cx} {κ : Str -> Addr} {e a b : Expr} {f fa fb : PSt -> Option D}
variable {pos : Pos} {zc2 : List Expr} {ta tb : PSt -> Option Bool}
theorem yb3 (ha : QV X κ a fa) : QP X κ (.UnaryOp .USub a pos) (zk2 fa) := by with_unfolding_all exact L2.yb3 ha
end
section
variable {X : Cx} {κ : Str -> Addr}
theorem zl1 : OpR X (binaryOp .Add) (POp X.K κ zc6) := by with_unfolding_all exact L2.zl1
end
section
variable {X : Cx} {κ : Str -> Addr}
theorem ym8 : OpR X (binaryOp .Sub) (POp X.K κ zm1) := by with_unfolding_all exact L2.ym8
end
section
variable {X : Cx} {κ : Str -> Addr}
theorem yi5 : OpR X (binaryOp .Mult) (POp X.K κ zp3) := by with_unfolding_all exact L2.yi5
end
section
variable {X : Cx} {κ : Str -> Addr}
theorem zp6 : OpR X (binaryOp .Mod) (POp X.K κ zl4) := by with_unfolding_all exact L2.zp6
end
section
variable {X : Cx} {κ : Str -> Addr}
theorem zz4 : OpR X (binaryOp .FloorDiv) (POp X.K κ zt3) := by with_unfolding_all exact L2.zz4
end
section
variable {X : Cx} {κ : Str -> Addr}
theorem yj9 (hu : X.A.units < cLine) : OpR X (compareOp .Lt) (POp X.K κ dLt) := by with_unfolding_all exact L2.yj9 hu
end
section
variable {X : Cx} {κ : Str -> Addr}
theorem xx1 : OpR X (compareOp .LtE) (POp X.K κ dLe) := by with_unfolding_all exact L2.xx1
end
section
variable {X : Cx} {κ : Str -> Addr}
theorem yw5 : OpR X (compareOp .Gt) (POp X.K κ dGt) := by with_unfolding_all exact L2.yw5
end
section
variable {X : Cx} {κ : Str -> Addr}
theorem xx2 : OpR X (compareOp .GtE) (POp X.K κ dGe) := by with_unfolding_all exact L2.xx2
end
section
variable {X : Cx} {κ : Str -> Addr}
theorem zl5 (hu : X.A.units + 64 < cLine) : OpR X (compareOp .Eq) (POp X.K κ dEq) := by with_unfolding_all exact L2.zl5 hu
end
section
variable {X : Cx} {κ : Str -> Addr}
theorem wj7 (hu : X.A.units + 64 < cLine) : OpR X (compareOp .NotEq) (POp X.K κ dNe) := by with_unfolding_all exact L2.wj7 hu
end
section
variable {X : Cx} {κ : Str -> Addr}
theorem wj9 : OpR X (compareOp .Is) (POp X.K κ dIs) := by with_unfolding_all exact L2.wj9
end
section
variable {X : Cx} {κ : Str -> Addr}
theorem wk0 : OpR X (compareOp .In) (POp X.K κ dIn) := by with_unfolding_all exact L2.wk0
end
section
variable {X : Cx} {κ : Str -> Addr} {e a b : Expr} {es : List Expr} {f fa fb : PSt -> Option D} {g : PSt -> Option (List D)} {pos p2 : Pos}
theorem zd4 : QVA X κ [] za3 := by with_unfolding_all exact L2.zd4
end
section
variable {X : Cx} {κ : Str -> Addr} {e a b : Expr} {es : List Expr} {f fa fb : PSt -> Option D} {g : PSt -> Option (List D)} {pos p2 : Pos}
theorem zb5 (ha : QV X κ e f) (hr : QVA X κ es g) (hs : starEach (e :: es) X.env = (false, eval e X.env) :: starEach es X.env := by rfl) : QVA X κ (e :: es) (za1 f g) := by with_unfolding_all exact L2.zb5 ha hr hs
end
section
variable {X : Cx} {κ : Str -> Addr} {e a b : Expr} {es : List Expr} {f fa fb : PSt -> Option D} {g : PSt -> Option (List D)} {pos p2 : Pos}
theorem ze1 : QPA X κ [] za3 := by with_unfolding_all exact L2.ze1
end
section
variable {X : Cx} {κ : Str -> Addr} {e a b : Expr} {es : List Expr} {f fa fb : PSt -> Option D} {g : PSt -> Option (List D)} {pos p2 : Pos}
theorem zb9 (ha : QP X κ e f) (hr : QPA X κ es g) (hs : starEach (e :: es) X.env = (false, eval e X.env) :: starEach es X.env := by rfl) : QPA X κ (e :: es) (za1 f g) := by with_unfolding_all exact L2.zb9 ha hr hs
end
section
variable {X : Cx} {κ : Str -> Addr} {e a b : Expr} {es : List Expr} {f fa fb : PSt -> Option D} {g : PSt -> Option (List D)} {pos p2 : Pos}
theorem zp0 {x1} (h : QPA X κ es g) : QP X κ (.Tuple es x1 pos) (zg7 g) := by with_unfolding_all exact L2.zp0 h
end
section
variable {X : Cx} {κ : Str -> Addr} {e a b : Expr} {es : List Expr} {f fa fb : PSt -> Option D} {g : PSt -> Option (List D)} {pos p2 : Pos}
theorem zj1 (h : QPA X κ es g) : QP X κ (.List es pos) (zd7 g) := by with_unfolding_all exact L2.zj1 h
end
section
variable {X : Cx} {κ : Str -> Addr} {e a b : Expr} {es : List Expr} {f fa fb : PSt -> Option D} {g : PSt -> Option (List D)} {pos p2 : Pos}
theorem zd1 (ha : QV X κ a fa) (hb : QV X κ b fb) (hs : yd4 b := by exact fun _ _ => rfl) : QV X κ (.Subscript a b pos) (f2 dIx fa fb) := by with_unfolding_all exact L2.zd1 ha hb hs
end
section
variable {X : Cx} {κ : Str -> Addr} {e a b : Expr} {es : List Expr} {f fa fb : PSt -> Option D} {g : PSt -> Option (List D)} {pos p2 : Pos}
theorem ye2 (ha : QP X κ a fa) (hb : QV X κ b fb) (hs : yd4 b := by exact fun _ _ => rfl) : QP X κ (.Subscript a b pos) (f2 dIx fa fb) := by with_unfolding_all exact L2.ye2 ha hb hs
end
section
variable {X : Cx} {κ : Str -> Addr} {e a b : Expr} {es : List Expr} {f fa fb : PSt -> Option D} {g : PSt -> Option (List D)} {pos p2 : Pos}
theorem zm4 {x : Str} {id : String} {p : Pos} {h : List D -> Option D} (hc : zk7 X (.builtin id) (PCl X.K κ h)) (hg : Gl X x) (hm : X.mg x = none) (hv : bootBuiltins x = some (.builtin id)) (ha : QVA X κ (e :: es) g) (hn : x ≠ "__name__" := by decide) (hdb : (x == ("__debug__" : Str)) = false := by decide)
    (hs : starEach (e :: es) X.env = (false, eval e X.env) :: starEach es X.env := by rfl) (hpl : (backTo pos (starEach es X.env)).any (·.1) = false := by rfl) : QP X κ (.Call (.Name x p) (e :: es) [] pos) (za7 h g) := by with_unfolding_all exact L2.zm4 hc hg hm hv ha hn hdb hs hpl
end
section
variable {X : Cx} {κ : Str -> Addr} {e a b : Expr} {es : List Expr} {f fa fb : PSt -> Option D} {g : PSt -> Option (List D)} {pos p2 : Pos}
theorem zr2 {x : Str} {T : String} {p : Pos} {h : List D -> Option D} (hc : zk7 X (.type T) (PCl X.K κ h)) (hg : Gl X x) (hm : X.mg x = none) (hv : bootBuiltins x = some (.type T)) (ha : QVA X κ (e :: es) g) (hn : x ≠ "__name__" := by decide) (hdb : (x == ("__debug__" : Str)) = false := by decide)
    (hs : starEach (e :: es) X.env = (false, eval e X.env) :: starEach es X.env := by rfl) (hpl : (backTo pos (starEach es X.env)).any (·.1) = false := by rfl) : QP X κ (.Call (.Name x p) (e :: es) [] pos) (za7 h g) := by with_unfolding_all exact L2.zr2 hc hg hm hv ha hn hdb hs hpl
end
section
variable {X : Cx} {κ : Str -> Addr} {e a b : Expr} {es : List Expr} {f fa fb : PSt -> Option D} {g : PSt -> Option (List D)} {pos p2 : Pos}
theorem zw2 : zk7 X (.builtin "len") (PCl X.K κ ze3) := by with_unfolding_all exact L2.zw2
end
section
variable {X : Cx} {κ : Str -> Addr} {e a b : Expr} {es : List Expr} {f fa fb : PSt -> Option D} {g : PSt -> Option (List D)} {pos p2 : Pos}
theorem xx3 : zk7 X (.builtin "isinstance") (PCl X.K κ ys5) := by with_unfolding_all exact L2.xx3
end
section
variable {X : Cx} {κ : Str -> Addr} {e a b : Expr} {es : List Expr} {f fa fb : PSt -> Option D} {g : PSt -> Option (List D)} {pos p2 : Pos}
theorem xm3 : zk7 X (.type "list") (PCl X.K κ yu6) := by with_unfolding_all exact L2.xm3
end
section
variable {X : Cx} {κ : Str -> Addr} {e a b : Expr} {es : List Expr} {f fa fb : PSt -> Option D} {g : PSt -> Option (List D)} {pos p2 : Pos}
theorem ya7 : zk7 X (.type "tuple") (PCl X.K κ zg1) := by with_unfolding_all exact L2.ya7
end
section
variable {X : Cx} {κ : Str -> Addr} {e a b : Expr} {es : List Expr} {f fa fb : PSt -> Option D} {g : PSt -> Option (List D)} {pos p2 : Pos}
theorem xx4 : zk7 X (.type "int") (PCl X.K κ yb8) := by with_unfolding_all exact L2.xx4
end
section
variable {X : Cx} {κ : Str -> Addr} {e a b : Expr} {es : List Expr} {f fa fb : PSt -> Option D} {g : PSt -> Option (List D)} {pos p2 : Pos}
theorem yz4 {name : Str} {id : String} {apos : Pos} {h : D -> List D -> Option D} (slot : Slot "str" name id) (hty : typeOf (.builtin id) = pure (.type "method_descriptor")) (hm : MtR X id (PMt X.K κ h)) (ho : QV X κ a fa) (ha : QVA X κ (e :: es) g)
    (hbase : attributeBase a name X.env (eval a X.env) = eval a X.env := by rfl)
    (hfew : ((backTo pos (starEach (e :: es) X.env)).all (fun x => !x.1) && (backToKw pos (keywordEach [] X.env)).all (fun x => x.1.isSome)
      && decide ((e :: es).length + ([] : List Keyword).length + (if ([] : List Keyword).isEmpty then 0 else 1) < 30)) = true := by rfl)
    (hline : (apos.endLine == pos.line) = true := by rfl) (hs : starEach (e :: es) X.env = (false, eval e X.env) :: starEach es X.env := by rfl) (hplain : (backTo pos (starEach es X.env)).any (·.1) = false := by rfl) :
    QP X κ (.Call (.Attribute a name apos) (e :: es) [] pos) (fMt h fa g) := by with_unfolding_all exact L2.yz4 slot hty hm ho ha hbase hfew hline hs hplain
end
section
variable {X : Cx} {κ : Str -> Addr} {e a b : Expr} {es : List Expr} {f fa fb : PSt -> Option D} {g : PSt -> Option (List D)} {pos p2 : Pos}
theorem xe0 : MtR X "str.split" (PMt X.K κ yb9) := by with_unfolding_all exact L2.xe0
end
section
variable {X : Cx} {κ : Str -> Addr} {e a b : Expr} {es : List Expr} {f fa fb : PSt -> Option D} {g : PSt -> Option (List D)} {pos p2 : Pos}
theorem yz5 : MtR X "str.join" (PMt X.K κ zv1) := by with_unfolding_all exact L2.yz5
end
section
variable {X : Cx} {κ : Str -> Addr} {φ : F0} {st : Stmt} {zc2 : List Stmt} {f g : PSt -> Option (Fl × PSt)} {pos : Pos}
theorem ze8 : QSs X κ φ [] zc1 := by with_unfolding_all exact L2.ze8
end
section
variable {X : Cx} {κ : Str -> Addr} {φ : F0} {st : Stmt} {zc2 : List Stmt} {f g : PSt -> Option (Fl × PSt)} {pos : Pos}
theorem zb3 (h : QS X κ φ st f) : QSs X κ φ [st] f := by with_unfolding_all exact L2.zb3 h
end
section
variable {X : Cx} {κ : Str -> Addr} {φ : F0} {st : Stmt} {zc2 : List Stmt} {f g : PSt -> Option (Fl × PSt)} {pos : Pos}
theorem zb0 (h1 : QS X κ φ st f) (h2 : QSs X κ φ zc2 g) : QSs X κ φ (st :: zc2) (za9 f g) := by with_unfolding_all exact L2.zb0 h1 h2
end
section
variable {X : Cx} {κ : Str -> Addr} {φ : F0} {st : Stmt} {zc2 : List Stmt} {f g : PSt -> Option (Fl × PSt)} {pos : Pos}
theorem yc7 : QS X κ φ st ym3 := by with_unfolding_all exact L2.yc7
end
section
variable {X : Cx} {κ : Str -> Addr} {φ : F0} {st : Stmt} {zc2 : List Stmt} {f g : PSt -> Option (Fl × PSt)} {pos : Pos}
theorem QP.e {e : Expr} {f : PSt -> Option D} (h : PE X e (tP X.K κ f)) : QE X κ φ e (za5 f) := by with_unfolding_all exact L2.QP.e h
end
section
variable {X : Cx} {κ : Str -> Addr} {φ : F0} {st : Stmt} {zc2 : List Stmt} {f g : PSt -> Option (Fl × PSt)} {pos : Pos}
theorem QT.e {e : Expr} {f : PSt -> Option Bool} (h : PT X e (tQ X.K κ f)) : QTE X κ φ e (za8 f) := by with_unfolding_all exact L2.QT.e h
end
section
variable {X : Cx} {κ : Str -> Addr} {φ : F0} {st : Stmt} {zc2 : List Stmt} {f g : PSt -> Option (Fl × PSt)} {pos : Pos}
theorem zf1 (i : Nat) {x : Str} {e : Expr} {pos' : Pos} {f : PSt -> Option (D × PSt)} (hN : X.N.Nodup) (hi : X.N[i]? = some x) (hx : Loc X.env.scope x) (hb : φ.bor i = false) (hm : φ.M i = false) (he : QE X κ φ e f) (hs : swapsWith e (some (.Name x pos')) pos.line X.env = pure false := by rfl) (hf : X.fn x = true \/ X.env.scope.names.lookup x = some .local := by first | exact .inl rfl | exact .inr rfl | assumption) :
    QS X κ φ (.Assign [.Name x pos'] e pos) (zb4 i f) := by with_unfolding_all exact L2.zf1 i hN hi hx hb hm he hs hf
end
section
variable {X : Cx} {κ : Str -> Addr} {φ : F0} {st : Stmt} {zc2 : List Stmt} {f g : PSt -> Option (Fl × PSt)} {pos : Pos}
theorem zl2 {e : Expr} {f : PSt -> Option (D × PSt)} (he : QE X κ φ e f) (hs : swapsWith e none pos.line X.env = pure false := by rfl) : QS X κ φ (.Expr e pos) (zc3 f) := by with_unfolding_all exact L2.zl2 he hs
end
section
variable {X : Cx} {κ : Str -> Addr} {φ : F0} {st : Stmt} {zc2 : List Stmt} {f g : PSt -> Option (Fl × PSt)} {pos : Pos}
theorem zg8 {e : Expr} {f : PSt -> Option (D × PSt)} (he : QE X κ φ e f) : QS X κ φ (.Return (some e) pos) (zd3 f) := by with_unfolding_all exact L2.zg8 he
end
section
variable {X : Cx} {κ : Str -> Addr} {φ : F0} {st : Stmt} {zc2 : List Stmt} {f g : PSt -> Option (Fl × PSt)} {pos : Pos}
theorem yl2 (i : Nat) {x : Str} {p : Pos} (hb : φ.bor i = false) (hN : X.N[i]? = some x := by rfl) (hv : Vis X.env.scope x := by first | exact Or.inl rfl | exact Or.inr (Or.inl rfl) | exact Or.inr (Or.inr rfl)) (hd : (x == ("__debug__" : Str)) = false := by decide)
    (hcd : (x == ("__classdict__" : Str)) = false := by decide) : QS X κ φ (.Return (some (.Name x p)) pos) (zi6 i) := by with_unfolding_all exact L2.yl2 i hb hN hv hd hcd
end
section
variable {X : Cx} {κ : Str -> Addr} {φ : F0} {st : Stmt} {zc2 : List Stmt} {f g : PSt -> Option (Fl × PSt)} {pos : Pos}
theorem zg5 {c : Expr} {a b : List Stmt} {tc : PSt -> Option (Bool × PSt)} (hc : QTE X κ φ c tc) (ha : QSs X κ φ a f) (hb : QSs X κ φ b g) : QS X κ φ (.If c a b pos) (fIf tc f g) := by with_unfolding_all exact L2.zg5 hc ha hb
end
section
variable {X : Cx} {φ : Fx} {pos : Pos} {body : List Stmt} {f : PSt -> Option (Fl × PSt)}
theorem yw7 {κ : Str -> Addr} {φ : F0} (n : Nat) {c : Expr} {tc : PSt -> Option (Bool × PSt)} (hp : PassesOwn (model X.prog X.w) X.A X.env X.xe) (hc : QTE X κ φ c tc) (hb : QSs X κ φ body f) : QS X κ φ (.While c body [] pos) (zv7 tc f n) := by with_unfolding_all exact L2.yw7 n hp hc hb
end
section
variable {X : Cx} {κ : Str -> Addr} {tg l a b : Expr} {f : PSt -> Option D} {g : PSt -> Option (List D)} {p pos : Pos}
theorem yi6 (hg : Gl X "range") (hm : X.mg "range" = none) (ha : QVA X κ [a] g) (hs : starEach [a] X.env = [(false, eval a X.env)] := by rfl) : QIP X κ tg (.Call (.Name "range" p) [a] [] pos) (zw4 g) := by with_unfolding_all exact L2.yi6 hg hm ha hs
end
section
variable {X : Cx} {κ : Str -> Addr} {tg l a b : Expr} {f : PSt -> Option D} {g : PSt -> Option (List D)} {p pos : Pos}
theorem yq9 (hg : Gl X "range") (hm : X.mg "range" = none) (ha : QVA X κ [a, b] g) (hs : starEach [a, b] X.env = [(false, eval a X.env), (false, eval b X.env)] := by rfl) (hs2 : starEach [b] X.env = [(false, eval b X.env)] := by rfl) : QIP X κ tg (.Call (.Name "range" p) [a, b] [] pos) (yu8 g) := by with_unfolding_all exact L2.yq9 hg hm ha hs hs2
end
section
variable {X : Cx} {κ : Str -> Addr} {tg l a b : Expr} {f : PSt -> Option D} {g : PSt -> Option (List D)} {p pos : Pos}
theorem xm4 (h : QV X κ l f) : QIV X κ tg l (zo7 f) := by with_unfolding_all exact L2.xm4 h
end
section
variable {X : Cx} {φ : Fx} {pos : Pos} {body : List Stmt} {f : PSt -> Option (Fl × PSt)}
theorem yr0 {κ : Str -> Addr} {φ : F0} (i : Nat) {x : Str} {px : Pos} {iter : Expr} {fi : PSt -> Option (List D)} (hp : PassesOwn (model X.prog X.w) X.A X.env X.xe) (hc : X.calm = true) (hN : X.N.Nodup) (hi : X.N[i]? = some x) (hx : Loc X.env.scope x) (hb : φ.bor i = false) (hm : φ.M i = false)
    (hit : PI X (.Name x px) iter (tIP X.K κ fi)) (hbd : QSs X κ φ body f) (hs : ∀ x, foldedSetIterable iter X.env x = pure x := by intro _; rfl) (hf : X.fn x = true \/ X.env.scope.names.lookup x = some .local := by first | exact .inl rfl | exact .inr rfl | assumption) :
    QS X κ φ (.For (.Name x px) iter body [] pos) (zq1 i fi f) := by with_unfolding_all exact L2.yr0 i hp hc hN hi hx hb hm hit hbd hs hf
end
section
variable {X : Cx} {φ : Fx} {pos : Pos} {body : List Stmt} {f : PSt -> Option (Fl × PSt)}
theorem yl3 {κ : Str -> Addr} {φ : F0} (i j : Nat) {x y : Str} {px py : Pos} (hp : PassesOwn (model X.prog X.w) X.A X.env X.xe) (hc : X.calm = true) (hN : X.N.Nodup) (hi : X.N[i]? = some x) (hx : Loc X.env.scope x) (hb : φ.bor i = false) (hm : φ.M i = false) (hj : φ.bor j = true)
    (hbd : QSs X κ φ body f) (hNj : X.N[j]? = some y := by rfl) (hv : Vis X.env.scope y := by first | exact Or.inl rfl | exact Or.inr (Or.inl rfl) | exact Or.inr (Or.inr rfl)) (hd : (y == ("__debug__" : Str)) = false := by decide)
    (hcd : (y == ("__classdict__" : Str)) = false := by decide) (hs : ∀ x, foldedSetIterable (.Name y py) X.env x = pure x := by intro _; rfl) (hf : X.fn x = true \/ X.env.scope.names.lookup x = some .local := by first | exact .inl rfl | exact .inr rfl | assumption) :
    QS X κ φ (.For (.Name x px) (.Name y py) body [] pos) (zq1 i (zo7 (za0 j)) f) := by with_unfolding_all exact L2.yl3 i j hp hc hN hi hx hb hm hj hbd hNj hv hd hcd hs hf
end
section
variable {P : Program} {w : World} {K : PySem.W.Frag} {mg : Str -> Option Value} {base : Heap} {κ : Str -> Addr}
theorem zm0 {x qual : Str} {st : Stmt} {f : Addr} {fd : FuncData} {N ps : List Str} {k : Nat} {fb : PSt -> Option (Fl × PSt)} (F : Fun K x qual st f fd) (S : FnScope N ps (zb1 st))
    (hbody : ∀ (cdv : Value) (A : Around) (outer : List Env) (s : Shared) (H : Hp) (E : XK) (B : Nat -> Addr -> Prop), Room k (A.deeper (envOfC qual (zb1 st) s.heap.objs.size f cdv)) ->
      QSs (yk3 CX0 P w K mg base N qual (zb1 st) f cdv A outer s H E).nox κ (f0P ps.length B) (zf2 st) fb) :
    FnOk P w K mg base CX0 (k + 1) f fd ps (SpP ps.length K κ (gP ps.length (N.length - ps.length) fb)) := by with_unfolding_all exact L2.zm0 F S hbody
end
section
variable {X : Cx} {κ : Str -> Addr} {e : Expr} {es : List Expr} {g : PSt -> Option (List D)} {pos p : Pos}
theorem zn1 {x : Str} {st : Stmt} {ps : List Str} {f : Addr} {fd : FuncData} {k np : Nat} {h : List D -> Option D} (Dd : Dn X.K X.mg x st ps f fd) (G : FnOk X.prog X.w X.K X.mg X.base CX0 k f fd ps (SpP np X.K κ h)) (hr : Room k X.A) (hg : Gl X x) (hnp : (e :: es).length = np) (ha : QVA X κ (e :: es) g)
    (hlen : ∀ ps ds, g ps = some ds -> ds.length = (e :: es).length)
    (hdb : (x == ("__debug__" : Str)) = false := by decide) (he : starEach (e :: es) X.env = (false, eval e X.env) :: starEach es X.env := by rfl) (hpl : (backTo pos (starEach es X.env)).any (·.1) = false := by rfl) :
    QP X κ (.Call (.Name x p) (e :: es) [] pos) (za7 h g) := by with_unfolding_all exact L2.zn1 Dd G hr hg hnp ha hlen hdb he hpl
end
section
variable {X : Cx} {κ : Str -> Addr} {e : Expr} {es : List Expr} {g : PSt -> Option (List D)} {pos p : Pos}
theorem xm6 {x : Str} {st : Stmt} {ps : List Str} {f : Addr} {fd : FuncData} {k : Nat} {h : List D -> Option D} (Dd : Dn X.K X.mg x st ps f fd) (G : FnOk X.prog X.w X.K X.mg X.base CX0 k f fd ps (SpP 0 X.K κ h)) (hr : Room k X.A) (hg : Gl X x)
    (hdb : (x == ("__debug__" : Str)) = false := by decide) : QP X κ (.Call (.Name x p) [] [] pos) (za7 h za3) := by with_unfolding_all exact L2.xm6 Dd G hr hg hdb
end
section
variable {X : Cx} {κ : Str -> Addr} {sc : Scope} {NX N : List Str} {pick : List (Option Nat)} {elt iter : Expr} {ifs : List Expr} {scope : Scope} {pos px : Pos} {x : Str} {fi : PSt -> Option (List D)} {ft : PSt -> Option Bool} {fe : PSt -> Option D}
theorem xe1 {X : Cx} : PTs X [] (tQ X.K κ yy1) := by with_unfolding_all exact L2.xe1
end
section
variable {X : Cx} {κ : Str -> Addr} {sc : Scope} {NX N : List Str} {pick : List (Option Nat)} {elt iter : Expr} {ifs : List Expr} {scope : Scope} {pos px : Pos} {x : Str} {fi : PSt -> Option (List D)} {ft : PSt -> Option Bool} {fe : PSt -> Option D}
theorem xe2 (S : CScope sc NX N pick scope) (hsc : X.env.scope = sc) (hNX : X.N = NX) (hc : X.calm = true) (hi : QIV X κ (.Name x px) iter fi)
    (hg : ∀ cl fp s H, PG (cxB X N scope cl fp s H) (.Name x px) (yg2 0)) (ht : ∀ cl fp s H, PTs (cxB X N scope cl fp s H) ifs (tQ X.K κ ft)) (he : ∀ cl fp s H, PE (cxB X N scope cl fp s H) elt (tP X.K κ fe))
    (hs : ∀ x, foldedSetIterable iter X.env x = pure x := by intro _; rfl) : QP X κ (.ListComp elt [⟨.Name x px, iter, ifs, 0⟩] scope pos) (xb9 pick fi ft fe) := by with_unfolding_all exact L2.xe2 S hsc hNX hc hi hg ht he hs
end
section
variable {X : Cx} {φ : F0} {κ : Str -> Addr} {K : PySem.W.Frag} {o e a b : Expr} {f fb fe : PSt -> Option D} {g : PSt -> Option (List D)} {pf : PSt -> Option (List Ps1)} {j : Nat} {pos apos : Pos}
theorem ze5 (j : Nat) {x : Str} (hN : X.N[j]? = some x := by rfl) (hv : Vis X.env.scope x := by first | exact Or.inl rfl | exact Or.inr (Or.inl rfl) | exact Or.inr (Or.inr rfl)) (hd : (x == ("__debug__" : Str)) = false := by decide)
    (hcd : (x == ("__classdict__" : Str)) = false := by decide) : PE X (.Name x pos) (zn9 K κ j zb6) := by with_unfolding_all exact L2.ze5 j hN hv hd hcd
end
section
variable {X : Cx} {φ : F0} {κ : Str -> Addr} {K : PySem.W.Frag} {o e a b : Expr} {f fb fe : PSt -> Option D} {g : PSt -> Option (List D)} {pf : PSt -> Option (List Ps1)} {j : Nat} {pos apos : Pos}
theorem zr9 (ha : PE X a (zn9 X.K κ j pf)) (hb : QV X κ b fb) (hs : yd4 b := by exact fun _ _ => rfl) : PE X (.Subscript a b pos) (zn9 X.K κ j (zh5 j pf fb)) := by with_unfolding_all exact L2.zr9 ha hb hs
end
section
variable {X : Cx} {φ : F0} {κ : Str -> Addr} {K : PySem.W.Frag} {o e a b : Expr} {f fb fe : PSt -> Option D} {g : PSt -> Option (List D)} {pf : PSt -> Option (List Ps1)} {j : Nat} {pos apos : Pos}
theorem yr1 {C fn : Str} (hc : Cls X.K (κ C)) (hna : zg9 X.K (κ C) fn) (ha : PE X a (zn9 X.K κ j pf)) (hb : attributeBase a fn X.env (eval a X.env) = eval a X.env := by rfl) : PE X (.Attribute a fn pos) (zn9 X.K κ j (zo0 j pf C fn)) := by with_unfolding_all exact L2.yr1 hc hna ha hb
end
section
variable {X : Cx} {φ : F0} {κ : Str -> Addr} {K : PySem.W.Frag} {o e a b : Expr} {f fb fe : PSt -> Option D} {g : PSt -> Option (List D)} {pf : PSt -> Option (List Ps1)} {j : Nat} {pos apos : Pos}
theorem zs7 (hb : φ.bor j = false) (ho : PE X o (zn9 X.K κ j pf)) (ha : PA X [e] (tPA X.K κ g))
    (hbase : attributeBase o "append" X.env (eval o X.env) = eval o X.env := by rfl)
    (hfew : ((backTo pos (starEach [e] X.env)).all (fun x => !x.1) && (backToKw pos (keywordEach [] X.env)).all (fun x => x.1.isSome)
      && decide ([e].length + ([] : List Keyword).length + (if ([] : List Keyword).isEmpty then 0 else 1) < 30)) = true := by rfl)
    (hline : (apos.endLine == pos.line) = true := by rfl) (hs : starEach [e] X.env = (false, eval e X.env) :: starEach [] X.env := by rfl) (hplain : (backTo pos (starEach [] X.env)).any (·.1) = false := by rfl) :
    QE X κ φ (.Call (.Attribute o "append" apos) [e] [] pos) (zc9 j pf g zc7) := by with_unfolding_all exact L2.zs7 hb ho ha hbase hfew hline hs hplain
end
section
variable {X : Cx} {φ : F0} {κ : Str -> Addr} {K : PySem.W.Frag} {o e a b : Expr} {f fi fe : PSt -> Option D} {g : PSt -> Option (List D)} {pf : PSt -> Option (List Ps1)} {j : Nat} {pos apos : Pos}
theorem xm8 (hb : φ.bor j = false) (ho : PE X o (zn9 X.K κ j pf))
    (hbase : attributeBase o "pop" X.env (eval o X.env) = eval o X.env := by rfl) (hline : (apos.endLine == pos.line) = true := by rfl) : QE X κ φ (.Call (.Attribute o "pop" apos) [] [] pos) (zc9 j pf za3 yi1) := by with_unfolding_all exact L2.xm8 hb ho hbase hline
end
section
variable {X : Cx} {φ : F0} {κ : Str -> Addr} {K : PySem.W.Frag} {o e a b : Expr} {f fi fe : PSt -> Option D} {g : PSt -> Option (List D)} {pf : PSt -> Option (List Ps1)} {j : Nat} {pos apos : Pos}
theorem zw7 {i : Expr} (hb : φ.bor j = false) (he : PE X e (tP X.K κ fe)) (ho : PE X o (zn9 X.K κ j pf)) (hi : PE X i (tV X.K κ fi)) (hs : swapsWithSole [.Subscript o i apos] e pos.line X.env = pure false := by rfl) (hw : swappedStores [.Subscript o i apos] e X.env = pure none := by rfl)
    (h1 : (assignEach [.Subscript o i apos] X.env).map (·.2) = [assign (.Subscript o i apos) X.env] := by rfl)
    (ha : ∀ v, assign (.Subscript o i apos) X.env v = (do
      let ov <- holding [v] (eval o X.env)
      let iv <- holding [v, ov] (eval i X.env)
      standAt apos
      holding [v, ov, iv] (setItem ov iv v)
      release [v, ov, iv] []) := by intro _; rfl) : QS X κ φ (.Assign [.Subscript o i apos] e pos) (zh7 j pf fi fe) := by with_unfolding_all exact L2.zw7 hb he ho hi hs hw h1 ha
end
section
variable {X : Cx} {κ : Str -> Addr} {φ : F0} {es : List Expr} {pos p : Pos} {k : Nat} {is : List Nat} {e : Expr} {f : PSt -> Option (D × PSt)}
theorem yr4 (hc : X.calm = true) (hg : PGs X es (xc0 is)) (he : QE X κ φ e f) (hb : ∀ i ∈ is, φ.bor i = false /\ φ.M i = false) (hn : (assignEach es X.env).length = is.length := by rfl) (hst : (assignEach es X.env).findIdx? (·.1) = none := by rfl)
    (hs : swapsWithSole [.Tuple es k p] e pos.line X.env = pure false := by rfl) (hw : swappedStores [.Tuple es k p] e X.env = pure none := by rfl)
    (h1 : (assignEach [.Tuple es k p] X.env).map (·.2) = [assign (.Tuple es k p) X.env] := by rfl) : QS X κ φ (.Assign [.Tuple es k p] e pos) (yp1 is f) := by with_unfolding_all exact L2.yr4 hc hg he hb hn hst hs hw h1
end
section
variable {P : Program} {w : World} {K : PySem.W.Frag} {mg : Str -> Option Value} {base : Heap} {κ : Str -> Addr}
theorem zy6 {x qual : Str} {st : Stmt} {f : Addr} {fd : FuncData} {N ps : List Str} {k : Nat} {fb : PSt -> Option (Fl × PSt)} {m : Nat -> Bool} (F : Fun K x qual st f fd) (S : FnScope N ps (zb1 st)) (hm : ∀ i, m i = true -> i < ps.length)
    (hbody : ∀ (cdv : Value) (A : Around) (outer : List Env) (s : Shared) (H : Hp) (E : XK), Room k (A.deeper (envOfC qual (zb1 st) s.heap.objs.size f cdv)) ->
      QSs (yk3 CX0 P w K mg base N qual (zb1 st) f cdv A outer s H E).nox κ (f0E ps.length m) (zf2 st) fb) :
    FnOk P w K mg base CX0 (k + 1) f fd ps (SpE ps.length K κ m (gE ps.length (N.length - ps.length) m fb)) := by with_unfolding_all exact L2.zy6 F S hm hbody
end
section
variable {X : Cx} {φ : F0} {κ : Str -> Addr} {e : Expr} {es : List Expr} {as : List L2.Arg} {f : PSt -> Option D} {pos p : Pos}
theorem zi4 : PA X [] (tIO X.K κ []) := by with_unfolding_all exact L2.zi4
end
section
variable {X : Cx} {φ : F0} {κ : Str -> Addr} {e : Expr} {es : List Expr} {as : List L2.Arg} {f : PSt -> Option D} {pos p : Pos}
theorem zp1 (j : Nat) {x : Str} (hr : PA X es (tIO X.K κ as)) (hN : X.N[j]? = some x := by rfl) (hv : Vis X.env.scope x := by first | exact Or.inl rfl | exact Or.inr (Or.inl rfl) | exact Or.inr (Or.inr rfl)) (hd : (x == ("__debug__" : Str)) = false := by decide)
    (hcd : (x == ("__classdict__" : Str)) = false := by decide) (hs : starEach (.Name x pos :: es) X.env = (false, eval (.Name x pos) X.env) :: starEach es X.env := by rfl) : PA X (.Name x pos :: es) (tIO X.K κ (.io j :: as)) := by with_unfolding_all exact L2.zp1 j hr hN hv hd hcd hs
end
section
variable {X : Cx} {φ : F0} {κ : Str -> Addr} {e : Expr} {es : List Expr} {as : List L2.Arg} {f : PSt -> Option D} {pos p : Pos}
theorem zd9 (ha : QV X κ e f) (hr : PA X es (tIO X.K κ as)) (hs : starEach (e :: es) X.env = (false, eval e X.env) :: starEach es X.env := by rfl) : PA X (e :: es) (tIO X.K κ (.im f :: as)) := by with_unfolding_all exact L2.zd9 ha hr hs
end
section
variable {X : Cx} {φ : F0} {κ : Str -> Addr} {e : Expr} {es : List Expr} {as : List L2.Arg} {f : PSt -> Option D} {pos p : Pos}
theorem zs9 {x : Str} {st : Stmt} {ps : List Str} {fa : Addr} {fd : FuncData} {k np : Nat} {m : Nat -> Bool} {g : List D -> Option (D × List D)} (Dd : Dn X.K X.mg x st ps fa fd) (G : FnOk X.prog X.w X.K X.mg X.base CX0 k fa fd ps (SpE np X.K κ m g)) (hr : Room k X.A) (hg : Gl X x) (ha : PA X (e :: es) (tIO X.K κ as))
    (hnp : np = as.length) (hm : m = zx6 as) (nd : (slots as).Nodup) (hb : ∀ j ∈ slots as, φ.bor j = false)
    (hdb : (x == ("__debug__" : Str)) = false := by decide) (he : starEach (e :: es) X.env = (false, eval e X.env) :: starEach es X.env := by rfl) (hpl : (backTo pos (starEach es X.env)).any (·.1) = false := by rfl) :
    QE X κ φ (.Call (.Name x p) (e :: es) [] pos) (fIO as g) := by with_unfolding_all exact L2.zs9 Dd G hr hg ha hnp hm nd hb hdb he hpl
end
section
theorem zv0 {X : Cx} {κ : Str -> Addr} {es : List Expr} {ds : List D} (h : AreD es ds) : QPA X κ es (fKs ds) := by with_unfolding_all exact L2.zv0 h
end
section
variable {X : Cx} {κ : Str -> Addr} {o e : Expr} {C fn : Str} {fo : PSt -> Option D} {pos : Pos}
theorem zm7 (hc : Cls X.K (κ C)) (hna : zg9 X.K (κ C) fn) (ho : QV X κ o fo) (hb : attributeBase o fn X.env (eval o X.env) = eval o X.env := by rfl) : QV X κ (.Attribute o fn pos) (zi8 C fn fo) := by with_unfolding_all exact L2.zm7 hc hna ho hb
end
section
variable {X : Cx} {κ : Str -> Addr} {φ : F0} {o e : Expr} {C fn : Str} {j : Nat} {pf : PSt -> Option (List Ps1)} {fe : PSt -> Option D} {pos pos' : Pos}
theorem zr3 (hc : Cls X.K (κ C)) (hna : zg9 X.K (κ C) fn) (hb : φ.bor j = false) (he : PE X e (tP X.K κ fe)) (ho : PE X o (zn9 X.K κ j pf)) (hs : swapsWith e (some (.Attribute o fn pos')) pos.line X.env = pure false := by rfl) :
    QS X κ φ (.Assign [.Attribute o fn pos'] e pos) (zh4 j pf C fn fe) := by with_unfolding_all exact L2.zr3 hc hna hb he ho hs
end
section
variable {X : Cx} {κ : Str -> Addr} {o e : Expr} {es : List Expr} {C m qual : Str} {st : Stmt} {ps : List Str} {f : Addr} {fd : FuncData} {k np : Nat} {h : List D -> Option D} {fo : PSt -> Option D} {g : PSt -> Option (List D)} {apos pos p : Pos} {pl : Sem Bool}
theorem yx0 (M : Mn X.K κ C m qual st ps f fd) (G : FnOk X.prog X.w X.K X.mg X.base CX0 k f fd ps (SpP 1 X.K κ h)) (hr : Room k X.A) (ho : QV X κ o fo)
    (ht : eval (.Call (.Attribute o m apos) [] [] pos) X.env = (do
      let ov <- eval o X.env
      standAt apos.atName
      let (f, first) <- holding [ov] (getMethod ov m pl)
      callWith pos f first (backTo pos (starEach [] X.env)) (backToKw pos (keywordEach [] X.env))) := by rfl) :
    QP X κ (.Call (.Attribute o m apos) [] [] pos) (za7 h (za1 (zm3 C m fo) za3)) := by with_unfolding_all exact L2.yx0 M G hr ho ht
end
section
variable {X : Cx} {κ : Str -> Addr} {φ : F0} {o e : Expr} {es : List Expr} {C m qual : Str} {st : Stmt} {ps : List Str} {f : Addr} {fd : FuncData} {k np j : Nat} {mk : Nat -> Bool} {g : List D -> Option (D × List D)} {pf : PSt -> Option (List Ps1)} {as : List L2.Arg} {apos pos p : Pos} {pl : Sem Bool}
theorem yc9 (M : Mn X.K κ C m qual st ps f fd) (G : FnOk X.prog X.w X.K X.mg X.base CX0 k f fd ps (SpE np X.K κ mk g)) (hr : Room k X.A) (hb : φ.bor j = false) (ho : PE X o (zn9 X.K κ j pf)) (ha : PA X (e :: es) (tIO X.K κ as)) (has : yu9 as = true) (hnp : np = as.length + 1) (hm : mk = zz1)
    (hst : starEach (e :: es) X.env = (false, eval e X.env) :: starEach es X.env := by rfl) (hpl : (backTo pos (starEach es X.env)).any (·.1) = false := by rfl)
    (ht : eval (.Call (.Attribute o m apos) (e :: es) [] pos) X.env = (do
      let ov <- eval o X.env
      standAt apos.atName
      let (f, first) <- holding [ov] (getMethod ov m pl)
      callWith pos f first (backTo pos (starEach (e :: es) X.env)) (backToKw pos (keywordEach [] X.env))) := by rfl) :
    QE X κ φ (.Call (.Attribute o m apos) (e :: es) [] pos) (zc9 j pf (zc4 as) (zo8 C m g)) := by with_unfolding_all exact L2.yc9 M G hr hb ho ha has hnp hm hst hpl ht
end
section
variable {X : Cx} {κ : Str -> Addr} {e : Expr} {es : List Expr} {C qual : Str} {st : Stmt} {ps : List Str} {f : Addr} {fd : FuncData} {k np : Nat} {mk : Nat -> Bool} {g : List D -> Option (D × List D)} {as : List L2.Arg} {pos p : Pos}
theorem yg7 (Kd : Kn X.K X.mg κ C qual st ps f fd) (G : FnOk X.prog X.w X.K X.mg X.base CX0 k f fd ps (SpE np X.K κ mk g)) (hr : Room (k + 1) X.A) (hg : Gl X C) (ha : PA X (e :: es) (tIO X.K κ as)) (has : yu9 as = true) (hnp : np = as.length + 1) (hm : mk = zz1)
    (hdb : (C == ("__debug__" : Str)) = false := by decide) (he : starEach (e :: es) X.env = (false, eval e X.env) :: starEach es X.env := by rfl) (hpl : (backTo pos (starEach es X.env)).any (·.1) = false := by rfl) :
    QP X κ (.Call (.Name C p) (e :: es) [] pos) (zj6 C (zc4 as) g) := by with_unfolding_all exact L2.yg7 Kd G hr hg ha has hnp hm hdb he hpl
end
section
variable {X : Cx} {κ : Str -> Addr}
theorem yh3 : MtR X "str.startswith" (PMt X.K κ zz3) := by with_unfolding_all exact L2.yh3
end
section
theorem yr6 {X : Cx} {κ : Str -> Addr} {e : Expr} {f : PSt -> Option D} (h : QP X κ e f) : QP X κ e (yd7 f) := by with_unfolding_all exact L2.yr6 h
end
section
variable {X : Cx} {κ : Str -> Addr}
theorem xe6 : MtR X "str.rfind" (PMt X.K κ ys6) := by with_unfolding_all exact L2.xe6
end
section
variable {X : Cx} {κ : Str -> Addr} {φ : F0} {a b : Expr} {pos : Pos}
theorem yl5 {f : PSt -> Option (Bool × PSt)} (h : QTE X κ φ a f) : QTE X κ φ (.UnaryOp .Not a pos) (zz5 f) := by with_unfolding_all exact L2.yl5 h
end
section
variable {X : Cx} {κ : Str -> Addr} {φ : F0} {a b : Expr} {pos : Pos}
theorem yg8 {f : PSt -> Option (D × PSt)} (h : QE X κ φ a f) (he : ∀ whole, isTrue a X.env whole = (do let v <- whole; standAt a.pos; holding [v] (truthy v)) := by intro _; rfl) : QTE X κ φ a (fTE f) := by with_unfolding_all exact L2.yg8 h he
end
section
variable {X : Cx} {κ : Str -> Addr} {φ : F0} {a b : Expr} {pos : Pos}
theorem xa2 {op : CmpOp} {g : D -> D -> Option D} {fa : PSt -> Option (D × PSt)} {fb : PSt -> Option D} (ho : OpR X (compareOp op) (POp X.K κ g)) (ha : QE X κ φ a fa) (hb : QV X κ b fb) (hm : behindInMarks op b = false) : QE X κ φ (.Compare a [op] [b] pos) (fE2 g fa fb) := by with_unfolding_all exact L2.xa2 ho ha hb hm
end
section
variable {X : Cx} {κ : Str -> Addr} {φ : F0} {a b o e : Expr} {es zc2 : List Expr} {pos apos p : Pos} {j : Nat} {pf : PSt -> Option (List Ps1)}
theorem yr7 {op : Operator} {g : D -> D -> Option D} {fa : PSt -> Option D} {fb : PSt -> Option (D × PSt)} (ho : OpR X (binaryOp op) (POp X.K κ g)) (ha : QV X κ a fa) (hb : QE X κ φ b fb) : QE X κ φ (.BinOp a op b pos) (yy2 g fa fb) := by with_unfolding_all exact L2.yr7 ho ha hb
end
section
variable {X : Cx} {κ : Str -> Addr} {φ : F0} {a b o e : Expr} {es zc2 : List Expr} {pos apos p : Pos} {j : Nat} {pf : PSt -> Option (List Ps1)}
theorem xn4 {op} {fa : PSt -> Option (D × PSt)} (h : QE X κ φ a fa) : QE X κ φ (.BoolOp op [a] pos) fa := by with_unfolding_all exact L2.xn4 h
end
section
variable {X : Cx} {κ : Str -> Addr} {φ : F0} {a b o e : Expr} {es zc2 : List Expr} {pos apos p : Pos} {j : Nat} {pf : PSt -> Option (List Ps1)}
theorem xx8 {fa : PSt -> Option D} {fb : PSt -> Option (D × PSt)} (ha : QP X κ a fa) (hb : QE X κ φ (.BoolOp .Or (b :: zc2) pos) fb) : QE X κ φ (.BoolOp .Or (a :: b :: zc2) pos) (xg1 fa fb) := by with_unfolding_all exact L2.xx8 ha hb
end
section
variable {X : Cx} {κ : Str -> Addr} {φ : F0} {a b o e : Expr} {es zc2 : List Expr} {pos apos p : Pos} {j : Nat} {pf : PSt -> Option (List Ps1)}
theorem yt9 {g : PSt -> Option (List D)} (hb : φ.bor j = false) (ho : PE X o (zn9 X.K κ j pf)) (ha : PA X [e] (tVA X.K κ g))
    (hbase : attributeBase o "pop" X.env (eval o X.env) = eval o X.env := by rfl)
    (hfew : ((backTo pos (starEach [e] X.env)).all (fun x => !x.1) && (backToKw pos (keywordEach [] X.env)).all (fun x => x.1.isSome)
      && decide ([e].length + ([] : List Keyword).length + (if ([] : List Keyword).isEmpty then 0 else 1) < 30)) = true := by rfl)
    (hline : (apos.endLine == pos.line) = true := by rfl) (hs : starEach [e] X.env = (false, eval e X.env) :: starEach [] X.env := by rfl) (hplain : (backTo pos (starEach [] X.env)).any (·.1) = false := by rfl) :
    QE X κ φ (.Call (.Attribute o "pop" apos) [e] [] pos) (zc9 j pf g yp2) := by with_unfolding_all exact L2.yt9 hb ho ha hbase hfew hline hs hplain
end
section
variable {X : Cx} {κ : Str -> Addr} {φ : F0} {a b o e : Expr} {es zc2 : List Expr} {pos apos p : Pos} {j : Nat} {pf : PSt -> Option (List Ps1)}
theorem xn5 {x : Str} {st : Stmt} {ps : List Str} {fa : Addr} {fd : FuncData} {k np : Nat} {m : Nat -> Bool} {h : List D -> Option (D × List D)} {g : PSt -> Option (List D)} (Dd : Dn X.K X.mg x st ps fa fd) (G : FnOk X.prog X.w X.K X.mg X.base CX0 k fa fd ps (SpE np X.K κ m h)) (hr : Room k X.A) (hg : Gl X x) (hm : m = yp3 np) (hnp : (e :: es).length = np) (ha : QPA X κ (e :: es) g)
    (hlen : ∀ ps ds, g ps = some ds -> ds.length = (e :: es).length)
    (hdb : (x == ("__debug__" : Str)) = false := by decide) (he : starEach (e :: es) X.env = (false, eval e X.env) :: starEach es X.env := by rfl) (hpl : (backTo pos (starEach es X.env)).any (·.1) = false := by rfl) :
    QP X κ (.Call (.Name x p) (e :: es) [] pos) (ym4 h g) := by with_unfolding_all exact L2.xn5 Dd G hr hg hm hnp ha hlen hdb he hpl
end
section
variable {X : Cx} {κ : Str -> Addr} {φ : F0} {a b o e : Expr} {es zc2 : List Expr} {pos apos p : Pos} {j : Nat} {pf : PSt -> Option (List Ps1)}
theorem xe7 (i : Nat) {x y z : Str} {j1 j2 : Nat} {p1 p2 p0 : Pos} (hN : X.N[i]? = some x := by rfl) (hv : Vis X.env.scope x := by first | exact Or.inl rfl | exact Or.inr (Or.inl rfl) | exact Or.inr (Or.inr rfl)) (hd : (x == ("__debug__" : Str)) = false := by decide)
    (hcd : (x == ("__classdict__" : Str)) = false := by decide)
    (hbase : attributeBase (.Name x p0) "replace" X.env (eval (.Name x p0) X.env) = eval (.Name x p0) X.env := by rfl)
    (hfew : ((backTo pos (starEach [.Constant (.str y) j1 p1, .Constant (.str z) j2 p2] X.env)).all (fun x => !x.1) && (backToKw pos (keywordEach [] X.env)).all (fun x => x.1.isSome)
      && decide (([.Constant (.str y) j1 p1, .Constant (.str z) j2 p2] : List Expr).length + ([] : List Keyword).length + (if ([] : List Keyword).isEmpty then 0 else 1) < 30)) = true := by rfl)
    (hline : (apos.endLine == pos.line) = true := by rfl)
    (hs : starEach [.Constant (.str y) j1 p1, .Constant (.str z) j2 p2] X.env = [(false, eval (.Constant (.str y) j1 p1) X.env), (false, eval (.Constant (.str z) j2 p2) X.env)] := by rfl) :
    PEk X (.Call (.Attribute (.Name x p0) "replace" apos) [.Constant (.str y) j1 p1, .Constant (.str z) j2 p2] [] pos) (tP X.K κ (ye4 i y z)) := by with_unfolding_all exact L2.xe7 i hN hv hd hcd hbase hfew hline hs
end
section
variable {X : Cx} {κ : Str -> Addr} {φ : F0} {a b o e : Expr} {es zc2 : List Expr} {pos apos p : Pos} {j : Nat} {pf : PSt -> Option (List Ps1)}
theorem xy0 {es : List Expr} {fa : PSt -> Option D} {g : PSt -> Option (List D)} {name : Str} {id : String} {h : D -> List D -> Option D} (slot : Slot "str" name id) (hty : typeOf (.builtin id) = pure (.type "method_descriptor")) (hm : MtR X id (PMt X.K κ h)) (ho : PEk X a (tP X.K κ fa)) (ha : QVA X κ (e :: es) g)
    (hbase : attributeBase a name X.env (eval a X.env) = eval a X.env := by rfl)
    (hfew : ((backTo pos (starEach (e :: es) X.env)).all (fun x => !x.1) && (backToKw pos (keywordEach [] X.env)).all (fun x => x.1.isSome)
      && decide ((e :: es).length + ([] : List Keyword).length + (if ([] : List Keyword).isEmpty then 0 else 1) < 30)) = true := by rfl)
    (hline : (apos.endLine == pos.line) = true := by rfl) (hs : starEach (e :: es) X.env = (false, eval e X.env) :: starEach es X.env := by rfl) (hplain : (backTo pos (starEach es X.env)).any (·.1) = false := by rfl) :
    PEk X (.Call (.Attribute a name apos) (e :: es) [] pos) (tP X.K κ (fMt h fa g)) := by with_unfolding_all exact L2.xy0 slot hty hm ho ha hbase hfew hline hs hplain
end
section
variable {X : Cx} {κ : Str -> Addr} {φ : F0} {a b o e : Expr} {es zc2 : List Expr} {pos apos p : Pos} {j : Nat} {pf : PSt -> Option (List Ps1)}
theorem yx1 {z : Str} {j1 : Nat} {p1 : Pos} {f : PSt -> Option D} (he : PEk X e (tP X.K κ f))
    (hbase : attributeBase (.Constant (.str z) j1 p1) "join" X.env (eval (.Constant (.str z) j1 p1) X.env) = eval (.Constant (.str z) j1 p1) X.env := by rfl)
    (hfew : ((backTo pos (starEach [e] X.env)).all (fun x => !x.1) && (backToKw pos (keywordEach [] X.env)).all (fun x => x.1.isSome)
      && decide ([e].length + ([] : List Keyword).length + (if ([] : List Keyword).isEmpty then 0 else 1) < 30)) = true := by rfl)
    (hline : (apos.endLine == pos.line) = true := by rfl) (hs : starEach [e] X.env = [(false, eval e X.env)] := by rfl) :
    QP X κ (.Call (.Attribute (.Constant (.str z) j1 p1) "join" apos) [e] [] pos) (fMt zv1 (fC (.str z)) (za1 f za3)) := by with_unfolding_all exact L2.yx1 he hbase hfew hline hs
end
end L3
namespace L3
open PySem PySem.Spec PyProof.Rows L2
noncomputable def top (i : Nat) : Stmt := PySem.Challenge.pw_linepress_k14_words_kept.main.body.getD i (.Pass ⟨0, 0, 0, 0⟩)
end L3
namespace My
open PySem PySem.Spec PyProof.Rows L2 L3
variable {P : Program} {w : World} {K : PySem.W.Frag} {mg : Str -> Option Value} {base : Heap} {κ : Str -> Addr}
inductive Leaf where
  | word (x : Str) | gap (x : Str) | stop (c : Int) | fin
inductive Tk where
  | leaf (l : Leaf) | opn | cls | hng (n : Int) | bck | eit | orr | don
inductive Pc where
  | leaf (l : Leaf) | group (r : List Pc) | hang (n : Int) (r : List Pc) | either (rs : List (List Pc))
mutual
noncomputable def zh2 : Pc -> List Tk
  | .leaf l => [.leaf l]
  | .group r => .opn :: (zd6 r ++ [.cls])
  | .hang n r => .hng n :: (zd6 r ++ [.bck])
  | .either rs => .eit :: (yd8 rs ++ [.don])
noncomputable def zd6 : List Pc -> List Tk
  | [] => []
  | p :: r => zh2 p ++ zd6 r
noncomputable def yd8 : List (List Pc) -> List Tk
  | [] => []
  | r :: rs => zd6 r ++ zj5 rs
noncomputable def zj5 : List (List Pc) -> List Tk
  | [] => []
  | r :: rs => .orr :: (zd6 r ++ zj5 rs)
end
theorem yh4 : ∀ r s : List Pc, zd6 (r ++ s) = zd6 r ++ zd6 s
  | [], s => rfl
  | p :: r, s => by
    show zh2 p ++ zd6 (r ++ s) = (zh2 p ++ zd6 r) ++ zd6 s
    rw [yh4 r s, List.append_assoc]
theorem we3 (p : Pc) : zd6 [p] = zh2 p := by
  show zh2 p ++ [] = zh2 p
  rw [List.append_nil]
noncomputable def wp1 : List (List Pc) -> List Tk
  | [] => []
  | r :: rs => zd6 r ++ .orr :: wp1 rs
structure Fm where
  op : Option Tk
  full : List (List Pc)
  parts : List Pc
noncomputable def opT : Option Tk -> List Tk
  | none => []
  | some t => [t]
noncomputable def flat : List Fm -> List Tk
  | [] => []
  | f :: fs => flat fs ++ (opT f.op ++ (wp1 f.full ++ zd6 f.parts))
noncomputable def put (f : Fm) (p : Pc) : Fm := { f with parts := f.parts ++ [p] }
noncomputable def step : List Fm -> Tk -> Option (List Fm)
  | f :: fs, .leaf l => some (put f (.leaf l) :: fs)
  | fs, .opn => some (⟨some .opn, [], []⟩ :: fs)
  | fs, .hng n => some (⟨some (.hng n), [], []⟩ :: fs)
  | fs, .eit => some (⟨some .eit, [], []⟩ :: fs)
  | ⟨some .eit, full, parts⟩ :: fs, .orr => some (⟨some .eit, full ++ [parts], []⟩ :: fs)
  | ⟨some .opn, _, parts⟩ :: g :: fs, .cls => some (put g (.group parts) :: fs)
  | ⟨some (.hng n), _, parts⟩ :: g :: fs, .bck => some (put g (.hang n parts) :: fs)
  | ⟨some .eit, full, parts⟩ :: g :: fs, .don => if full = [] then none else some (put g (.either (full ++ [parts])) :: fs)
  | _, _ => none
noncomputable def Fm.ok (f : Fm) : Prop := f.op ≠ some .eit -> f.full = []
noncomputable def run (fs : List Fm) : List Tk -> Option (List Fm)
  | [] => some fs
  | t :: ts => (step fs t).bind fun fs' => run fs' ts
mutual
noncomputable def zn0 : Pc -> Nat
  | .leaf _ => 0
  | .group r => zh8 r + 1
  | .hang _ r => zh8 r + 1
  | .either rs => zw5 rs + 1
noncomputable def zh8 : List Pc -> Nat
  | [] => 0
  | p :: r => max (zn0 p) (zh8 r)
noncomputable def zw5 : List (List Pc) -> Nat
  | [] => 0
  | r :: rs => max (zh8 r) (zw5 rs)
end
theorem yr8 : ∀ (r : List Pc) (p : Pc), zh8 (r ++ [p]) = max (zh8 r) (zn0 p)
  | [], p => by
    exact Nat.max_comm (zn0 p) 0
  | q :: r, p => by
    show max (zn0 q) (zh8 (r ++ [p])) = max (max (zn0 q) (zh8 r)) (zn0 p)
    rw [yr8 r p, Nat.max_assoc]
theorem yn3 : ∀ (rs : List (List Pc)) (r : List Pc), zw5 (rs ++ [r]) = max (zw5 rs) (zh8 r)
  | [], r => by
    exact Nat.max_comm (zh8 r) 0
  | q :: rs, r => by
    show max (zh8 q) (zw5 (rs ++ [r])) = max (max (zh8 q) (zw5 rs)) (zh8 r)
    rw [yn3 rs r, Nat.max_assoc]
noncomputable def yp4 (c : Nat) : Bool := decide (33 <= c) && decide (c <= 126)
noncomputable def xc1 (z : Str) : Prop := 1 <= z.length /\ z.length <= 12 /\ z.cps.toList.all yp4 = true
noncomputable def zs1 : Leaf -> Prop
  | .word x => xc1 x
  | .gap x => x = "" \/ x = " "
  | .stop c => 0 <= c /\ c <= 40
  | .fin => True
end My
namespace My
open PySem PySem.Spec PyProof.Rows L2 L3
variable {P : Program} {w : World} {K : PySem.W.Frag} {mg : Str -> Option Value} {base : Heap} {κ : Str -> Addr}
noncomputable def yf2 (ns : List Int) (k : Int) : Int := ns.getD (k % (ns.length : Int)).toNat 0
noncomputable def xc2 (ns : List Int) (k : Int) : Int := k / (if (ns.length : Int) > 1 then (ns.length : Int) else 1)
noncomputable def wz5 (ns : List Int) (k salt : Int) : Int := PySem.Builtin.bitAnd (yf2 ns k) 2147483647 + 1009 * k * k + 7919 * salt * salt + 12
noncomputable def yv0 (ns : List Int) (k salt : Int) : Int := wz5 ns k salt * 48271 % 2147483647
noncomputable def wp2 (ns : List Int) (k salt : Int) : Int := yv0 ns k salt * yv0 ns k salt % 2147483629
noncomputable def yp5 (ns : List Int) (k salt : Int) : Int := PySem.Builtin.bitAnd (yf2 ns k / 2 ^ (31 * (salt + 128 * xc2 ns k)).toNat + wp2 ns k salt) 2147483647
theorem xq9 (ns : List Int) (k salt : Int) : 0 <= yp5 ns k salt /\ yp5 ns k salt < 2147483648 := by
  have e : yp5 ns k salt = (yf2 ns k / 2 ^ (31 * (salt + 128 * xc2 ns k)).toNat + wp2 ns k salt) % 2147483648 := PySem.W.kbt_mask _ 31
  rw [e]
  exact ⟨Int.emod_nonneg _ (by decide), Int.emod_lt_of_pos _ (by decide)⟩
noncomputable def xp9 (K : PySem.W.Frag) : Sp := fun vs H Q _ => ∃ (a : Addr) (ns : List Int) (k : Int), vs = [.ref a, .int k] /\ SqL K H a (ns.map V.int) /\ Q (.int (yf2 ns k)) H
noncomputable def xu7 (K : PySem.W.Frag) : Sp := fun vs H Q _ => ∃ (a : Addr) (ns : List Int) (k salt : Int), vs = [.ref a, .int k, .int salt] /\ SqL K H a (ns.map V.int) /\ ns.length <= 63 /\ (0 <= k /\ k < 1000000) /\ (0 <= salt /\ salt < 1000000) /\ Q (.int (yp5 ns k salt)) H
noncomputable abbrev zp4 : Stmt := top 18
theorem xn6 : FnScope ["_law_script", "_law_k"] ["_law_script", "_law_k"] (zb1 zp4) := ⟨rfl, rfl, rfl, by decide +kernel, rfl, by decide +kernel, by decide +kernel⟩
theorem xn7 {n : Nat} {f : Addr} {fd : FuncData} (D : Dn K mg "_law_cell_at" zp4 ["_law_script", "_law_k"] f fd) (z_len : mg "len" = none) :
    FnOk P w K mg base CX0 (n + 1) f fd ["_law_script", "_law_k"] (xp9 K) := by
  refine D.F.ok xn6 (fun vs H Q E h => ?_) (fun cdv A outer s H vs Q E hr h => ?_)
  . obtain ⟨a, ns, k, rfl, _⟩ := h
    rfl
  obtain ⟨a, ns, k, rfl, hS, q⟩ := h
  refine ⟨_, (zz8 (wo1 (xs1 xv3 (yh1 zu1 rfl z_len boot_len (zo1 (pv 0) yb1)) zr7 (ze9 _)) (yt3 (yq5 zr7)) xr5)
    (yt3 (yq5 (xj5 xd5 (pv 0) (zn6 yy5 (pv 1) (yh1 zu1 rfl z_len boot_len (zo1 (pv 0) yb1))) (fun _ _ => rfl))))), ?_⟩
  have hl : (ns.map V.int).length = ns.length := List.length_map _
  refine ⟨_, rfl, a, _, rfl, .inl hS, rfl, _, rfl, ?_⟩
  refine kc2 (fun c => ?_) (fun c => ?_)
  . have e : (((ns.map V.int).length : Nat) : Int) = 0 := by simpa using c
    have e' : ns = [] := by
      rw [hl] at e
      exact List.eq_nil_of_length_eq_zero (by omega)
    subst e'
    exact q
  . have e : ¬ (((ns.map V.int).length : Nat) : Int) = 0 := by simpa using c
    rw [hl] at e
    have hp : (0 : Int) < ((ns.map V.int).length : Nat) := by rw [hl]; omega
    refine ⟨_, rfl, _, rfl, _, rfl, a, _, rfl, .inl hS, _, _, rfl, rfl, hp, a, _, _, _, rfl, rfl, hS, ?_, q⟩
    rw [hl]
    have h0 := Int.emod_nonneg k e
    have h1 := Int.emod_lt_of_pos k (show (0 : Int) < ns.length by omega)
    have ek : k % (ns.length : Int) = (((k % (ns.length : Int)).toNat : Nat) : Int) := by omega
    rw [ek]
    refine xd4 ?_
    rw [List.getElem?_map, List.getElem?_eq_getElem (by omega)]
    unfold yf2
    rw [List.getD_eq_getElem?_getD, List.getElem?_eq_getElem (by omega)]
    rfl
noncomputable abbrev zq9 : Stmt := top 19
theorem zy8 : FnScope ["_law_script", "_law_k", "_law_salt", "_law_cell", "_law_lap", "_law_near"] ["_law_script", "_law_k", "_law_salt"] (zb1 zq9) := ⟨rfl, rfl, rfl, by decide +kernel, rfl, by decide +kernel, by decide +kernel⟩
theorem xy1 {n : Nat} {f f1 : Addr} {fd fd1 : FuncData} (D : Dn K mg "_law_mixed" zq9 ["_law_script", "_law_k", "_law_salt"] f fd) (D_l_cell_at : Dn K mg "_law_cell_at" zp4 ["_law_script", "_law_k"] f1 fd1)
    (G_l_cell_at : FnOk P w K mg base CX0 n f1 fd1 ["_law_script", "_law_k"] (xp9 K)) (z_len : mg "len" = none) (z_max : mg "max" = none) :
    FnOk P w K mg base CX0 (n + 1) f fd ["_law_script", "_law_k", "_law_salt"] (xu7 K) := by
  refine D.F.ok zy8 (fun vs H Q E h => ?_) (fun cdv A outer s H vs Q E hr h => ?_)
  . obtain ⟨a, ns, k, salt, rfl, _⟩ := h
    rfl
  obtain ⟨a, ns, k, salt, rfl, hS, h63, ⟨hk0, hk1⟩, ⟨hs0, hs1⟩, q⟩ := h
  refine ⟨_, (zz8 (yk8 (i := 3) zy8.nd rfl (by first | exact Or.inl rfl | exact Or.inr rfl) (xj6 D_l_cell_at G_l_cell_at hr rfl (zo1 (pv 0) (zo1 (pv 1) yb1))))
    (zz8 (yk8 (i := 4) zy8.nd rfl (by first | exact Or.inl rfl | exact Or.inr rfl) (zn6 xr6 (pv 1) (yh1 (wb9 rfl) rfl z_max boot_max (zo1 zr7 (zo1 (yh1 zu1 rfl z_len boot_len (zo1 (pv 0) yb1)) yb1)))))
    (zz8 (yk8 (i := 5) zy8.nd rfl (by first | exact Or.inl rfl | exact Or.inr rfl) (zn6 yk9 (zn6 yk9 (zn6 yk9 (zn6 wb7 (pv 3) zr7) (zn6 yb0 (zn6 yb0 zr7 (pv 1)) (pv 1))) (zn6 yb0 (zn6 yb0 zr7 (pv 2)) (pv 2))) zr7))
    (zz8 (yk8 (i := 5) zy8.nd rfl (by first | exact Or.inl rfl | exact Or.inr rfl) (zn6 yy5 (zn6 yb0 (pv 5) zr7) zr7))
    (zz8 (yk8 (i := 5) zy8.nd rfl (by first | exact Or.inl rfl | exact Or.inr rfl) (zn6 yy5 (zn6 yb0 (pv 5) (pv 5)) zr7))
    (yt3 (yq5 (zn6 wb7 (zn6 yk9 (zn6 wu4 (pv 3) (zn6 yb0 zr7 (zn6 yk9 (pv 2) (zn6 yb0 zr7 (pv 4))))) (pv 5)) zr7)))))))), ?_⟩
  have hl : (ns.map V.int).length = ns.length := List.length_map _
  have hlap : 0 <= xc2 ns k := by unfold xc2; exact Int.ediv_nonneg hk0 (by split <;> omega)
  have hn1 : 0 <= yv0 ns k salt /\ yv0 ns k salt < 2147483647 := ⟨Int.emod_nonneg _ (by decide), Int.emod_lt_of_pos _ (by decide)⟩
  refine ⟨_, rfl, _, rfl, a, ns, k, rfl, hS, ?_⟩
  refine ⟨_, rfl, _, rfl, a, _, rfl, .inl hS, _, _, rfl, _, _, rfl, rfl, ?_, ?_⟩
  . rw [hl]; constructor
    . split <;> omega
    . split <;> omega
  rw [hl]
  refine ⟨_, rfl, _, _, rfl, rfl, _, rfl, _, _, rfl, rfl, .inl ⟨by decide, by decide⟩, _, rfl, _, _, rfl, rfl, .inr ⟨by omega, by omega⟩, _, _, rfl, rfl, _, rfl, _, _, rfl, rfl, .inl ⟨by decide, by decide⟩, _, rfl, _, _, rfl, rfl, .inr ⟨by omega, by omega⟩, _, _, rfl, rfl, _, _, rfl, rfl, ?_⟩
  refine ⟨_, rfl, _, _, rfl, rfl, .inr ⟨by decide, by decide⟩, _, _, rfl, rfl, (by show (0 : Int) < 2147483647; decide), ?_⟩
  refine ⟨_, rfl, _, rfl, _, _, rfl, rfl, .inl ⟨by show -(2 ^ 64) < yv0 ns k salt; omega, by show yv0 ns k salt < 2 ^ 64; omega⟩, _, _, rfl, rfl, (by show (0 : Int) < 2147483629; decide), ?_⟩
  refine ⟨_, rfl, _, rfl, _, rfl, _, _, rfl, rfl, .inl ⟨by decide, by decide⟩, _, _, rfl, rfl, _, _, rfl, rfl, .inl ⟨by decide, by decide⟩, _, _, rfl, rfl, ?_, _, rfl, _, _, rfl, rfl, _, _, rfl, rfl, q⟩
  show 0 <= 31 * (salt + 128 * xc2 ns k)
  omega
end My
namespace L3
open PySem PySem.Spec PyProof.Rows L2 My
variable {P : Program} {w : World} {K : PySem.W.Frag} {mg : Str -> Option Value} {base : Heap} {κ : Str -> Addr}
noncomputable def yi2 (g_Place_init : (List D -> Option (D × List D))) : PSt -> Option (Fl × PSt) :=
  (zd3 (za5 (yd7 (zj6 "Place" (zc4 [.im (fC (.bl true)), .im (fC (.int 0))]) g_Place_init))))
noncomputable abbrev zm6 : Stmt := top 6
theorem yx2 : FnScope [] [] (zb1 zm6) := ⟨rfl, rfl, rfl, by decide +kernel, rfl, by decide +kernel, by decide +kernel⟩
theorem yx3 {n : Nat} {f : Addr} {fd : FuncData} {g_Place_init : (List D -> Option (D × List D))} {f_Place_init : Addr} {fd_Place_init : FuncData} (D_p_first_place : Dn K mg "first_place" zm6 [] f fd)
    (K_Place : Kn K mg κ "Place" "Place.__init__" zn5 ["self", "broken", "margin"] f_Place_init fd_Place_init) (G_Place_init : FnOk P w K mg base CX0 n f_Place_init fd_Place_init ["self", "broken", "margin"] (SpE 3 K κ (zc8 [true, false, false]) g_Place_init)) :
    FnOk P w K mg base CX0 ((n + 1) + 1) f fd [] (SpP 0 K κ (gP 0 0 (yi2 g_Place_init))) :=
  zm0 D_p_first_place.F yx2 fun cdv A outer s H E B hr =>
  (zb3 (zg8 (QP.e (yr6 (yg7 K_Place G_Place_init hr rfl (zd9 (QP.v zu7) (zd9 (QP.v za6) zi4)) rfl rfl (zq7 2))))))
noncomputable def yj2  : PSt -> Option (Fl × PSt) :=
  (zd3 (za5 (f2 dIn (f2 dIx (za0 0) (fC (.int 0))) (fC (.tup [(.str "group"), (.str "hang"), (.str "either")])))))
noncomputable abbrev zn3 : Stmt := top 7
theorem xa4 : FnScope ["piece"] ["piece"] (zb1 zn3) := ⟨rfl, rfl, rfl, by decide +kernel, rfl, by decide +kernel, by decide +kernel⟩
theorem xa5 {n : Nat} {f : Addr} {fd : FuncData} {a_HOLDERS : Addr} (D_p_holds_rows : Dn K mg "holds_rows" zn3 ["piece"] f fd)
    (g_HOLDERS : mg "HOLDERS" = some (.ref a_HOLDERS)) (k_HOLDERS : ∀ H, Rep K κ H (.ref a_HOLDERS) (.tup [(.str "group"), (.str "hang"), (.str "either")]) []) :
    FnOk P w K mg base CX0 (n + 1) f fd ["piece"] (SpP 1 K κ (gP 1 0 (yj2 ))) :=
  zm0 D_p_holds_rows.F xa4 fun cdv A outer s H E B hr =>
  (zb3 (zg8 (QP.e (yl0 wk0 (zd1 (za2 0) (QP.v za6)) (QP.v (xd7 (v := .ref a_HOLDERS) (d := (.tup [(.str "group"), (.str "hang"), (.str "either")])) rfl g_HOLDERS rfl k_HOLDERS)) (by with_unfolding_all rfl)))))
noncomputable def yf9  : PSt -> Option (Fl × PSt) :=
  (zd3 (za5 (fOr (f2 dEq (f2 dIx (za0 0) (fC (.int 0))) (fC (.str "either"))) (yo8 (f2 dEq (f2 dIx (za0 0) (fC (.int 0))) (fC (.str "group"))) (zb7 (zi8 "Place" "broken" (za0 1)))))))
noncomputable abbrev zl7 : Stmt := top 8
theorem yv6 : FnScope ["piece", "place"] ["piece", "place"] (zb1 zl7) := ⟨rfl, rfl, rfl, by decide +kernel, rfl, by decide +kernel, by decide +kernel⟩
theorem yv7 {n : Nat} {f : Addr} {fd : FuncData}  (D_p_takes_choice : Dn K mg "takes_choice" zl7 ["piece", "place"] f fd)
    (cl_Place : Cls K (κ "Place"))
    (na_broken : zg9 K (κ "Place") "broken") :
    FnOk P w K mg base CX0 (n + 1) f fd ["piece", "place"] (SpP 2 K κ (gP 2 0 (yf9 ))) :=
  zm0 D_p_takes_choice.F yv6 fun cdv A outer s H E B hr =>
  (zb3 (zg8 (QP.e (xw9 (yl0 (zl5 (Room.units hr)) (zd1 (za2 0) (QP.v za6)) (QP.v ze2) (ze9 _)) (yz3 (xm0 (yl0 (zl5 (Room.units hr)) (zd1 (za2 0) (QP.v za6)) (QP.v ze2) (ze9 _)) (yz3 (QV.p (zm7 (C := "Place") cl_Place na_broken (za2 1))))))))))
noncomputable def zx7 (g_Place_init : (List D -> Option (D × List D))) : PSt -> Option (Fl × PSt) :=
  (za9 (zb4 2 (za5 (zb7 (f2 dIx (za0 0) (fC (.int 0))))))
  (za9 (fIf (za8 (fB (f2 dEq (za0 2) (fC (.str "hang")))))
   (zd3 (za5 (zd7 (za1 (zg7 (za1 (zb7 (f2 dIx (za0 0) (fC (.int 2)))) (za1 (yd7 (zj6 "Place" (zc4 [.im (zi8 "Place" "broken" (za0 1)), .im (f2 zc6 (zi8 "Place" "margin" (za0 1)) (f2 dIx (za0 0) (fC (.int 1))))]) g_Place_init)) za3))) za3))))
   zc1)
  (za9 (fIf (za8 (fB (f2 dEq (za0 2) (fC (.str "either")))))
   (zd3 (za5 (xb9 [none, some 1] (zo7 (f2 dIx (za0 0) (fC (.int 1)))) yy1 (zg7 (za1 (zb7 (za0 0)) (za1 (zb7 (za0 1)) za3))))))
   zc1)
  (za9 (zb4 3 (za5 (zg7 (za1 (zb7 (f2 dIx (za0 0) (fC (.int 1)))) (za1 (yd7 (zj6 "Place" (zc4 [.im (fC (.bl false)), .im (zi8 "Place" "margin" (za0 1))]) g_Place_init)) za3)))))
  (za9 (fIf (za8 (fT (zi8 "Place" "broken" (za0 1))))
   (zd3 (za5 (zd7 (za1 (zb7 (za0 3)) (za1 (zg7 (za1 (zb7 (f2 dIx (za0 0) (fC (.int 1)))) (za1 (zb7 (za0 1)) za3))) za3)))))
   zc1)
  (zd3 (za5 (zd7 (za1 (zb7 (za0 3)) za3)))))))))
noncomputable abbrev zu6 : Stmt := top 9
theorem yr9 : FnScope ["piece", "place", "kind", "on_one_line"] ["piece", "place"] (zb1 zu6) := ⟨rfl, rfl, rfl, by decide +kernel, rfl, by decide +kernel, by decide +kernel⟩
theorem we4 {n : Nat} {f : Addr} {fd : FuncData} {g_Place_init : (List D -> Option (D × List D))} {f_Place_init : Addr} {fd_Place_init : FuncData} (D_p_ways : Dn K mg "ways" zu6 ["piece", "place"] f fd)
    (K_Place : Kn K mg κ "Place" "Place.__init__" zn5 ["self", "broken", "margin"] f_Place_init fd_Place_init) (G_Place_init : FnOk P w K mg base CX0 n f_Place_init fd_Place_init ["self", "broken", "margin"] (SpE 3 K κ (zc8 [true, false, false]) g_Place_init))
    (cl_Place : Cls K (κ "Place"))
    (na_broken : zg9 K (κ "Place") "broken")
    (na_margin : zg9 K (κ "Place") "margin") :
    FnOk P w K mg base CX0 ((n + 1) + 1) f fd ["piece", "place"] (SpP 2 K κ (gP 2 2 (zx7 g_Place_init))) :=
  zm0 D_p_ways.F yr9 fun cdv A outer s H E B hr =>
  (zb0 (zf1 2 yr9.nd rfl (by first | exact Or.inl rfl | exact Or.inr rfl) rfl rfl (QP.e (QV.p (zd1 (za2 0) (QP.v za6)))))
  (zb0 (zg5 (QT.e (zf7 (zl5 (Room.units hr)) (za2 2) (QP.v ze2) (ze9 _)))
   (zb3 (zg8 (QP.e (zj1 (zb9 (zp0 (zb9 (QV.p (zd1 (za2 0) (QP.v za6))) (zb9 (yr6 (yg7 K_Place G_Place_init hr rfl (zd9 (zm7 (C := "Place") cl_Place na_broken (za2 1)) (zd9 (QP.v (ze4 zl1 (zm7 (C := "Place") cl_Place na_margin (za2 1)) (zd1 (za2 0) (QP.v za6)))) zi4)) rfl rfl (zq7 2))) ze1))) ze1)))))
   ze8)
  (zb0 (zg5 (QT.e (zf7 (zl5 (Room.units hr)) (za2 2) (QP.v ze2) (ze9 _)))
   (zb3 (zg8 (QP.e (xe2 (sc := zb1 zu6) (NX := ["piece", "place", "kind", "on_one_line"]) (N := ["row", "place"]) (pick := [none, some 1]) ⟨rfl, by decide +kernel, by decide +kernel, by decide +kernel, by decide +kernel, by decide, rfl⟩ rfl rfl rfl (xm4 (zd1 (za2 0) (QP.v za6))) (fun _ _ _ _ => (zy5 (i := 0) (show (["row", "place"] : List Str).Nodup by decide) rfl (by first | exact Or.inl rfl | exact Or.inr rfl))) (fun _ _ _ _ => xe1) (fun _ _ _ _ => (zp0 (zb9 (QV.p (za2 0)) (zb9 (QV.p (za2 1)) ze1))))))))
   ze8)
  (zb0 (zf1 3 yr9.nd rfl (by first | exact Or.inl rfl | exact Or.inr rfl) rfl rfl (QP.e (zp0 (zb9 (QV.p (zd1 (za2 0) (QP.v za6))) (zb9 (yr6 (yg7 K_Place G_Place_init hr rfl (zd9 (QP.v zu7) (zd9 (zm7 (C := "Place") cl_Place na_margin (za2 1)) zi4)) rfl rfl (zq7 2))) ze1)))))
  (zb0 (zg5 (QT.e (zr8 (zm7 (C := "Place") cl_Place na_broken (za2 1))))
   (zb3 (zg8 (QP.e (zj1 (zb9 (QV.p (za2 3)) (zb9 (zp0 (zb9 (QV.p (zd1 (za2 0) (QP.v za6))) (zb9 (QV.p (za2 1)) ze1))) ze1))))))
   ze8)
  (zb3 (zg8 (QP.e (zj1 (zb9 (QV.p (za2 3)) ze1))))))))))
noncomputable def yq1  : PSt -> Option (Fl × PSt) :=
  (zd3 (za5 (f2 zc6 (fC (.str "\n")) (f2 zp3 (fC (.str " ")) (za0 0)))))
noncomputable abbrev zq2 : Stmt := top 10
theorem xj1 : FnScope ["blanks"] ["blanks"] (zb1 zq2) := ⟨rfl, rfl, rfl, by decide +kernel, rfl, by decide +kernel, by decide +kernel⟩
theorem xj2 {n : Nat} {f : Addr} {fd : FuncData}  (D_p_new_line : Dn K mg "new_line" zq2 ["blanks"] f fd)
     :
    FnOk P w K mg base CX0 (n + 1) f fd ["blanks"] (SpP 1 K κ (gP 1 0 (yq1 ))) :=
  zm0 D_p_new_line.F xj1 fun cdv A outer s H E B hr =>
  (zb3 (zg8 (QP.e (ze4 zl1 (QP.v ze2) (QP.v (ze4 yi5 (QP.v ze2) (za2 0)))))))
noncomputable def yc2 (g_p_new_line : (List D -> Option D)) : PSt -> Option (Fl × PSt) :=
  (za9 (zb4 3 (za5 (zb7 (f2 dIx (za0 0) (fC (.int 0))))))
  (za9 (fIf (za8 (fB (f2 dEq (za0 3) (fC (.str "word")))))
   (zd3 (za5 (zb7 (f2 dIx (za0 0) (fC (.int 1))))))
   zc1)
  (za9 (fIf (za8 (zf6 (fB (f2 dEq (za0 3) (fC (.str "gap")))) (zi3 (fT (zi8 "Place" "broken" (za0 1))))))
   (zd3 (za5 (zb7 (f2 dIx (za0 0) (fC (.int 1))))))
   zc1)
  (za9 (fIf (za8 (zf6 (fB (f2 dEq (za0 3) (fC (.str "stop")))) (fB (f2 dLe (za0 2) (f2 dIx (za0 0) (fC (.int 1)))))))
   (zd3 (za5 (f2 zp3 (fC (.str " ")) (f2 zm1 (f2 dIx (za0 0) (fC (.int 1))) (za0 2)))))
   zc1)
  (za9 (fIf (za8 (zi3 (fT (zi8 "Place" "broken" (za0 1)))))
   (zd3 (za5 (fC .non)))
   zc1)
  (za9 (fIf (za8 (fB (f2 dEq (za0 3) (fC (.str "stop")))))
   (zd3 (za5 (za7 g_p_new_line (za1 (f2 dIx (za0 0) (fC (.int 1))) za3))))
   zc1)
  (zd3 (za5 (za7 g_p_new_line (za1 (zi8 "Place" "margin" (za0 1)) za3))))))))))
noncomputable abbrev zs2 : Stmt := top 11
theorem ys0 : FnScope ["piece", "place", "column", "kind"] ["piece", "place", "column"] (zb1 zs2) := ⟨rfl, rfl, rfl, by decide +kernel, rfl, by decide +kernel, by decide +kernel⟩
theorem xn8 {n : Nat} {f : Addr} {fd : FuncData} {g_p_new_line : (List D -> Option D)} {f_p_new_line : Addr} {fd_p_new_line : FuncData} (D_p_writing : Dn K mg "writing" zs2 ["piece", "place", "column"] f fd)
    (D_p_new_line : Dn K mg "new_line" zq2 ["blanks"] f_p_new_line fd_p_new_line) (G_p_new_line : FnOk P w K mg base CX0 n f_p_new_line fd_p_new_line ["blanks"] (SpP 1 K κ g_p_new_line))
    (cl_Place : Cls K (κ "Place"))
    (na_broken : zg9 K (κ "Place") "broken")
    (na_margin : zg9 K (κ "Place") "margin") :
    FnOk P w K mg base CX0 (n + 1) f fd ["piece", "place", "column"] (SpP 3 K κ (gP 3 1 (yc2 g_p_new_line))) :=
  zm0 D_p_writing.F ys0 fun cdv A outer s H E B hr =>
  (zb0 (zf1 3 ys0.nd rfl (by first | exact Or.inl rfl | exact Or.inr rfl) rfl rfl (QP.e (QV.p (zd1 (za2 0) (QP.v za6)))))
  (zb0 (zg5 (QT.e (zf7 (zl5 (Room.units hr)) (za2 3) (QP.v ze2) (ze9 _)))
   (zb3 (zg8 (QP.e (QV.p (zd1 (za2 0) (QP.v za6))))))
   ze8)
  (zb0 (zg5 (QT.e (zz9 (zs6 (zf7 (zl5 (Room.units hr)) (za2 3) (QP.v ze2) (ze9 _)) (zr5 (ye7 (zr8 (zm7 (C := "Place") cl_Place na_broken (za2 1))))))))
   (zb3 (zg8 (QP.e (QV.p (zd1 (za2 0) (QP.v za6))))))
   ze8)
  (zb0 (zg5 (QT.e (zz9 (zs6 (zf7 (zl5 (Room.units hr)) (za2 3) (QP.v ze2) (ze9 _)) (zr5 (zf7 xx1 (za2 2) (zd1 (za2 0) (QP.v za6)) (ze9 _))))))
   (zb3 (zg8 (QP.e (ze4 yi5 (QP.v ze2) (QP.v (ze4 ym8 (zd1 (za2 0) (QP.v za6)) (za2 2)))))))
   ze8)
  (zb0 (zg5 (QT.e (ye7 (zr8 (zm7 (C := "Place") cl_Place na_broken (za2 1)))))
   (zb3 (zg8 (QP.e yz1)))
   ze8)
  (zb0 (zg5 (QT.e (zf7 (zl5 (Room.units hr)) (za2 3) (QP.v ze2) (ze9 _)))
   (zb3 (zg8 (QP.e (zn1 D_p_new_line G_p_new_line hr rfl rfl (zb5 (zd1 (za2 0) (QP.v za6)) zd4) (zd8 zj8)))))
   ze8)
  (zb3 (zg8 (QP.e (zn1 D_p_new_line G_p_new_line hr rfl rfl (zb5 (zm7 (C := "Place") cl_Place na_margin (za2 1)) zd4) (zd8 zj8)))))))))))
noncomputable def yd9  : PSt -> Option (Fl × PSt) :=
  (zd3 (za5 (fMt zz3 (za0 0) (za1 (fC (.str "\n")) za3))))
noncomputable abbrev zo4 : Stmt := top 12
theorem xe8 : FnScope ["wrote"] ["wrote"] (zb1 zo4) := ⟨rfl, rfl, rfl, by decide +kernel, rfl, by decide +kernel, by decide +kernel⟩
theorem xe9 {n : Nat} {f : Addr} {fd : FuncData}  (D_p_ends_line : Dn K mg "ends_line" zo4 ["wrote"] f fd)
     :
    FnOk P w K mg base CX0 (n + 1) f fd ["wrote"] (SpP 1 K κ (gP 1 0 (yd9 ))) :=
  zm0 D_p_ends_line.F xe8 fun cdv A outer s H E B hr =>
  (zb3 (zg8 (QP.e (yz4 PySem.F.slot_str_startswith PySem.F.type_str_startswith yh3 (za2 0) (zb5 (QP.v ze2) zd4)))))
noncomputable def zp5 (g_p_ends_line : (List D -> Option D)) : PSt -> Option (Fl × PSt) :=
  (za9 (fIf (za8 (fT (za7 g_p_ends_line (za1 (za0 1) za3))))
   (zd3 (za5 (f2 zm1 (za7 ze3 (za1 (za0 1) za3)) (fC (.int 1)))))
   zc1)
  (zd3 (za5 (f2 zc6 (za0 0) (za7 ze3 (za1 (za0 1) za3))))))
noncomputable abbrev zl0 : Stmt := top 13
theorem ys1 : FnScope ["column", "wrote"] ["column", "wrote"] (zb1 zl0) := ⟨rfl, rfl, rfl, by decide +kernel, rfl, by decide +kernel, by decide +kernel⟩
theorem ys2 {n : Nat} {f : Addr} {fd : FuncData} {g_p_ends_line : (List D -> Option D)} {f_p_ends_line : Addr} {fd_p_ends_line : FuncData} (D_p_column_behind : Dn K mg "column_behind" zl0 ["column", "wrote"] f fd)
    (D_p_ends_line : Dn K mg "ends_line" zo4 ["wrote"] f_p_ends_line fd_p_ends_line) (G_p_ends_line : FnOk P w K mg base CX0 n f_p_ends_line fd_p_ends_line ["wrote"] (SpP 1 K κ g_p_ends_line))
    (z_len : mg "len" = none) :
    FnOk P w K mg base CX0 (n + 1) f fd ["column", "wrote"] (SpP 2 K κ (gP 2 0 (zp5 g_p_ends_line))) :=
  zm0 D_p_column_behind.F ys1 fun cdv A outer s H E B hr =>
  (zb0 (zg5 (QT.e (zr8 (QP.v (zn1 D_p_ends_line G_p_ends_line hr rfl rfl (zb5 (za2 1) zd4) (zd8 zj8)))))
   (zb3 (zg8 (QP.e (ze4 ym8 (QP.v (zm4 zw2 rfl z_len boot_len (zb5 (za2 1) zd4))) (QP.v za6)))))
   ze8)
  (zb3 (zg8 (QP.e (ze4 zl1 (za2 0) (QP.v (zm4 zw2 rfl z_len boot_len (zb5 (za2 1) zd4))))))))
noncomputable def yk5 (g_Setter_init : (List D -> Option (D × List D))) (g_Setter_set_row : (List D -> Option (D × List D))) (g_p_first_place : (List D -> Option D)) (g_Setter_whole_text : (List D -> Option D)) : PSt -> Option (Fl × PSt) :=
  (za9 (zb4 2 (za5 (zj6 "Setter" (zc4 [.im (za0 1)]) g_Setter_init)))
  (za9 (zc3 (zc9 2 zb6 (zc4 [.im (za0 0), .im (za7 g_p_first_place za3)]) (zo8 "Setter" "set_row" g_Setter_set_row)))
  (zd3 (za5 (za7 g_Setter_whole_text (za1 (zm3 "Setter" "whole_text" (za0 2)) za3))))))
noncomputable abbrev zt5 : Stmt := top 16
theorem yw1 : FnScope ["row", "choices", "setter"] ["row", "choices"] (zb1 zt5) := ⟨rfl, rfl, rfl, by decide +kernel, rfl, by decide +kernel, by decide +kernel⟩
theorem xr0 {n : Nat} {f : Addr} {fd : FuncData} {g_Setter_init : (List D -> Option (D × List D))} {f_Setter_init : Addr} {fd_Setter_init : FuncData} {g_Setter_set_row : (List D -> Option (D × List D))} {f_Setter_set_row : Addr} {fd_Setter_set_row : FuncData} {g_p_first_place : (List D -> Option D)} {f_p_first_place : Addr} {fd_p_first_place : FuncData} {g_Setter_whole_text : (List D -> Option D)} {f_Setter_whole_text : Addr} {fd_Setter_whole_text : FuncData} (D_p_set_by : Dn K mg "set_by" zt5 ["row", "choices"] f fd)
    (K_Setter : Kn K mg κ "Setter" "Setter.__init__" zo5 ["self", "choices"] f_Setter_init fd_Setter_init) (G_Setter_init : FnOk P w K mg base CX0 n f_Setter_init fd_Setter_init ["self", "choices"] (SpE 2 K κ (zc8 [true, false]) g_Setter_init))
    (M_Setter_set_row : Mn K κ "Setter" "set_row" "Setter.set_row" zk3 ["self", "row", "place"] f_Setter_set_row fd_Setter_set_row) (G_Setter_set_row : FnOk P w K mg base CX0 (n + 1) f_Setter_set_row fd_Setter_set_row ["self", "row", "place"] (SpE 3 K κ (zc8 [true, false, false]) g_Setter_set_row))
    (D_p_first_place : Dn K mg "first_place" zm6 [] f_p_first_place fd_p_first_place) (G_p_first_place : FnOk P w K mg base CX0 (n + 1) f_p_first_place fd_p_first_place [] (SpP 0 K κ g_p_first_place))
    (M_Setter_whole_text : Mn K κ "Setter" "whole_text" "Setter.whole_text" zk1 ["self"] f_Setter_whole_text fd_Setter_whole_text) (G_Setter_whole_text : FnOk P w K mg base CX0 (n + 1) f_Setter_whole_text fd_Setter_whole_text ["self"] (SpP 1 K κ g_Setter_whole_text)) :
    FnOk P w K mg base CX0 ((n + 1) + 1) f fd ["row", "choices"] (SpP 2 K κ (gP 2 1 (yk5 g_Setter_init g_Setter_set_row g_p_first_place g_Setter_whole_text))) :=
  zm0 D_p_set_by.F yw1 fun cdv A outer s H E B hr =>
  (zb0 (zf1 2 yw1.nd rfl (by first | exact Or.inl rfl | exact Or.inr rfl) rfl rfl (QP.e (yg7 K_Setter G_Setter_init hr rfl (zd9 (za2 1) zi4) rfl rfl (zq7 1))))
  (zb0 (zl2 (yc9 M_Setter_set_row G_Setter_set_row hr rfl (ze5 2) (zd9 (za2 0) (zd9 (QP.v (xm6 D_p_first_place G_p_first_place hr rfl)) zi4)) rfl rfl (zq7 2)))
  (zb3 (zg8 (QP.e (yx0 M_Setter_whole_text G_Setter_whole_text hr (za2 2)))))))
noncomputable def ys7  : PSt -> Option (Fl × PSt) :=
  (za9 (zb4 1 (za5 (fC (.str "abcdefghijklmnopqrstuvwxyzABCDEFGHIJKLMNOPQRSTUVWXYZ0123456789"))))
  (za9 (zb4 1 (za5 (f2 zc6 (za0 1) (fC (.str "!\"#$&'()*+,-./:;<=>?\x40[\\]^_`{|}~")))))
  (za9 (zb4 2 (za5 (f2 dIx (zd7 (fKs [.int 1, .int 2, .int 3, .int 4, .int 5, .int 6, .int 7, .int 8, .int 10, .int 11, .int 9, .int 12])) (f2 zl4 (za0 0) (fC (.int 12))))))
  (za9 (zb4 3 (za5 (fC (.str ""))))
  (za9 (zq1 4 (zw4 (za1 (za0 2) za3))
   (za9 (zb4 5 (za5 (f2 zc6 (f2 zt3 (za0 0) (fC (.int 12))) (f2 zp3 (za0 4) (f2 zl4 (f2 zt3 (za0 0) (fC (.int 9000))) (fC (.int 93)))))))
  (zb4 3 (za5 (f2 zc6 (za0 3) (f2 dIx (za0 1) (f2 zl4 (za0 5) (fC (.int 93)))))))))
  (zi6 3))))))
noncomputable abbrev zx8 : Stmt := top 20
theorem zu4 : FnScope ["_law_number", "_law_signs", "_law_size", "_law_word_here", "_law_j", "_law_at"] ["_law_number"] (zb1 zx8) := ⟨rfl, rfl, rfl, by decide +kernel, rfl, by decide +kernel, by decide +kernel⟩
theorem we5 {n : Nat} {f : Addr} {fd : FuncData}  (D_l_word : Dn K mg "_law_word" zx8 ["_law_number"] f fd)
    (z_range : mg "range" = none) :
    FnOk P w K mg base CX0 (n + 1) f fd ["_law_number"] (SpP 1 K κ (gP 1 5 (ys7 ))) :=
  zm0 D_l_word.F zu4 fun cdv A outer s H E B hr =>
  (zb0 (zf1 1 zu4.nd rfl (by first | exact Or.inl rfl | exact Or.inr rfl) rfl rfl (QP.e ze2))
  (zb0 (zf1 1 zu4.nd rfl (by first | exact Or.inl rfl | exact Or.inr rfl) rfl rfl (QP.e (ze4 zl1 (za2 1) (QP.v ze2))))
  (zb0 (zf1 2 zu4.nd rfl (by first | exact Or.inl rfl | exact Or.inr rfl) rfl rfl (QP.e (ye2 (zj1 (zv0 (.int (.int (.int (.int (.int (.int (.int (.int (.int (.int (.int (.int .nil)))))))))))))) (QP.v (ze4 zp6 (za2 0) (QP.v za6))))))
  (zb0 (zf1 3 zu4.nd rfl (by first | exact Or.inl rfl | exact Or.inr rfl) rfl rfl (QP.e ze2))
  (zb0 (yr0 4 PassesOwn.never rfl zu4.nd rfl (by first | exact Or.inl rfl | exact Or.inr rfl) rfl rfl (yi6 rfl z_range (zb5 (za2 2) zd4))
   (zb0 (zf1 5 zu4.nd rfl (by first | exact Or.inl rfl | exact Or.inr rfl) rfl rfl (QP.e (ze4 zl1 (QP.v (ze4 zz4 (za2 0) (QP.v za6))) (QP.v (ze4 yi5 (za2 4) (QP.v (ze4 zp6 (QP.v (ze4 zz4 (za2 0) (QP.v za6))) (QP.v za6))))))))
  (zb3 (zf1 3 zu4.nd rfl (by first | exact Or.inl rfl | exact Or.inr rfl) rfl rfl (QP.e (ze4 zl1 (za2 3) (zd1 (za2 1) (QP.v (ze4 zp6 (za2 5) (QP.v za6))))))))))
  (zb3 (yl2 3 rfl)))))))
noncomputable def zx9 (g_l_word : (List D -> Option D)) : PSt -> Option (Fl × PSt) :=
  (za9 (zb4 1 (za5 (f2 zt3 (za0 0) (fC (.int 16)))))
  (za9 (fIf (za8 (fB (f2 dLt (f2 zl4 (za0 0) (fC (.int 16))) (fC (.int 8)))))
   (zd3 (za5 (zg7 (za1 (fC (.str "word")) (za1 (za7 g_l_word (za1 (za0 1) za3)) za3)))))
   zc1)
  (za9 (fIf (za8 (fB (f2 dLt (f2 zl4 (za0 0) (fC (.int 16))) (fC (.int 13)))))
   (zd3 (za5 (zg7 (za1 (fC (.str "gap")) (za1 (f2 dIx (zd7 (fKs [.str " ", .str " ", .str " ", .str ""])) (f2 zl4 (za0 1) (fC (.int 4)))) za3)))))
   zc1)
  (za9 (fIf (za8 (fB (f2 dEq (f2 zl4 (za0 0) (fC (.int 16))) (fC (.int 13)))))
   (zd3 (za5 (zg7 (za1 (fC (.str "end")) za3))))
   zc1)
  (zd3 (za5 (zg7 (za1 (fC (.str "stop")) (za1 (f2 dIx (zd7 (za1 (f2 zl4 (f2 zt3 (za0 1) (fC (.int 2))) (fC (.int 10))) (za1 (f2 zl4 (f2 zt3 (za0 1) (fC (.int 2))) (fC (.int 41))) za3))) (f2 zl4 (za0 1) (fC (.int 2)))) za3)))))))))
noncomputable abbrev zy0 : Stmt := top 21
theorem xi1 : FnScope ["_law_number", "_law_some"] ["_law_number"] (zb1 zy0) := ⟨rfl, rfl, rfl, by decide +kernel, rfl, by decide +kernel, by decide +kernel⟩
theorem we6 {n : Nat} {f : Addr} {fd : FuncData} {g_l_word : (List D -> Option D)} {f_l_word : Addr} {fd_l_word : FuncData} (D_l_leaf : Dn K mg "_law_leaf" zy0 ["_law_number"] f fd)
    (D_l_word : Dn K mg "_law_word" zx8 ["_law_number"] f_l_word fd_l_word) (G_l_word : FnOk P w K mg base CX0 n f_l_word fd_l_word ["_law_number"] (SpP 1 K κ g_l_word)) :
    FnOk P w K mg base CX0 (n + 1) f fd ["_law_number"] (SpP 1 K κ (gP 1 1 (zx9 g_l_word))) :=
  zm0 D_l_leaf.F xi1 fun cdv A outer s H E B hr =>
  (zb0 (zf1 1 xi1.nd rfl (by first | exact Or.inl rfl | exact Or.inr rfl) rfl rfl (QP.e (ze4 zz4 (za2 0) (QP.v za6))))
  (zb0 (zg5 (QT.e (zf7 (yj9 (Room.units0 hr)) (QP.v (ze4 zp6 (za2 0) (QP.v za6))) (QP.v za6) (ze9 _)))
   (zb3 (zg8 (QP.e (zp0 (zb9 ze2 (zb9 (zn1 D_l_word G_l_word hr rfl rfl (zb5 (za2 1) zd4) (zd8 zj8)) ze1))))))
   ze8)
  (zb0 (zg5 (QT.e (zf7 (yj9 (Room.units0 hr)) (QP.v (ze4 zp6 (za2 0) (QP.v za6))) (QP.v za6) (ze9 _)))
   (zb3 (zg8 (QP.e (zp0 (zb9 ze2 (zb9 (ye2 (zj1 (zv0 (.str (.str (.str (.str .nil)))))) (QP.v (ze4 zp6 (za2 1) (QP.v za6)))) ze1))))))
   ze8)
  (zb0 (zg5 (QT.e (zf7 (zl5 (Room.units hr)) (QP.v (ze4 zp6 (za2 0) (QP.v za6))) (QP.v za6) (ze9 _)))
   (zb3 (zg8 (QP.e (zp0 (zb9 ze2 ze1)))))
   ze8)
  (zb3 (zg8 (QP.e (zp0 (zb9 ze2 (zb9 (ye2 (zj1 (zb9 (ze4 zp6 (QP.v (ze4 zz4 (za2 1) (QP.v za6))) (QP.v za6)) (zb9 (ze4 zp6 (QP.v (ze4 zz4 (za2 1) (QP.v za6))) (QP.v za6)) ze1))) (QP.v (ze4 zp6 (za2 1) (QP.v za6)))) ze1))))))))))
noncomputable def yf3  : PSt -> Option (Fl × PSt) :=
  (za9 (yp1 [1, 2, 3, 4] (zc9 0 zb6 za3 yi1))
  (za9 (zb4 3 (za5 (f2 zc6 (za0 3) (zd7 (za1 (za7 zg1 (za1 (za0 4) za3)) za3)))))
  (za9 (fIf (za8 (zf6 (fB (f2 dEq (za0 1) (fC (.str "either")))) (fB (f2 dLt (za7 ze3 (za1 (za0 3) za3)) (fC (.int 2))))))
   (zb4 3 (za5 (f2 zc6 (za0 3) (zd7 (za1 (zg7 (za1 (zg7 (za1 (fC (.str "word")) (za1 (fC (.str "or")) za3))) za3)) za3)))))
   zc1)
  (za9 (zb4 5 (za5 (zg7 (za1 (fC (.str "group")) (za1 (zb7 (f2 dIx (za0 3) (fC (.int 0)))) za3)))))
  (za9 (fIf (za8 (fB (f2 dEq (za0 1) (fC (.str "hang")))))
   (zb4 5 (za5 (zg7 (za1 (fC (.str "hang")) (za1 (zb7 (za0 2)) (za1 (zb7 (f2 dIx (za0 3) (fC (.int 0)))) za3))))))
   zc1)
  (za9 (fIf (za8 (fB (f2 dEq (za0 1) (fC (.str "either")))))
   (zb4 5 (za5 (zg7 (za1 (fC (.str "either")) (za1 (za7 zg1 (za1 (za0 3) za3)) za3)))))
   zc1)
  (zc3 (zc9 0 (zh5 0 (zh5 0 zb6 (zk2 (fC (.int 1)))) (fC (.int 3))) (za1 (zb7 (za0 5)) za3) zc7))))))))
noncomputable abbrev zy1 : Stmt := top 22
theorem zr4 : FnScope ["_law_frames", "_law_kind", "_law_n", "_law_full", "_law_parts", "_law_piece"] ["_law_frames"] (zb1 zy1) := ⟨rfl, rfl, rfl, by decide +kernel, rfl, by decide +kernel, by decide +kernel⟩
theorem we7 {n : Nat} {f : Addr} {fd : FuncData}  (D_l_shut : Dn K mg "_law_shut" zy1 ["_law_frames"] f fd)
    (z_tuple : mg "tuple" = none)
    (z_len : mg "len" = none) :
    FnOk P w K mg base CX0 (n + 1) f fd ["_law_frames"] (SpE 1 K κ (zc8 [true]) (gE 1 5 (zc8 [true]) (yf3 ))) :=
  zy6 D_l_shut.F zr4 (fun i hi => zs0 hi) fun cdv A outer s H E hr =>
  (zb0 (yr4 (is := [1, 2, 3, 4]) rfl (yc6 (zy5 (i := 1) zr4.nd rfl (by first | exact Or.inl rfl | exact Or.inr rfl)) (yc6 (zy5 (i := 2) zr4.nd rfl (by first | exact Or.inl rfl | exact Or.inr rfl)) (yc6 (zy5 (i := 3) zr4.nd rfl (by first | exact Or.inl rfl | exact Or.inr rfl)) (yc6 (zy5 (i := 4) zr4.nd rfl (by first | exact Or.inl rfl | exact Or.inr rfl)) xd3)))) (xm8 (j := 0) rfl (ze5 0)) (fun j hj => by simp only [List.mem_cons, List.not_mem_nil, or_false] at hj; rcases hj with rfl | rfl | rfl | rfl <;> exact ⟨rfl, rfl⟩))
  (zb0 (zf1 3 zr4.nd rfl (by first | exact Or.inl rfl | exact Or.inr rfl) rfl rfl (QP.e (ze4 zl1 (za2 3) (QP.v (zj1 (zb9 (zr2 ya7 rfl z_tuple boot_tuple (zb5 (za2 4) zd4)) ze1))))))
  (zb0 (zg5 (QT.e (zz9 (zs6 (zf7 (zl5 (Room.units hr)) (za2 1) (QP.v ze2) (ze9 _)) (zr5 (zf7 (yj9 (Room.units0 hr)) (QP.v (zm4 zw2 rfl z_len boot_len (zb5 (za2 3) zd4))) (QP.v za6) (ze9 _))))))
   (zb3 (zf1 3 zr4.nd rfl (by first | exact Or.inl rfl | exact Or.inr rfl) rfl rfl (QP.e (ze4 zl1 (za2 3) (QP.v (zj1 (zb9 (zp0 (zb9 (zp0 (zb9 ze2 (zb9 ze2 ze1))) ze1)) ze1)))))))
   ze8)
  (zb0 (zf1 5 zr4.nd rfl (by first | exact Or.inl rfl | exact Or.inr rfl) rfl rfl (QP.e (zp0 (zb9 ze2 (zb9 (QV.p (zd1 (za2 3) (QP.v za6))) ze1)))))
  (zb0 (zg5 (QT.e (zf7 (zl5 (Room.units hr)) (za2 1) (QP.v ze2) (ze9 _)))
   (zb3 (zf1 5 zr4.nd rfl (by first | exact Or.inl rfl | exact Or.inr rfl) rfl rfl (QP.e (zp0 (zb9 ze2 (zb9 (QV.p (za2 2)) (zb9 (QV.p (zd1 (za2 3) (QP.v za6))) ze1)))))))
   ze8)
  (zb0 (zg5 (QT.e (zf7 (zl5 (Room.units hr)) (za2 1) (QP.v ze2) (ze9 _)))
   (zb3 (zf1 5 zr4.nd rfl (by first | exact Or.inl rfl | exact Or.inr rfl) rfl rfl (QP.e (zp0 (zb9 ze2 (zb9 (zr2 ya7 rfl z_tuple boot_tuple (zb5 (za2 3) zd4)) ze1))))))
   ze8)
  (zb3 (zl2 (zs7 (j := 0) rfl (zr9 (zr9 (ze5 0) (QP.v (yb3 (QP.v za6)))) (QP.v za6)) (zb9 (QV.p (za2 5)) ze1))))))))))
noncomputable def xq0 (g_l_mixed : (List D -> Option D)) (g_l_shut : (List D -> Option (D × List D))) (g_l_leaf : (List D -> Option D)) : PSt -> Option (Fl × PSt) :=
  (za9 (zb4 4 (za5 (zd7 (za1 (zd7 (za1 (fC (.str "top")) (za1 (fC (.int 0)) (za1 (zd7 za3) (za1 (zd7 za3) za3))))) za3))))
  (za9 (zq1 5 (yu8 (za1 (za0 1) (za1 (f2 zc6 (za0 1) (za0 2)) za3)))
   (za9 (zb4 6 (za5 (za7 g_l_mixed (za1 (za0 0) (za1 (za0 5) (za1 (fC (.int 31)) za3))))))
  (za9 (zb4 7 (za5 (f2 zl4 (za0 6) (fC (.int 13)))))
  (za9 (zb4 8 (za5 (zb7 (f2 dIx (f2 dIx (za0 4) (zk2 (fC (.int 1)))) (fC (.int 0))))))
  (fIf (za8 (zf6 (fB (f2 dLt (za0 7) (fC (.int 4)))) (fB (f2 dLe (za7 ze3 (za1 (za0 4) za3)) (za0 3)))))
   (za9 (zb4 9 (za5 (f2 dIx (zd7 (fKs [.str "group", .str "group", .str "hang", .str "either"])) (za0 7))))
  (zc3 (zc9 4 zb6 (za1 (zd7 (za1 (zb7 (za0 9)) (za1 (f2 dIx (zd7 (za1 (fC (.int 1)) (za1 (fC (.int 2)) (za1 (fC (.int 4)) (za1 (f2 zl4 (f2 zt3 (za0 6) (fC (.int 13))) (fC (.int 13))) za3))))) (f2 zl4 (f2 zt3 (za0 6) (fC (.int 169))) (fC (.int 4)))) (za1 (zd7 za3) (za1 (zd7 za3) za3))))) za3) zc7)))
   (fIf (za8 (zf6 (fB (f2 dEq (za0 7) (fC (.int 4)))) (fB (f2 dGt (za7 ze3 (za1 (za0 4) za3)) (fC (.int 1))))))
   (zc3 (fIO [.io 4] g_l_shut))
   (fIf (za8 (zf6 (fB (f2 dLt (za0 7) (fC (.int 7)))) (zf6 (fB (f2 dEq (za0 8) (fC (.str "either")))) (fB (f2 dLt (za7 ze3 (za1 (f2 dIx (f2 dIx (za0 4) (zk2 (fC (.int 1)))) (fC (.int 2))) za3)) (fC (.int 3)))))))
   (za9 (zc3 (zc9 4 (zh5 4 (zh5 4 zb6 (zk2 (fC (.int 1)))) (fC (.int 2))) (za1 (za7 zg1 (za1 (f2 dIx (f2 dIx (za0 4) (zk2 (fC (.int 1)))) (fC (.int 3))) za3)) za3) zc7))
  (zh7 4 (zh5 4 zb6 (zk2 (fC (.int 1)))) (fC (.int 3)) (zd7 za3)))
   (zc3 (zc9 4 (zh5 4 (zh5 4 zb6 (zk2 (fC (.int 1)))) (fC (.int 3))) (za1 (za7 g_l_leaf (za1 (za7 g_l_mixed (za1 (za0 0) (za1 (za0 5) (za1 (fC (.int 32)) za3)))) za3)) za3) zc7)))))))))
  (za9 (zv7 (za8 (fB (f2 dGt (za7 ze3 (za1 (za0 4) za3)) (fC (.int 1)))))
   (zc3 (fIO [.io 4] g_l_shut)) 400)
  (zd3 (za5 (za7 zg1 (za1 (f2 dIx (f2 dIx (za0 4) (fC (.int 0))) (fC (.int 3))) za3)))))))
noncomputable abbrev ya4 : Stmt := top 23
theorem ya1 : FnScope ["_law_script", "_law_at", "_law_many", "_law_nest", "_law_frames", "_law_k", "_law_number", "_law_way", "_law_kind", "_law_new"] ["_law_script", "_law_at", "_law_many", "_law_nest"] (zb1 ya4) := ⟨rfl, rfl, rfl, by decide +kernel, rfl, by decide +kernel, by decide +kernel⟩
theorem wk9 {n : Nat} {f : Addr} {fd : FuncData} {g_l_mixed : (List D -> Option D)} {f_l_mixed : Addr} {fd_l_mixed : FuncData} {g_l_shut : (List D -> Option (D × List D))} {f_l_shut : Addr} {fd_l_shut : FuncData} {g_l_leaf : (List D -> Option D)} {f_l_leaf : Addr} {fd_l_leaf : FuncData} (D_l_row : Dn K mg "_law_row" ya4 ["_law_script", "_law_at", "_law_many", "_law_nest"] f fd)
    (D_l_mixed : Dn K mg "_law_mixed" zq9 ["_law_script", "_law_k", "_law_salt"] f_l_mixed fd_l_mixed) (G_l_mixed : FnOk P w K mg base CX0 n f_l_mixed fd_l_mixed ["_law_script", "_law_k", "_law_salt"] (SpP 3 K κ g_l_mixed))
    (D_l_shut : Dn K mg "_law_shut" zy1 ["_law_frames"] f_l_shut fd_l_shut) (G_l_shut : FnOk P w K mg base CX0 n f_l_shut fd_l_shut ["_law_frames"] (SpE 1 K κ (zc8 [true]) g_l_shut))
    (D_l_leaf : Dn K mg "_law_leaf" zy0 ["_law_number"] f_l_leaf fd_l_leaf) (G_l_leaf : FnOk P w K mg base CX0 n f_l_leaf fd_l_leaf ["_law_number"] (SpP 1 K κ g_l_leaf))
    (z_range : mg "range" = none)
    (z_tuple : mg "tuple" = none)
    (z_len : mg "len" = none) :
    FnOk P w K mg base CX0 (n + 1) f fd ["_law_script", "_law_at", "_law_many", "_law_nest"] (SpP 4 K κ (gP 4 6 (xq0 g_l_mixed g_l_shut g_l_leaf))) :=
  zm0 D_l_row.F ya1 fun cdv A outer s H E B hr =>
  (zb0 (zf1 4 ya1.nd rfl (by first | exact Or.inl rfl | exact Or.inr rfl) rfl rfl (QP.e (zj1 (zb9 (zj1 (zb9 ze2 (zb9 za6 (zb9 (zj1 ze1) (zb9 (zj1 ze1) ze1))))) ze1))))
  (zb0 (yr0 5 PassesOwn.never rfl ya1.nd rfl (by first | exact Or.inl rfl | exact Or.inr rfl) rfl rfl (yq9 rfl z_range (zb5 (za2 1) (zb5 (QP.v (ze4 zl1 (za2 1) (za2 2))) zd4)))
   (zb0 (zf1 6 ya1.nd rfl (by first | exact Or.inl rfl | exact Or.inr rfl) rfl rfl (QP.e (zn1 D_l_mixed G_l_mixed hr rfl rfl (zb5 (za2 0) (zb5 (za2 5) (zb5 (QP.v za6) zd4))) (zd8 (zd8 (zd8 zj8))))))
  (zb0 (zf1 7 ya1.nd rfl (by first | exact Or.inl rfl | exact Or.inr rfl) rfl rfl (QP.e (ze4 zp6 (za2 6) (QP.v za6))))
  (zb0 (zf1 8 ya1.nd rfl (by first | exact Or.inl rfl | exact Or.inr rfl) rfl rfl (QP.e (QV.p (zd1 (zd1 (za2 4) (QP.v (yb3 (QP.v za6)))) (QP.v za6)))))
  (zb3 (zg5 (QT.e (zz9 (zs6 (zf7 (yj9 (Room.units0 hr)) (za2 7) (QP.v za6) (ze9 _)) (zr5 (zf7 xx1 (QP.v (zm4 zw2 rfl z_len boot_len (zb5 (za2 4) zd4))) (za2 3) (ze9 _))))))
   (zb0 (zf1 9 ya1.nd rfl (by first | exact Or.inl rfl | exact Or.inr rfl) rfl rfl (QP.e (ye2 (zj1 (zv0 (.str (.str (.str (.str .nil)))))) (za2 7))))
  (zb3 (zl2 (zs7 (j := 4) rfl (ze5 4) (zb9 (zj1 (zb9 (QV.p (za2 9)) (zb9 (ye2 (zj1 (zb9 za6 (zb9 za6 (zb9 za6 (zb9 (ze4 zp6 (QP.v (ze4 zz4 (za2 6) (QP.v za6))) (QP.v za6)) ze1))))) (QP.v (ze4 zp6 (QP.v (ze4 zz4 (za2 6) (QP.v za6))) (QP.v za6)))) (zb9 (zj1 ze1) (zb9 (zj1 ze1) ze1))))) ze1)))))
   (zb3 (zg5 (QT.e (zz9 (zs6 (zf7 (zl5 (Room.units hr)) (za2 7) (QP.v za6) (ze9 _)) (zr5 (zf7 yw5 (QP.v (zm4 zw2 rfl z_len boot_len (zb5 (za2 4) zd4))) (QP.v za6) (ze9 _))))))
   (zb3 (zl2 (zs9 D_l_shut G_l_shut hr rfl (zp1 4 zi4) rfl (zj9 rfl) (show List.Nodup ([4] : List Nat) by decide) (fun j hj => by have h : j ∈ ([4] : List Nat) := hj; simp only [List.mem_cons, List.not_mem_nil, or_false] at h; rcases h with rfl <;> rfl))))
   (zb3 (zg5 (QT.e (zz9 (zs6 (zf7 (yj9 (Room.units0 hr)) (za2 7) (QP.v za6) (ze9 _)) (zs6 (zf7 (zl5 (Room.units hr)) (za2 8) (QP.v ze2) (ze9 _)) (zr5 (zf7 (yj9 (Room.units0 hr)) (QP.v (zm4 zw2 rfl z_len boot_len (zb5 (zd1 (zd1 (za2 4) (QP.v (yb3 (QP.v za6)))) (QP.v za6)) zd4))) (QP.v za6) (ze9 _)))))))
   (zb0 (zl2 (zs7 (j := 4) rfl (zr9 (zr9 (ze5 4) (QP.v (yb3 (QP.v za6)))) (QP.v za6)) (zb9 (zr2 ya7 rfl z_tuple boot_tuple (zb5 (zd1 (zd1 (za2 4) (QP.v (yb3 (QP.v za6)))) (QP.v za6)) zd4)) ze1)))
  (zb3 (zw7 (j := 4) rfl (zj1 ze1) (zr9 (ze5 4) (QP.v (yb3 (QP.v za6)))) (QP.v za6))))
   (zb3 (zl2 (zs7 (j := 4) rfl (zr9 (zr9 (ze5 4) (QP.v (yb3 (QP.v za6)))) (QP.v za6)) (zb9 (zn1 D_l_leaf G_l_leaf hr rfl rfl (zb5 (QP.v (zn1 D_l_mixed G_l_mixed hr rfl rfl (zb5 (za2 0) (zb5 (za2 5) (zb5 (QP.v za6) zd4))) (zd8 (zd8 (zd8 zj8))))) zd4) (zd8 zj8)) ze1))))))))))))))
  (zb0 (yw7 400 PassesOwn.never (QT.e (zf7 yw5 (QP.v (zm4 zw2 rfl z_len boot_len (zb5 (za2 4) zd4))) (QP.v za6) (ze9 _)))
   (zb3 (zl2 (zs9 D_l_shut G_l_shut hr rfl (zp1 4 zi4) rfl (zj9 rfl) (show List.Nodup ([4] : List Nat) by decide) (fun j hj => by have h : j ∈ ([4] : List Nat) := hj; simp only [List.mem_cons, List.not_mem_nil, or_false] at h; rcases h with rfl <;> rfl)))))
  (zb3 (zg8 (QP.e (zr2 ya7 rfl z_tuple boot_tuple (zb5 (zd1 (zd1 (za2 4) (QP.v za6)) (QP.v za6)) zd4))))))))
noncomputable def yj3 (g_l_mixed : (List D -> Option D)) (g_l_cell_at : (List D -> Option D)) : PSt -> Option (Fl × PSt) :=
  (za9 (zb4 4 (za5 (za7 g_l_mixed (za1 (za0 0) (za1 (f2 zc6 (f2 dIx (za0 1) (fC (.int 2))) (fC (.int 40))) (za1 (za0 2) za3))))))
  (za9 (fIf (za8 (fB (f2 dEq (za0 2) (fC (.int 1)))))
   (za9 (zb4 5 (za5 (f2 dIx (zd7 (fKs [.int 1, .int 12, .int 144, .int 1728, .int 20736, .int 248832, .int 2985984, .int 35831808])) (f2 zl4 (f2 dIx (za0 1) (fC (.int 2))) (fC (.int 8))))))
  (zb4 4 (za5 (f2 zt3 (za7 g_l_cell_at (za1 (za0 0) (za1 (f2 zc6 (fC (.int 40)) (f2 zt3 (f2 dIx (za0 1) (fC (.int 2))) (fC (.int 8)))) za3))) (za0 5)))))
   zc1)
  (za9 (zh7 1 zb6 (fC (.int 2)) (f2 zc6 (f2 dIx (za0 1) (fC (.int 2))) (fC (.int 1))))
  (za9 (zc3 (zc9 1 (zh5 1 zb6 (fC (.int 1))) (za1 (f2 zl4 (za0 4) (za0 3)) za3) zc7))
  (zd3 (za5 (f2 zl4 (za0 4) (za0 3))))))))
noncomputable abbrev zy2 : Stmt := top 24
theorem yi8 : FnScope ["_law_script", "_law_state", "_law_salt", "_law_many", "_law_number", "_law_share"] ["_law_script", "_law_state", "_law_salt", "_law_many"] (zb1 zy2) := ⟨rfl, rfl, rfl, by decide +kernel, rfl, by decide +kernel, by decide +kernel⟩
theorem we8 {n : Nat} {f : Addr} {fd : FuncData} {g_l_mixed : (List D -> Option D)} {f_l_mixed : Addr} {fd_l_mixed : FuncData} {g_l_cell_at : (List D -> Option D)} {f_l_cell_at : Addr} {fd_l_cell_at : FuncData} (D_l_next : Dn K mg "_law_next" zy2 ["_law_script", "_law_state", "_law_salt", "_law_many"] f fd)
    (D_l_mixed : Dn K mg "_law_mixed" zq9 ["_law_script", "_law_k", "_law_salt"] f_l_mixed fd_l_mixed) (G_l_mixed : FnOk P w K mg base CX0 n f_l_mixed fd_l_mixed ["_law_script", "_law_k", "_law_salt"] (SpP 3 K κ g_l_mixed))
    (D_l_cell_at : Dn K mg "_law_cell_at" zp4 ["_law_script", "_law_k"] f_l_cell_at fd_l_cell_at) (G_l_cell_at : FnOk P w K mg base CX0 n f_l_cell_at fd_l_cell_at ["_law_script", "_law_k"] (SpP 2 K κ g_l_cell_at)) :
    FnOk P w K mg base CX0 (n + 1) f fd ["_law_script", "_law_state", "_law_salt", "_law_many"] (SpE 4 K κ (zc8 [false, true, false, false]) (gE 4 2 (zc8 [false, true, false, false]) (yj3 g_l_mixed g_l_cell_at))) :=
  zy6 D_l_next.F yi8 (fun i hi => zs0 hi) fun cdv A outer s H E hr =>
  (zb0 (zf1 4 yi8.nd rfl (by first | exact Or.inl rfl | exact Or.inr rfl) rfl rfl (QP.e (zn1 D_l_mixed G_l_mixed hr rfl rfl (zb5 (za2 0) (zb5 (QP.v (ze4 zl1 (zd1 (za2 1) (QP.v za6)) (QP.v za6))) (zb5 (za2 2) zd4))) (zd8 (zd8 (zd8 zj8))))))
  (zb0 (zg5 (QT.e (zf7 (zl5 (Room.units hr)) (za2 2) (QP.v za6) (ze9 _)))
   (zb0 (zf1 5 yi8.nd rfl (by first | exact Or.inl rfl | exact Or.inr rfl) rfl rfl (QP.e (ye2 (zj1 (zv0 (.int (.int (.int (.int (.int (.int (.int (.int .nil)))))))))) (QP.v (ze4 zp6 (zd1 (za2 1) (QP.v za6)) (QP.v za6))))))
  (zb3 (zf1 4 yi8.nd rfl (by first | exact Or.inl rfl | exact Or.inr rfl) rfl rfl (QP.e (ze4 zz4 (QP.v (zn1 D_l_cell_at G_l_cell_at hr rfl rfl (zb5 (za2 0) (zb5 (QP.v (ze4 zl1 (QP.v za6) (QP.v (ze4 zz4 (zd1 (za2 1) (QP.v za6)) (QP.v za6))))) zd4)) (zd8 (zd8 zj8)))) (za2 5))))))
   ze8)
  (zb0 (zw7 (j := 1) rfl (ze4 zl1 (zd1 (za2 1) (QP.v za6)) (QP.v za6)) (ze5 1) (QP.v za6))
  (zb0 (zl2 (zs7 (j := 1) rfl (zr9 (ze5 1) (QP.v za6)) (zb9 (ze4 zp6 (za2 4) (za2 3)) ze1)))
  (zb3 (zg8 (QP.e (ze4 zp6 (za2 4) (za2 3)))))))))
noncomputable def ys8  : PSt -> Option (Fl × PSt) :=
  (zh7 0 zb6 (fC (.int 0)) (f2 zc6 (f2 zc6 (f2 dIx (za0 0) (fC (.int 0))) (fC (.str "\n"))) (f2 zp3 (fC (.str " ")) (za0 1))))
noncomputable abbrev zy3 : Stmt := top 25
theorem we9 : FnScope ["_law_state", "_law_blanks"] ["_law_state", "_law_blanks"] (zb1 zy3) := ⟨rfl, rfl, rfl, by decide +kernel, rfl, by decide +kernel, by decide +kernel⟩
theorem wf0 {n : Nat} {f : Addr} {fd : FuncData}  (D_l_line : Dn K mg "_law_line" zy3 ["_law_state", "_law_blanks"] f fd)
     :
    FnOk P w K mg base CX0 (n + 1) f fd ["_law_state", "_law_blanks"] (SpE 2 K κ (zc8 [true, false]) (gE 2 0 (zc8 [true, false]) (ys8 ))) :=
  zy6 D_l_line.F we9 (fun i hi => zs0 hi) fun cdv A outer s H E hr =>
  (zb3 (zw7 (j := 0) rfl (ze4 zl1 (QP.v (ze4 zl1 (zd1 (za2 0) (QP.v za6)) (QP.v ze2))) (QP.v (ze4 yi5 (QP.v ze2) (za2 1)))) (ze5 0) (QP.v za6)))
noncomputable def yk6  : PSt -> Option (Fl × PSt) :=
  (zd3 (za5 (f2 zm1 (f2 zm1 (za7 ze3 (za1 (f2 dIx (za0 0) (fC (.int 0))) za3)) (fC (.int 1))) (fMt ys6 (f2 dIx (za0 0) (fC (.int 0))) (za1 (fC (.str "\n")) za3)))))
noncomputable abbrev zt6 : Stmt := top 26
theorem xr1 : FnScope ["_law_state"] ["_law_state"] (zb1 zt6) := ⟨rfl, rfl, rfl, by decide +kernel, rfl, by decide +kernel, by decide +kernel⟩
theorem xr2 {n : Nat} {f : Addr} {fd : FuncData}  (D_l_column : Dn K mg "_law_column" zt6 ["_law_state"] f fd)
    (z_len : mg "len" = none) :
    FnOk P w K mg base CX0 (n + 1) f fd ["_law_state"] (SpP 1 K κ (gP 1 0 (yk6 ))) :=
  zm0 D_l_column.F xr1 fun cdv A outer s H E B hr =>
  (zb3 (zg8 (QP.e (ze4 ym8 (QP.v (ze4 ym8 (QP.v (zm4 zw2 rfl z_len boot_len (zb5 (zd1 (za2 0) (QP.v za6)) zd4))) (QP.v za6))) (QP.v (yz4 PySem.F.slot_str_rfind PySem.F.type_str_rfind xe6 (zd1 (za2 0) (QP.v za6)) (zb5 (QP.v ze2) zd4)))))))
noncomputable def yp6 (g_l_line : (List D -> Option (D × List D))) (g_l_column : (List D -> Option D)) (g_l_next : (List D -> Option (D × List D))) (g_l_set : (List D -> Option (D × List D))) : PSt -> Option (Fl × PSt) :=
  (za9 (zq1 6 (zo7 (za0 1))
   (za9 (fIf (za8 (fB (f2 dEq (f2 dIx (za0 6) (fC (.int 0))) (fC (.str "word")))))
   (zh7 4 zb6 (fC (.int 0)) (f2 zc6 (f2 dIx (za0 4) (fC (.int 0))) (f2 dIx (za0 6) (fC (.int 1)))))
   zc1)
  (za9 (fIf (za8 (zf6 (fB (f2 dEq (f2 dIx (za0 6) (fC (.int 0))) (fC (.str "gap")))) (fT (za0 2))))
   (zh7 4 zb6 (fC (.int 0)) (f2 zc6 (f2 dIx (za0 4) (fC (.int 0))) (f2 dIx (za0 6) (fC (.int 1)))))
   zc1)
  (za9 (fIf (za8 (zf6 (fB (f2 dEq (f2 dIx (za0 6) (fC (.int 0))) (fC (.str "gap")))) (zi3 (fT (za0 2)))))
   (zc3 (fIO [.io 4, .im (za0 3)] g_l_line))
   zc1)
  (za9 (fIf (za8 (fB (f2 dEq (f2 dIx (za0 6) (fC (.int 0))) (fC (.str "end")))))
   (zc3 (fIO [.io 4, .im (za0 3)] g_l_line))
   zc1)
  (za9 (fIf (za8 (fB (f2 dEq (f2 dIx (za0 6) (fC (.int 0))) (fC (.str "stop")))))
   (za9 (fIf (za8 (zf6 (fT (za0 2)) (fB (f2 dGt (za7 g_l_column (za1 (za0 4) za3)) (f2 dIx (za0 6) (fC (.int 1)))))))
   (zd3 (za5 (fC (.bl false))))
   zc1)
  (za9 (fIf (za8 (fB (f2 dGt (za7 g_l_column (za1 (za0 4) za3)) (f2 dIx (za0 6) (fC (.int 1))))))
   (zc3 (fIO [.io 4, .im (fC (.int 0))] g_l_line))
   zc1)
  (zh7 4 zb6 (fC (.int 0)) (f2 zc6 (f2 dIx (za0 4) (fC (.int 0))) (f2 zp3 (fC (.str " ")) (f2 zm1 (f2 dIx (za0 6) (fC (.int 1))) (za7 g_l_column (za1 (za0 4) za3))))))))
   zc1)
  (za9 (fIf (za8 (zf6 (fB (f2 dEq (f2 dIx (za0 6) (fC (.int 0))) (fC (.str "end")))) (fT (za0 2))))
   (zd3 (za5 (fC (.bl false))))
   zc1)
  (za9 (fIf (za8 (fB (f2 dEq (f2 dIx (za0 6) (fC (.int 0))) (fC (.str "group")))))
   (za9 (zb4 7 (za5 (zb7 (za0 2))))
  (za9 (fIf (za8 (zf6 (zi3 (fT (za0 2))) (fB (f2 dGt (za0 5) (fC (.int 0))))))
   (zb4 7 (fE2 dEq (fIO [.im (za0 0), .io 4, .im (za0 5), .im (fC (.int 2))] g_l_next) (fC (.int 0))))
   (fIf (za8 (zi3 (fT (za0 2))))
   (zc3 (zc9 4 (zh5 4 zb6 (fC (.int 1))) (za1 (fC (.int 1)) za3) zc7))
   zc1))
  (fIf (zz5 (fTE (fIO [.im (za0 0), .im (f2 dIx (za0 6) (fC (.int 1))), .im (za0 7), .im (za0 3), .io 4, .im (za0 5)] g_l_set)))
   (zd3 (za5 (fC (.bl false))))
   zc1)))
   zc1)
  (za9 (fIf (za8 (fB (f2 dEq (f2 dIx (za0 6) (fC (.int 0))) (fC (.str "hang")))))
   (za9 (zb4 8 (za5 (f2 zc6 (za0 3) (f2 dIx (za0 6) (fC (.int 1))))))
  (fIf (zz5 (fTE (fIO [.im (za0 0), .im (f2 dIx (za0 6) (fC (.int 2))), .im (za0 2), .im (za0 8), .io 4, .im (za0 5)] g_l_set)))
   (zd3 (za5 (fC (.bl false))))
   zc1))
   zc1)
  (fIf (za8 (fB (f2 dEq (f2 dIx (za0 6) (fC (.int 0))) (fC (.str "either")))))
   (za9 (zb4 9 (fIO [.im (za0 0), .io 4, .im (f2 zc6 (za0 5) (f2 zp3 (fC (.int 9)) (za7 yb8 (za1 (f2 dEq (za0 5) (fC (.int 0))) za3)))), .im (za7 ze3 (za1 (f2 dIx (za0 6) (fC (.int 1))) za3))] g_l_next))
  (fIf (zz5 (fTE (fIO [.im (za0 0), .im (f2 dIx (f2 dIx (za0 6) (fC (.int 1))) (za0 9)), .im (za0 2), .im (za0 3), .io 4, .im (za0 5)] g_l_set)))
   (zd3 (za5 (fC (.bl false))))
   zc1))
   zc1))))))))))
  (zd3 (za5 (fC (.bl true)))))
noncomputable abbrev ya5 : Stmt := top 27
theorem yd0 : FnScope ["_law_script", "_law_row_here", "_law_flat", "_law_hang", "_law_state", "_law_salt", "_law_piece", "_law_inner", "_law_blanks", "_law_at"] ["_law_script", "_law_row_here", "_law_flat", "_law_hang", "_law_state", "_law_salt"] (zb1 ya5) := ⟨rfl, rfl, rfl, by decide +kernel, rfl, by decide +kernel, by decide +kernel⟩
theorem wl0 {n : Nat} {f : Addr} {fd : FuncData} {g_l_line : (List D -> Option (D × List D))} {f_l_line : Addr} {fd_l_line : FuncData} {g_l_column : (List D -> Option D)} {f_l_column : Addr} {fd_l_column : FuncData} {g_l_next : (List D -> Option (D × List D))} {f_l_next : Addr} {fd_l_next : FuncData} {g_l_set : (List D -> Option (D × List D))} (D_l_set : Dn K mg "_law_set" ya5 ["_law_script", "_law_row_here", "_law_flat", "_law_hang", "_law_state", "_law_salt"] f fd)
    (D_l_line : Dn K mg "_law_line" zy3 ["_law_state", "_law_blanks"] f_l_line fd_l_line) (G_l_line : FnOk P w K mg base CX0 n f_l_line fd_l_line ["_law_state", "_law_blanks"] (SpE 2 K κ (zc8 [true, false]) g_l_line))
    (D_l_column : Dn K mg "_law_column" zt6 ["_law_state"] f_l_column fd_l_column) (G_l_column : FnOk P w K mg base CX0 n f_l_column fd_l_column ["_law_state"] (SpP 1 K κ g_l_column))
    (D_l_next : Dn K mg "_law_next" zy2 ["_law_script", "_law_state", "_law_salt", "_law_many"] f_l_next fd_l_next) (G_l_next : FnOk P w K mg base CX0 n f_l_next fd_l_next ["_law_script", "_law_state", "_law_salt", "_law_many"] (SpE 4 K κ (zc8 [false, true, false, false]) g_l_next))
    (G_l_set : FnOk P w K mg base CX0 n f fd ["_law_script", "_law_row_here", "_law_flat", "_law_hang", "_law_state", "_law_salt"] (SpE 6 K κ (zc8 [false, false, false, false, true, false]) g_l_set))
    (z_len : mg "len" = none)
    (z_int : mg "int" = none) :
    FnOk P w K mg base CX0 (n + 1) f fd ["_law_script", "_law_row_here", "_law_flat", "_law_hang", "_law_state", "_law_salt"] (SpE 6 K κ (zc8 [false, false, false, false, true, false]) (gE 6 4 (zc8 [false, false, false, false, true, false]) (yp6 g_l_line g_l_column g_l_next g_l_set))) :=
  zy6 D_l_set.F yd0 (fun i hi => zs0 hi) fun cdv A outer s H E hr =>
  (zb0 (yl3 6 1 PassesOwn.never rfl yd0.nd rfl (by first | exact Or.inl rfl | exact Or.inr rfl) rfl rfl rfl
   (zb0 (zg5 (QT.e (zf7 (zl5 (Room.units hr)) (zd1 (za2 6) (QP.v za6)) (QP.v ze2) (ze9 _)))
   (zb3 (zw7 (j := 4) rfl (ze4 zl1 (zd1 (za2 4) (QP.v za6)) (zd1 (za2 6) (QP.v za6))) (ze5 4) (QP.v za6)))
   ze8)
  (zb0 (zg5 (QT.e (zz9 (zs6 (zf7 (zl5 (Room.units hr)) (zd1 (za2 6) (QP.v za6)) (QP.v ze2) (ze9 _)) (zr5 (zr8 (za2 2))))))
   (zb3 (zw7 (j := 4) rfl (ze4 zl1 (zd1 (za2 4) (QP.v za6)) (zd1 (za2 6) (QP.v za6))) (ze5 4) (QP.v za6)))
   ze8)
  (zb0 (zg5 (QT.e (zz9 (zs6 (zf7 (zl5 (Room.units hr)) (zd1 (za2 6) (QP.v za6)) (QP.v ze2) (ze9 _)) (zr5 (ye7 (zr8 (za2 2)))))))
   (zb3 (zl2 (zs9 D_l_line G_l_line hr rfl (zp1 4 (zd9 (za2 3) zi4)) rfl (zj9 rfl) (show List.Nodup ([4] : List Nat) by decide) (fun j hj => by have h : j ∈ ([4] : List Nat) := hj; simp only [List.mem_cons, List.not_mem_nil, or_false] at h; rcases h with rfl <;> rfl))))
   ze8)
  (zb0 (zg5 (QT.e (zf7 (zl5 (Room.units hr)) (zd1 (za2 6) (QP.v za6)) (QP.v ze2) (ze9 _)))
   (zb3 (zl2 (zs9 D_l_line G_l_line hr rfl (zp1 4 (zd9 (za2 3) zi4)) rfl (zj9 rfl) (show List.Nodup ([4] : List Nat) by decide) (fun j hj => by have h : j ∈ ([4] : List Nat) := hj; simp only [List.mem_cons, List.not_mem_nil, or_false] at h; rcases h with rfl <;> rfl))))
   ze8)
  (zb0 (zg5 (QT.e (zf7 (zl5 (Room.units hr)) (zd1 (za2 6) (QP.v za6)) (QP.v ze2) (ze9 _)))
   (zb0 (zg5 (QT.e (zz9 (zs6 (zr8 (za2 2)) (zr5 (zf7 yw5 (QP.v (zn1 D_l_column G_l_column hr rfl rfl (zb5 (za2 4) zd4) (zd8 zj8))) (zd1 (za2 6) (QP.v za6)) (ze9 _))))))
   (zb3 (zg8 (QP.e zu7)))
   ze8)
  (zb0 (zg5 (QT.e (zf7 yw5 (QP.v (zn1 D_l_column G_l_column hr rfl rfl (zb5 (za2 4) zd4) (zd8 zj8))) (zd1 (za2 6) (QP.v za6)) (ze9 _)))
   (zb3 (zl2 (zs9 D_l_line G_l_line hr rfl (zp1 4 (zd9 (QP.v za6) zi4)) rfl (zj9 rfl) (show List.Nodup ([4] : List Nat) by decide) (fun j hj => by have h : j ∈ ([4] : List Nat) := hj; simp only [List.mem_cons, List.not_mem_nil, or_false] at h; rcases h with rfl <;> rfl))))
   ze8)
  (zb3 (zw7 (j := 4) rfl (ze4 zl1 (zd1 (za2 4) (QP.v za6)) (QP.v (ze4 yi5 (QP.v ze2) (QP.v (ze4 ym8 (zd1 (za2 6) (QP.v za6)) (QP.v (zn1 D_l_column G_l_column hr rfl rfl (zb5 (za2 4) zd4) (zd8 zj8)))))))) (ze5 4) (QP.v za6)))))
   ze8)
  (zb0 (zg5 (QT.e (zz9 (zs6 (zf7 (zl5 (Room.units hr)) (zd1 (za2 6) (QP.v za6)) (QP.v ze2) (ze9 _)) (zr5 (zr8 (za2 2))))))
   (zb3 (zg8 (QP.e zu7)))
   ze8)
  (zb0 (zg5 (QT.e (zf7 (zl5 (Room.units hr)) (zd1 (za2 6) (QP.v za6)) (QP.v ze2) (ze9 _)))
   (zb0 (zf1 7 yd0.nd rfl (by first | exact Or.inl rfl | exact Or.inr rfl) rfl rfl (QP.e (QV.p (za2 2))))
  (zb0 (zg5 (QT.e (zz9 (zs6 (ye7 (zr8 (za2 2))) (zr5 (zf7 yw5 (za2 5) (QP.v za6) (ze9 _))))))
   (zb3 (zf1 7 yd0.nd rfl (by first | exact Or.inl rfl | exact Or.inr rfl) rfl rfl (xa2 (zl5 (Room.units hr)) (zs9 D_l_next G_l_next hr rfl (zd9 (za2 0) (zp1 4 (zd9 (za2 5) (zd9 (QP.v za6) zi4)))) rfl (zj9 rfl) (show List.Nodup ([4] : List Nat) by decide) (fun j hj => by have h : j ∈ ([4] : List Nat) := hj; simp only [List.mem_cons, List.not_mem_nil, or_false] at h; rcases h with rfl <;> rfl)) (QP.v za6) (ze9 _))))
   (zb3 (zg5 (QT.e (ye7 (zr8 (za2 2))))
   (zb3 (zl2 (zs7 (j := 4) rfl (zr9 (ze5 4) (QP.v za6)) (zb9 za6 ze1))))
   ze8)))
  (zb3 (zg5 (yl5 (yg8 (zs9 D_l_set G_l_set hr rfl (zd9 (za2 0) (zd9 (zd1 (za2 6) (QP.v za6)) (zd9 (za2 7) (zd9 (za2 3) (zp1 4 (zd9 (za2 5) zi4)))))) rfl (zj9 rfl) (show List.Nodup ([4] : List Nat) by decide) (fun j hj => by have h : j ∈ ([4] : List Nat) := hj; simp only [List.mem_cons, List.not_mem_nil, or_false] at h; rcases h with rfl <;> rfl))))
   (zb3 (zg8 (QP.e zu7)))
   ze8))))
   ze8)
  (zb0 (zg5 (QT.e (zf7 (zl5 (Room.units hr)) (zd1 (za2 6) (QP.v za6)) (QP.v ze2) (ze9 _)))
   (zb0 (zf1 8 yd0.nd rfl (by first | exact Or.inl rfl | exact Or.inr rfl) rfl rfl (QP.e (ze4 zl1 (za2 3) (zd1 (za2 6) (QP.v za6)))))
  (zb3 (zg5 (yl5 (yg8 (zs9 D_l_set G_l_set hr rfl (zd9 (za2 0) (zd9 (zd1 (za2 6) (QP.v za6)) (zd9 (za2 2) (zd9 (za2 8) (zp1 4 (zd9 (za2 5) zi4)))))) rfl (zj9 rfl) (show List.Nodup ([4] : List Nat) by decide) (fun j hj => by have h : j ∈ ([4] : List Nat) := hj; simp only [List.mem_cons, List.not_mem_nil, or_false] at h; rcases h with rfl <;> rfl))))
   (zb3 (zg8 (QP.e zu7)))
   ze8)))
   ze8)
  (zb3 (zg5 (QT.e (zf7 (zl5 (Room.units hr)) (zd1 (za2 6) (QP.v za6)) (QP.v ze2) (ze9 _)))
   (zb0 (zf1 9 yd0.nd rfl (by first | exact Or.inl rfl | exact Or.inr rfl) rfl rfl (zs9 D_l_next G_l_next hr rfl (zd9 (za2 0) (zp1 4 (zd9 (QP.v (ze4 zl1 (za2 5) (QP.v (ze4 yi5 (QP.v za6) (QP.v (zr2 xx4 rfl z_int boot_int (zb5 (QP.v (yl0 (zl5 (Room.units hr)) (za2 5) (QP.v za6) (ze9 _))) zd4))))))) (zd9 (QP.v (zm4 zw2 rfl z_len boot_len (zb5 (zd1 (za2 6) (QP.v za6)) zd4))) zi4)))) rfl (zj9 rfl) (show List.Nodup ([4] : List Nat) by decide) (fun j hj => by have h : j ∈ ([4] : List Nat) := hj; simp only [List.mem_cons, List.not_mem_nil, or_false] at h; rcases h with rfl <;> rfl)))
  (zb3 (zg5 (yl5 (yg8 (zs9 D_l_set G_l_set hr rfl (zd9 (za2 0) (zd9 (zd1 (zd1 (za2 6) (QP.v za6)) (za2 9)) (zd9 (za2 2) (zd9 (za2 3) (zp1 4 (zd9 (za2 5) zi4)))))) rfl (zj9 rfl) (show List.Nodup ([4] : List Nat) by decide) (fun j hj => by have h : j ∈ ([4] : List Nat) := hj; simp only [List.mem_cons, List.not_mem_nil, or_false] at h; rcases h with rfl <;> rfl))))
   (zb3 (zg8 (QP.e zu7)))
   ze8)))
   ze8)))))))))))
  (zb3 (zg8 (QP.e zu7))))
noncomputable def xc3 (g_l_set : (List D -> Option (D × List D))) : PSt -> Option (Fl × PSt) :=
  (za9 (zb4 3 (za5 (zd7 (za1 (fC (.str "")) (za1 (zd7 za3) (za1 (fC (.int 0)) za3))))))
  (za9 (fIf (fTE (fIO [.im (za0 0), .im (za0 1), .im (fC (.bl false)), .im (fC (.int 0)), .io 3, .im (za0 2)] g_l_set))
   (zd3 (za5 (zg7 (za1 (zb7 (f2 dIx (za0 3) (fC (.int 0)))) (za1 (za7 zg1 (za1 (f2 dIx (za0 3) (fC (.int 1))) za3)) za3)))))
   zc1)
  (za9 (zb4 3 (za5 (zd7 (za1 (fC (.str "")) (za1 (zd7 za3) (za1 (fC (.int 0)) za3))))))
  (za9 (zc3 (fIO [.im (za0 0), .im (za0 1), .im (fC (.bl false)), .im (fC (.int 0)), .io 3, .im (fC (.int 0))] g_l_set))
  (zd3 (za5 (zg7 (za1 (zb7 (f2 dIx (za0 3) (fC (.int 0)))) (za1 (za7 zg1 (za1 (f2 dIx (za0 3) (fC (.int 1))) za3)) za3)))))))))
noncomputable abbrev zv3 : Stmt := top 28
theorem yn4 : FnScope ["_law_script", "_law_row_here", "_law_salt", "_law_state"] ["_law_script", "_law_row_here", "_law_salt"] (zb1 zv3) := ⟨rfl, rfl, rfl, by decide +kernel, rfl, by decide +kernel, by decide +kernel⟩
theorem xy2 {n : Nat} {f : Addr} {fd : FuncData} {g_l_set : (List D -> Option (D × List D))} {f_l_set : Addr} {fd_l_set : FuncData} (D_l_drawn : Dn K mg "_law_drawn" zv3 ["_law_script", "_law_row_here", "_law_salt"] f fd)
    (D_l_set : Dn K mg "_law_set" ya5 ["_law_script", "_law_row_here", "_law_flat", "_law_hang", "_law_state", "_law_salt"] f_l_set fd_l_set) (G_l_set : FnOk P w K mg base CX0 n f_l_set fd_l_set ["_law_script", "_law_row_here", "_law_flat", "_law_hang", "_law_state", "_law_salt"] (SpE 6 K κ (zc8 [false, false, false, false, true, false]) g_l_set))
    (z_tuple : mg "tuple" = none) :
    FnOk P w K mg base CX0 (n + 1) f fd ["_law_script", "_law_row_here", "_law_salt"] (SpP 3 K κ (gP 3 1 (xc3 g_l_set))) :=
  zm0 D_l_drawn.F yn4 fun cdv A outer s H E B hr =>
  (zb0 (zf1 3 yn4.nd rfl (by first | exact Or.inl rfl | exact Or.inr rfl) rfl rfl (QP.e (zj1 (zb9 ze2 (zb9 (zj1 ze1) (zb9 za6 ze1))))))
  (zb0 (zg5 (yg8 (zs9 D_l_set G_l_set hr rfl (zd9 (za2 0) (zd9 (za2 1) (zd9 (QP.v zu7) (zd9 (QP.v za6) (zp1 3 (zd9 (za2 2) zi4)))))) rfl (zj9 rfl) (show List.Nodup ([3] : List Nat) by decide) (fun j hj => by have h : j ∈ ([3] : List Nat) := hj; simp only [List.mem_cons, List.not_mem_nil, or_false] at h; rcases h with rfl <;> rfl)))
   (zb3 (zg8 (QP.e (zp0 (zb9 (QV.p (zd1 (za2 3) (QP.v za6))) (zb9 (zr2 ya7 rfl z_tuple boot_tuple (zb5 (zd1 (za2 3) (QP.v za6)) zd4)) ze1))))))
   ze8)
  (zb0 (zf1 3 yn4.nd rfl (by first | exact Or.inl rfl | exact Or.inr rfl) rfl rfl (QP.e (zj1 (zb9 ze2 (zb9 (zj1 ze1) (zb9 za6 ze1))))))
  (zb0 (zl2 (zs9 D_l_set G_l_set hr rfl (zd9 (za2 0) (zd9 (za2 1) (zd9 (QP.v zu7) (zd9 (QP.v za6) (zp1 3 (zd9 (QP.v za6) zi4)))))) rfl (zj9 rfl) (show List.Nodup ([3] : List Nat) by decide) (fun j hj => by have h : j ∈ ([3] : List Nat) := hj; simp only [List.mem_cons, List.not_mem_nil, or_false] at h; rcases h with rfl <;> rfl)))
  (zb3 (zg8 (QP.e (zp0 (zb9 (QV.p (zd1 (za2 3) (QP.v za6))) (zb9 (zr2 ya7 rfl z_tuple boot_tuple (zb5 (zd1 (za2 3) (QP.v za6)) zd4)) ze1))))))))))
noncomputable def yg5 (g_l_taken : (List D -> Option (D × List D))) : PSt -> Option (Fl × PSt) :=
  (za9 (zb4 3 (za5 (fC (.str ""))))
  (za9 (zq1 4 (zo7 (za0 0))
   (za9 (fIf (za8 (fB (f2 dEq (f2 dIx (za0 4) (fC (.int 0))) (fC (.str "word")))))
   (zb4 3 (za5 (f2 zc6 (za0 3) (f2 dIx (za0 4) (fC (.int 1))))))
   zc1)
  (za9 (fIf (za8 (fB (f2 dEq (f2 dIx (za0 4) (fC (.int 0))) (fC (.str "hang")))))
   (zb4 3 (yy2 zc6 (za0 3) (fIO [.im (f2 dIx (za0 4) (fC (.int 2))), .im (za0 1), .io 2] g_l_taken)))
   zc1)
  (za9 (fIf (za8 (fB (f2 dEq (f2 dIx (za0 4) (fC (.int 0))) (fC (.str "group")))))
   (za9 (zb4 5 (xg1 (zb7 (za0 1)) (fE2 dEq (zc9 2 zb6 (za1 (fC (.int 0)) za3) yp2) (fC (.int 0)))))
  (zb4 3 (yy2 zc6 (za0 3) (fIO [.im (f2 dIx (za0 4) (fC (.int 1))), .im (za0 5), .io 2] g_l_taken))))
   zc1)
  (fIf (za8 (fB (f2 dEq (f2 dIx (za0 4) (fC (.int 0))) (fC (.str "either")))))
   (za9 (zb4 6 (zc9 2 zb6 (za1 (fC (.int 0)) za3) yp2))
  (zb4 3 (yy2 zc6 (za0 3) (fIO [.im (f2 dIx (f2 dIx (za0 4) (fC (.int 1))) (za0 6)), .im (za0 1), .io 2] g_l_taken))))
   zc1)))))
  (zi6 3)))
noncomputable abbrev zv4 : Stmt := top 29
theorem zq8 : FnScope ["_law_row_here", "_law_flat", "_law_choices", "_law_text", "_law_piece", "_law_inner", "_law_at"] ["_law_row_here", "_law_flat", "_law_choices"] (zb1 zv4) := ⟨rfl, rfl, rfl, by decide +kernel, rfl, by decide +kernel, by decide +kernel⟩
theorem xy3 {n : Nat} {f : Addr} {fd : FuncData} {g_l_taken : (List D -> Option (D × List D))} (D_l_taken : Dn K mg "_law_taken" zv4 ["_law_row_here", "_law_flat", "_law_choices"] f fd)
    (G_l_taken : FnOk P w K mg base CX0 n f fd ["_law_row_here", "_law_flat", "_law_choices"] (SpE 3 K κ (zc8 [false, false, true]) g_l_taken)) :
    FnOk P w K mg base CX0 (n + 1) f fd ["_law_row_here", "_law_flat", "_law_choices"] (SpE 3 K κ (zc8 [false, false, true]) (gE 3 4 (zc8 [false, false, true]) (yg5 g_l_taken))) :=
  zy6 D_l_taken.F zq8 (fun i hi => zs0 hi) fun cdv A outer s H E hr =>
  (zb0 (zf1 3 zq8.nd rfl (by first | exact Or.inl rfl | exact Or.inr rfl) rfl rfl (QP.e ze2))
  (zb0 (yl3 4 0 PassesOwn.never rfl zq8.nd rfl (by first | exact Or.inl rfl | exact Or.inr rfl) rfl rfl rfl
   (zb0 (zg5 (QT.e (zf7 (zl5 (Room.units hr)) (zd1 (za2 4) (QP.v za6)) (QP.v ze2) (ze9 _)))
   (zb3 (zf1 3 zq8.nd rfl (by first | exact Or.inl rfl | exact Or.inr rfl) rfl rfl (QP.e (ze4 zl1 (za2 3) (zd1 (za2 4) (QP.v za6))))))
   ze8)
  (zb0 (zg5 (QT.e (zf7 (zl5 (Room.units hr)) (zd1 (za2 4) (QP.v za6)) (QP.v ze2) (ze9 _)))
   (zb3 (zf1 3 zq8.nd rfl (by first | exact Or.inl rfl | exact Or.inr rfl) rfl rfl (yr7 zl1 (za2 3) (zs9 D_l_taken G_l_taken hr rfl (zd9 (zd1 (za2 4) (QP.v za6)) (zd9 (za2 1) (zp1 2 zi4))) rfl (zj9 rfl) (show List.Nodup ([2] : List Nat) by decide) (fun j hj => by have h : j ∈ ([2] : List Nat) := hj; simp only [List.mem_cons, List.not_mem_nil, or_false] at h; rcases h with rfl <;> rfl)))))
   ze8)
  (zb0 (zg5 (QT.e (zf7 (zl5 (Room.units hr)) (zd1 (za2 4) (QP.v za6)) (QP.v ze2) (ze9 _)))
   (zb0 (zf1 5 zq8.nd rfl (by first | exact Or.inl rfl | exact Or.inr rfl) rfl rfl (xx8 (QV.p (za2 1)) (xn4 (xa2 (zl5 (Room.units hr)) (yt9 (j := 2) rfl (ze5 2) (zb5 (QP.v za6) zd4)) (QP.v za6) (ze9 _)))))
  (zb3 (zf1 3 zq8.nd rfl (by first | exact Or.inl rfl | exact Or.inr rfl) rfl rfl (yr7 zl1 (za2 3) (zs9 D_l_taken G_l_taken hr rfl (zd9 (zd1 (za2 4) (QP.v za6)) (zd9 (za2 5) (zp1 2 zi4))) rfl (zj9 rfl) (show List.Nodup ([2] : List Nat) by decide) (fun j hj => by have h : j ∈ ([2] : List Nat) := hj; simp only [List.mem_cons, List.not_mem_nil, or_false] at h; rcases h with rfl <;> rfl))))))
   ze8)
  (zb3 (zg5 (QT.e (zf7 (zl5 (Room.units hr)) (zd1 (za2 4) (QP.v za6)) (QP.v ze2) (ze9 _)))
   (zb0 (zf1 6 zq8.nd rfl (by first | exact Or.inl rfl | exact Or.inr rfl) rfl rfl (yt9 (j := 2) rfl (ze5 2) (zb5 (QP.v za6) zd4)))
  (zb3 (zf1 3 zq8.nd rfl (by first | exact Or.inl rfl | exact Or.inr rfl) rfl rfl (yr7 zl1 (za2 3) (zs9 D_l_taken G_l_taken hr rfl (zd9 (zd1 (zd1 (za2 4) (QP.v za6)) (za2 6)) (zd9 (za2 1) (zp1 2 zi4))) rfl (zj9 rfl) (show List.Nodup ([2] : List Nat) by decide) (fun j hj => by have h : j ∈ ([2] : List Nat) := hj; simp only [List.mem_cons, List.not_mem_nil, or_false] at h; rcases h with rfl <;> rfl))))))
   ze8))))))
  (zb3 (yl2 3 rfl))))
noncomputable def xq1 (g_l_mixed : (List D -> Option D)) (g_l_row : (List D -> Option D)) (g_l_drawn : (List D -> Option D)) (g_p_set_by : (List D -> Option D)) (g_l_taken : (List D -> Option (D × List D))) : PSt -> Option (Fl × PSt) :=
  (za9 (zb4 1 (za5 (za7 g_l_mixed (za1 (za0 0) (za1 (fC (.int 0)) (za1 (fC (.int 40)) za3))))))
  (za9 (zb4 2 (za5 (za7 g_l_row (za1 (za0 0) (za1 (fC (.int 3)) (za1 (f2 zc6 (fC (.int 3)) (f2 zl4 (za0 1) (fC (.int 38)))) (za1 (f2 dIx (zd7 (fKs [.int 3, .int 3, .int 6])) (f2 zl4 (f2 zt3 (za0 1) (fC (.int 38))) (fC (.int 3)))) za3)))))))
  (za9 (zq1 3 (zw4 (za1 (fC (.int 2)) za3))
   (za9 (zb4 4 (za5 (za7 g_l_drawn (za1 (za0 0) (za1 (za0 2) (za1 (f2 dIx (zd7 (za1 (fC (.int 1)) (za1 (fC (.int 50)) za3))) (za0 3)) za3))))))
  (za9 (zb4 5 (za5 (za7 g_p_set_by (za1 (za0 2) (za1 (f2 dIx (za0 4) (fC (.int 1))) za3)))))
  (za9 (zb4 6 (za5 (ym4 g_l_taken (za1 (zb7 (za0 2)) (za1 (fC (.bl false)) (za1 (za7 yu6 (za1 (f2 dIx (za0 4) (fC (.int 1))) za3)) za3))))))
  (fIf (za8 (zk4 (zi3 (fT (za7 ys5 (za1 (za0 5) (za1 (fC (.ty "str")) za3))))) (fB (f2 dNe (fMt zv1 (fC (.str "")) (za1 (fMt yb9 (ye4 5 "\n" " ") (za1 (fC (.str " ")) za3)) za3)) (za0 6)))))
   (zd3 (za5 (fC (.bl false))))
   zc1)))))
  (zd3 (za5 (fC (.bl true)))))))
noncomputable abbrev yc3 : Stmt := top 30
theorem yh5 : FnScope ["_law_script", "_law_number", "_law_row_here", "_law_lap", "_law_drawn_here", "_law_found", "_law_due"] ["_law_script"] (zb1 yc3) := ⟨rfl, rfl, rfl, by decide +kernel, rfl, by decide +kernel, by decide +kernel⟩
theorem ww7 {n : Nat} {f : Addr} {fd : FuncData} {g_l_mixed : (List D -> Option D)} {f_l_mixed : Addr} {fd_l_mixed : FuncData} {g_l_row : (List D -> Option D)} {f_l_row : Addr} {fd_l_row : FuncData} {g_l_drawn : (List D -> Option D)} {f_l_drawn : Addr} {fd_l_drawn : FuncData} {g_p_set_by : (List D -> Option D)} {f_p_set_by : Addr} {fd_p_set_by : FuncData} {g_l_taken : (List D -> Option (D × List D))} {f_l_taken : Addr} {fd_l_taken : FuncData} (D_law : Dn K mg "law" yc3 ["_law_script"] f fd)
    (D_l_mixed : Dn K mg "_law_mixed" zq9 ["_law_script", "_law_k", "_law_salt"] f_l_mixed fd_l_mixed) (G_l_mixed : FnOk P w K mg base CX0 n f_l_mixed fd_l_mixed ["_law_script", "_law_k", "_law_salt"] (SpP 3 K κ g_l_mixed))
    (D_l_row : Dn K mg "_law_row" ya4 ["_law_script", "_law_at", "_law_many", "_law_nest"] f_l_row fd_l_row) (G_l_row : FnOk P w K mg base CX0 n f_l_row fd_l_row ["_law_script", "_law_at", "_law_many", "_law_nest"] (SpP 4 K κ g_l_row))
    (D_l_drawn : Dn K mg "_law_drawn" zv3 ["_law_script", "_law_row_here", "_law_salt"] f_l_drawn fd_l_drawn) (G_l_drawn : FnOk P w K mg base CX0 n f_l_drawn fd_l_drawn ["_law_script", "_law_row_here", "_law_salt"] (SpP 3 K κ g_l_drawn))
    (D_p_set_by : Dn K mg "set_by" zt5 ["row", "choices"] f_p_set_by fd_p_set_by) (G_p_set_by : FnOk P w K mg base CX0 n f_p_set_by fd_p_set_by ["row", "choices"] (SpP 2 K κ g_p_set_by))
    (D_l_taken : Dn K mg "_law_taken" zv4 ["_law_row_here", "_law_flat", "_law_choices"] f_l_taken fd_l_taken) (G_l_taken : FnOk P w K mg base CX0 n f_l_taken fd_l_taken ["_law_row_here", "_law_flat", "_law_choices"] (SpE 3 K κ (zc8 [false, false, true]) g_l_taken))
    (z_range : mg "range" = none)
    (z_list : mg "list" = none)
    (z_isinstance : mg "isinstance" = none)
    (z_str : mg "str" = none) :
    FnOk P w K mg base CX0 (n + 1) f fd ["_law_script"] (SpP 1 K κ (gP 1 6 (xq1 g_l_mixed g_l_row g_l_drawn g_p_set_by g_l_taken))) :=
  zm0 D_law.F yh5 fun cdv A outer s H E B hr =>
  (zb0 (zf1 1 yh5.nd rfl (by first | exact Or.inl rfl | exact Or.inr rfl) rfl rfl (QP.e (zn1 D_l_mixed G_l_mixed hr rfl rfl (zb5 (za2 0) (zb5 (QP.v za6) (zb5 (QP.v za6) zd4))) (zd8 (zd8 (zd8 zj8))))))
  (zb0 (zf1 2 yh5.nd rfl (by first | exact Or.inl rfl | exact Or.inr rfl) rfl rfl (QP.e (zn1 D_l_row G_l_row hr rfl rfl (zb5 (za2 0) (zb5 (QP.v za6) (zb5 (QP.v (ze4 zl1 (QP.v za6) (QP.v (ze4 zp6 (za2 1) (QP.v za6))))) (zb5 (QP.v (ye2 (zj1 (zv0 (.int (.int (.int .nil))))) (QP.v (ze4 zp6 (QP.v (ze4 zz4 (za2 1) (QP.v za6))) (QP.v za6))))) zd4)))) (zd8 (zd8 (zd8 (zd8 zj8)))))))
  (zb0 (yr0 3 PassesOwn.never rfl yh5.nd rfl (by first | exact Or.inl rfl | exact Or.inr rfl) rfl rfl (yi6 rfl z_range (zb5 (QP.v za6) zd4))
   (zb0 (zf1 4 yh5.nd rfl (by first | exact Or.inl rfl | exact Or.inr rfl) rfl rfl (QP.e (zn1 D_l_drawn G_l_drawn hr rfl rfl (zb5 (za2 0) (zb5 (za2 2) (zb5 (QP.v (ye2 (zj1 (zb9 za6 (zb9 za6 ze1))) (za2 3))) zd4))) (zd8 (zd8 (zd8 zj8))))))
  (zb0 (zf1 5 yh5.nd rfl (by first | exact Or.inl rfl | exact Or.inr rfl) rfl rfl (QP.e (zn1 D_p_set_by G_p_set_by hr rfl rfl (zb5 (za2 2) (zb5 (zd1 (za2 4) (QP.v za6)) zd4)) (zd8 (zd8 zj8)))))
  (zb0 (zf1 6 yh5.nd rfl (by first | exact Or.inl rfl | exact Or.inr rfl) rfl rfl (QP.e (xn5 D_l_taken G_l_taken hr rfl (xx9 2) rfl (zb9 (QV.p (za2 2)) (zb9 zu7 (zb9 (zr2 xm3 rfl z_list boot_list (zb5 (zd1 (za2 4) (QP.v za6)) zd4)) ze1))) (zd8 (zd8 (zd8 zj8))))))
  (zb3 (zg5 (QT.e (zz9 (xj8 (ye7 (zr8 (QP.v (zm4 xx3 rfl z_isinstance boot_isinstance (zb5 (za2 5) (zb5 (QP.v (xw7 rfl z_str boot_str)) zd4)))))) (yz2 (zf7 (wj7 (Room.units hr)) (QP.v (yx1 (xy0 PySem.F.slot_str_split PySem.F.type_str_split xe0 (xe7 5) (zb5 (QP.v ze2) zd4)))) (za2 6) (ze9 _))))))
   (zb3 (zg8 (QP.e zu7)))
   ze8))))))
  (zb3 (zg8 (QP.e zu7))))))
noncomputable def yq2  : PSt -> Option (Fl × PSt) :=
  (za9 (zh4 0 zb6 "Place" "broken" (zb7 (za0 1)))
  (zh4 0 zb6 "Place" "margin" (zb7 (za0 2))))
noncomputable abbrev zn5 : Stmt := yd5 (top 5) 0
theorem xj3 : FnScope ["self", "broken", "margin"] ["self", "broken", "margin"] (zb1 zn5) := ⟨rfl, rfl, rfl, by decide +kernel, rfl, by decide +kernel, by decide +kernel⟩
theorem xj4 {n : Nat} {f : Addr} {fd : FuncData}  (K_Place : Kn K mg κ "Place" "Place.__init__" zn5 ["self", "broken", "margin"] f fd)
    (cl_Place : Cls K (κ "Place"))
    (na_broken : zg9 K (κ "Place") "broken")
    (na_margin : zg9 K (κ "Place") "margin") :
    FnOk P w K mg base CX0 (n + 1) f fd ["self", "broken", "margin"] (SpE 3 K κ (zc8 [true, false, false]) (gE 3 0 (zc8 [true, false, false]) (yq2 ))) :=
  zy6 K_Place.F xj3 (fun i hi => zs0 hi) fun cdv A outer s H E hr =>
  (zb0 (zr3 (C := "Place") cl_Place na_broken rfl (QV.p (za2 1)) (ze5 0))
  (zb3 (zr3 (C := "Place") cl_Place na_margin rfl (QV.p (za2 2)) (ze5 0))))
noncomputable def ye0  : PSt -> Option (Fl × PSt) :=
  (za9 (zh4 0 zb6 "Setter" "choices" (zb7 (za0 1)))
  (za9 (zh4 0 zb6 "Setter" "used" (fC (.int 0)))
  (za9 (zh4 0 zb6 "Setter" "column" (fC (.int 0)))
  (zh4 0 zb6 "Setter" "parts" (zd7 za3)))))
noncomputable abbrev zo5 : Stmt := yd5 (top 15) 0
theorem xf0 : FnScope ["self", "choices"] ["self", "choices"] (zb1 zo5) := ⟨rfl, rfl, rfl, by decide +kernel, rfl, by decide +kernel, by decide +kernel⟩
theorem xf1 {n : Nat} {f : Addr} {fd : FuncData}  (K_Setter : Kn K mg κ "Setter" "Setter.__init__" zo5 ["self", "choices"] f fd)
    (cl_Setter : Cls K (κ "Setter"))
    (na_choices : zg9 K (κ "Setter") "choices")
    (na_used : zg9 K (κ "Setter") "used")
    (na_column : zg9 K (κ "Setter") "column")
    (na_parts : zg9 K (κ "Setter") "parts") :
    FnOk P w K mg base CX0 (n + 1) f fd ["self", "choices"] (SpE 2 K κ (zc8 [true, false]) (gE 2 0 (zc8 [true, false]) (ye0 ))) :=
  zy6 K_Setter.F xf0 (fun i hi => zs0 hi) fun cdv A outer s H E hr =>
  (zb0 (zr3 (C := "Setter") cl_Setter na_choices rfl (QV.p (za2 1)) (ze5 0))
  (zb0 (zr3 (C := "Setter") cl_Setter na_used rfl za6 (ze5 0))
  (zb0 (zr3 (C := "Setter") cl_Setter na_column rfl za6 (ze5 0))
  (zb3 (zr3 (C := "Setter") cl_Setter na_parts rfl (zj1 ze1) (ze5 0))))))
noncomputable def zt7  : PSt -> Option (Fl × PSt) :=
  (za9 (fIf (za8 (fB (f2 dGe (zi8 "Setter" "used" (za0 0)) (za7 ze3 (za1 (zi8 "Setter" "choices" (za0 0)) za3)))))
   ym3
   zc1)
  (za9 (zb4 2 (za5 (zb7 (f2 dIx (zi8 "Setter" "choices" (za0 0)) (zi8 "Setter" "used" (za0 0))))))
  (za9 (fIf (za8 (zk4 (fB (f2 dLt (za0 2) (fC (.int 0)))) (fB (f2 dGe (za0 2) (za0 1)))))
   ym3
   zc1)
  (za9 (zh4 0 zb6 "Setter" "used" (f2 zc6 (zi8 "Setter" "used" (za0 0)) (fC (.int 1))))
  (zi6 2)))))
noncomputable abbrev zj0 : Stmt := yd5 (top 15) 1
theorem zz2 : FnScope ["self", "count", "number"] ["self", "count"] (zb1 zj0) := ⟨rfl, rfl, rfl, by decide +kernel, rfl, by decide +kernel, by decide +kernel⟩
theorem yk1 {n : Nat} {f : Addr} {fd : FuncData}  (M_Setter_choice_below : Mn K κ "Setter" "choice_below" "Setter.choice_below" zj0 ["self", "count"] f fd)
    (cl_Setter : Cls K (κ "Setter"))
    (na_used : zg9 K (κ "Setter") "used")
    (na_choices : zg9 K (κ "Setter") "choices")
    (z_len : mg "len" = none) :
    FnOk P w K mg base CX0 (n + 1) f fd ["self", "count"] (SpE 2 K κ (zc8 [true, false]) (gE 2 1 (zc8 [true, false]) (zt7 ))) :=
  zy6 M_Setter_choice_below.F zz2 (fun i hi => zs0 hi) fun cdv A outer s H E hr =>
  (zb0 (zg5 (QT.e (zf7 xx2 (zm7 (C := "Setter") cl_Setter na_used (za2 0)) (QP.v (zm4 zw2 rfl z_len boot_len (zb5 (zm7 (C := "Setter") cl_Setter na_choices (za2 0)) zd4))) (ze9 _)))
   (zb3 yc7)
   ze8)
  (zb0 (zf1 2 zz2.nd rfl (by first | exact Or.inl rfl | exact Or.inr rfl) rfl rfl (QP.e (QV.p (zd1 (zm7 (C := "Setter") cl_Setter na_choices (za2 0)) (zm7 (C := "Setter") cl_Setter na_used (za2 0))))))
  (zb0 (zg5 (QT.e (zz9 (xj8 (zf7 (yj9 (Room.units0 hr)) (za2 2) (QP.v za6) (ze9 _)) (yz2 (zf7 xx2 (za2 2) (za2 1) (ze9 _))))))
   (zb3 yc7)
   ze8)
  (zb0 (zr3 (C := "Setter") cl_Setter na_used rfl (ze4 zl1 (zm7 (C := "Setter") cl_Setter na_used (za2 0)) (QP.v za6)) (ze5 0))
  (zb3 (yl2 2 rfl))))))
noncomputable def zs5 (g_p_writing : (List D -> Option D)) (g_p_column_behind : (List D -> Option D)) : PSt -> Option (Fl × PSt) :=
  (za9 (zb4 3 (za5 (za7 g_p_writing (za1 (za0 1) (za1 (za0 2) (za1 (zi8 "Setter" "column" (za0 0)) za3))))))
  (za9 (fIf (za8 (fB (f2 dIs (za0 3) (fC .non))))
   ym3
   zc1)
  (za9 (zc3 (zc9 0 (zo0 0 zb6 "Setter" "parts") (za1 (zb7 (za0 3)) za3) zc7))
  (zh4 0 zb6 "Setter" "column" (za7 g_p_column_behind (za1 (zi8 "Setter" "column" (za0 0)) (za1 (za0 3) za3)))))))
noncomputable abbrev zk5 : Stmt := yd5 (top 15) 2
theorem yc5 : FnScope ["self", "piece", "place", "wrote"] ["self", "piece", "place"] (zb1 zk5) := ⟨rfl, rfl, rfl, by decide +kernel, rfl, by decide +kernel, by decide +kernel⟩
theorem yq3 {n : Nat} {f : Addr} {fd : FuncData} {g_p_writing : (List D -> Option D)} {f_p_writing : Addr} {fd_p_writing : FuncData} {g_p_column_behind : (List D -> Option D)} {f_p_column_behind : Addr} {fd_p_column_behind : FuncData} (M_Setter_set_plain : Mn K κ "Setter" "set_plain" "Setter.set_plain" zk5 ["self", "piece", "place"] f fd)
    (D_p_writing : Dn K mg "writing" zs2 ["piece", "place", "column"] f_p_writing fd_p_writing) (G_p_writing : FnOk P w K mg base CX0 n f_p_writing fd_p_writing ["piece", "place", "column"] (SpP 3 K κ g_p_writing))
    (D_p_column_behind : Dn K mg "column_behind" zl0 ["column", "wrote"] f_p_column_behind fd_p_column_behind) (G_p_column_behind : FnOk P w K mg base CX0 n f_p_column_behind fd_p_column_behind ["column", "wrote"] (SpP 2 K κ g_p_column_behind))
    (cl_Setter : Cls K (κ "Setter"))
    (na_column : zg9 K (κ "Setter") "column")
    (na_parts : zg9 K (κ "Setter") "parts") :
    FnOk P w K mg base CX0 (n + 1) f fd ["self", "piece", "place"] (SpE 3 K κ (zc8 [true, false, false]) (gE 3 1 (zc8 [true, false, false]) (zs5 g_p_writing g_p_column_behind))) :=
  zy6 M_Setter_set_plain.F yc5 (fun i hi => zs0 hi) fun cdv A outer s H E hr =>
  (zb0 (zf1 3 yc5.nd rfl (by first | exact Or.inl rfl | exact Or.inr rfl) rfl rfl (QP.e (zn1 D_p_writing G_p_writing hr rfl rfl (zb5 (za2 1) (zb5 (za2 2) (zb5 (zm7 (C := "Setter") cl_Setter na_column (za2 0)) zd4))) (zd8 (zd8 (zd8 zj8))))))
  (zb0 (zg5 (QT.e (zf7 wj9 (za2 3) (QP.v yz1) (ze9 _)))
   (zb3 yc7)
   ze8)
  (zb0 (zl2 (zs7 (j := 0) rfl (yr1 (C := "Setter") cl_Setter na_parts (ze5 0)) (zb9 (QV.p (za2 3)) ze1)))
  (zb3 (zr3 (C := "Setter") cl_Setter na_column rfl (zn1 D_p_column_behind G_p_column_behind hr rfl rfl (zb5 (zm7 (C := "Setter") cl_Setter na_column (za2 0)) (zb5 (za2 3) zd4)) (zd8 (zd8 zj8))) (ze5 0))))))
noncomputable def zr0 (g_p_ways : (List D -> Option D)) (g_p_takes_choice : (List D -> Option D)) (g_Setter_choice_below : (List D -> Option (D × List D))) (g_Setter_set_row : (List D -> Option (D × List D))) : PSt -> Option (Fl × PSt) :=
  (za9 (zb4 3 (za5 (za7 g_p_ways (za1 (za0 1) (za1 (za0 2) za3)))))
  (za9 (zb4 4 (za5 (fC (.int 0))))
  (za9 (fIf (za8 (fT (za7 g_p_takes_choice (za1 (za0 1) (za1 (za0 2) za3)))))
   (zb4 4 (zc9 0 zb6 (zc4 [.im (za7 ze3 (za1 (za0 3) za3))]) (zo8 "Setter" "choice_below" g_Setter_choice_below)))
   zc1)
  (za9 (zb4 5 (za5 (zb7 (f2 dIx (za0 3) (za0 4)))))
  (zc3 (zc9 0 zb6 (zc4 [.im (f2 dIx (za0 5) (fC (.int 0))), .im (f2 dIx (za0 5) (fC (.int 1)))]) (zo8 "Setter" "set_row" g_Setter_set_row)))))))
noncomputable abbrev zk0 : Stmt := yd5 (top 15) 3
theorem zn2 : FnScope ["self", "piece", "place", "found", "number", "way"] ["self", "piece", "place"] (zb1 zk0) := ⟨rfl, rfl, rfl, by decide +kernel, rfl, by decide +kernel, by decide +kernel⟩
theorem yn5 {n : Nat} {f : Addr} {fd : FuncData} {g_p_ways : (List D -> Option D)} {f_p_ways : Addr} {fd_p_ways : FuncData} {g_p_takes_choice : (List D -> Option D)} {f_p_takes_choice : Addr} {fd_p_takes_choice : FuncData} {g_Setter_choice_below : (List D -> Option (D × List D))} {f_Setter_choice_below : Addr} {fd_Setter_choice_below : FuncData} {g_Setter_set_row : (List D -> Option (D × List D))} {f_Setter_set_row : Addr} {fd_Setter_set_row : FuncData} (M_Setter_set_holder : Mn K κ "Setter" "set_holder" "Setter.set_holder" zk0 ["self", "piece", "place"] f fd)
    (D_p_ways : Dn K mg "ways" zu6 ["piece", "place"] f_p_ways fd_p_ways) (G_p_ways : FnOk P w K mg base CX0 n f_p_ways fd_p_ways ["piece", "place"] (SpP 2 K κ g_p_ways))
    (D_p_takes_choice : Dn K mg "takes_choice" zl7 ["piece", "place"] f_p_takes_choice fd_p_takes_choice) (G_p_takes_choice : FnOk P w K mg base CX0 n f_p_takes_choice fd_p_takes_choice ["piece", "place"] (SpP 2 K κ g_p_takes_choice))
    (M_Setter_choice_below : Mn K κ "Setter" "choice_below" "Setter.choice_below" zj0 ["self", "count"] f_Setter_choice_below fd_Setter_choice_below) (G_Setter_choice_below : FnOk P w K mg base CX0 n f_Setter_choice_below fd_Setter_choice_below ["self", "count"] (SpE 2 K κ (zc8 [true, false]) g_Setter_choice_below))
    (M_Setter_set_row : Mn K κ "Setter" "set_row" "Setter.set_row" zk3 ["self", "row", "place"] f_Setter_set_row fd_Setter_set_row) (G_Setter_set_row : FnOk P w K mg base CX0 n f_Setter_set_row fd_Setter_set_row ["self", "row", "place"] (SpE 3 K κ (zc8 [true, false, false]) g_Setter_set_row))
    (z_len : mg "len" = none) :
    FnOk P w K mg base CX0 (n + 1) f fd ["self", "piece", "place"] (SpE 3 K κ (zc8 [true, false, false]) (gE 3 3 (zc8 [true, false, false]) (zr0 g_p_ways g_p_takes_choice g_Setter_choice_below g_Setter_set_row))) :=
  zy6 M_Setter_set_holder.F zn2 (fun i hi => zs0 hi) fun cdv A outer s H E hr =>
  (zb0 (zf1 3 zn2.nd rfl (by first | exact Or.inl rfl | exact Or.inr rfl) rfl rfl (QP.e (zn1 D_p_ways G_p_ways hr rfl rfl (zb5 (za2 1) (zb5 (za2 2) zd4)) (zd8 (zd8 zj8)))))
  (zb0 (zf1 4 zn2.nd rfl (by first | exact Or.inl rfl | exact Or.inr rfl) rfl rfl (QP.e za6))
  (zb0 (zg5 (QT.e (zr8 (QP.v (zn1 D_p_takes_choice G_p_takes_choice hr rfl rfl (zb5 (za2 1) (zb5 (za2 2) zd4)) (zd8 (zd8 zj8))))))
   (zb3 (zf1 4 zn2.nd rfl (by first | exact Or.inl rfl | exact Or.inr rfl) rfl rfl (yc9 M_Setter_choice_below G_Setter_choice_below hr rfl (ze5 0) (zd9 (QP.v (zm4 zw2 rfl z_len boot_len (zb5 (za2 3) zd4))) zi4) rfl rfl (zq7 1))))
   ze8)
  (zb0 (zf1 5 zn2.nd rfl (by first | exact Or.inl rfl | exact Or.inr rfl) rfl rfl (QP.e (QV.p (zd1 (za2 3) (za2 4)))))
  (zb3 (zl2 (yc9 M_Setter_set_row G_Setter_set_row hr rfl (ze5 0) (zd9 (zd1 (za2 5) (QP.v za6)) (zd9 (zd1 (za2 5) (QP.v za6)) zi4)) rfl rfl (zq7 2))))))))
noncomputable def zu0 (g_p_holds_rows : (List D -> Option D)) (g_Setter_set_holder : (List D -> Option (D × List D))) (g_Setter_set_plain : (List D -> Option (D × List D))) : PSt -> Option (Fl × PSt) :=
  (zq1 3 (zo7 (za0 1))
   (fIf (za8 (fT (za7 g_p_holds_rows (za1 (za0 3) za3))))
   (zc3 (zc9 0 zb6 (zc4 [.im (za0 3), .im (za0 2)]) (zo8 "Setter" "set_holder" g_Setter_set_holder)))
   (zc3 (zc9 0 zb6 (zc4 [.im (za0 3), .im (za0 2)]) (zo8 "Setter" "set_plain" g_Setter_set_plain)))))
noncomputable abbrev zk3 : Stmt := yd5 (top 15) 4
theorem yf8 : FnScope ["self", "row", "place", "piece"] ["self", "row", "place"] (zb1 zk3) := ⟨rfl, rfl, rfl, by decide +kernel, rfl, by decide +kernel, by decide +kernel⟩
theorem yv8 {n : Nat} {f : Addr} {fd : FuncData} {g_p_holds_rows : (List D -> Option D)} {f_p_holds_rows : Addr} {fd_p_holds_rows : FuncData} {g_Setter_set_holder : (List D -> Option (D × List D))} {f_Setter_set_holder : Addr} {fd_Setter_set_holder : FuncData} {g_Setter_set_plain : (List D -> Option (D × List D))} {f_Setter_set_plain : Addr} {fd_Setter_set_plain : FuncData} (M_Setter_set_row : Mn K κ "Setter" "set_row" "Setter.set_row" zk3 ["self", "row", "place"] f fd)
    (D_p_holds_rows : Dn K mg "holds_rows" zn3 ["piece"] f_p_holds_rows fd_p_holds_rows) (G_p_holds_rows : FnOk P w K mg base CX0 n f_p_holds_rows fd_p_holds_rows ["piece"] (SpP 1 K κ g_p_holds_rows))
    (M_Setter_set_holder : Mn K κ "Setter" "set_holder" "Setter.set_holder" zk0 ["self", "piece", "place"] f_Setter_set_holder fd_Setter_set_holder) (G_Setter_set_holder : FnOk P w K mg base CX0 n f_Setter_set_holder fd_Setter_set_holder ["self", "piece", "place"] (SpE 3 K κ (zc8 [true, false, false]) g_Setter_set_holder))
    (M_Setter_set_plain : Mn K κ "Setter" "set_plain" "Setter.set_plain" zk5 ["self", "piece", "place"] f_Setter_set_plain fd_Setter_set_plain) (G_Setter_set_plain : FnOk P w K mg base CX0 n f_Setter_set_plain fd_Setter_set_plain ["self", "piece", "place"] (SpE 3 K κ (zc8 [true, false, false]) g_Setter_set_plain)) :
    FnOk P w K mg base CX0 (n + 1) f fd ["self", "row", "place"] (SpE 3 K κ (zc8 [true, false, false]) (gE 3 1 (zc8 [true, false, false]) (zu0 g_p_holds_rows g_Setter_set_holder g_Setter_set_plain))) :=
  zy6 M_Setter_set_row.F yf8 (fun i hi => zs0 hi) fun cdv A outer s H E hr =>
  (zb3 (yl3 3 1 PassesOwn.never rfl yf8.nd rfl (by first | exact Or.inl rfl | exact Or.inr rfl) rfl rfl rfl
   (zb3 (zg5 (QT.e (zr8 (QP.v (zn1 D_p_holds_rows G_p_holds_rows hr rfl rfl (zb5 (za2 3) zd4) (zd8 zj8)))))
   (zb3 (zl2 (yc9 M_Setter_set_holder G_Setter_set_holder hr rfl (ze5 0) (zd9 (za2 3) (zd9 (za2 2) zi4)) rfl rfl (zq7 2))))
   (zb3 (zl2 (yc9 M_Setter_set_plain G_Setter_set_plain hr rfl (ze5 0) (zd9 (za2 3) (zd9 (za2 2) zi4)) rfl rfl (zq7 2))))))))
noncomputable def zv5  : PSt -> Option (Fl × PSt) :=
  (za9 (fIf (za8 (fB (f2 dLt (zi8 "Setter" "used" (za0 0)) (za7 ze3 (za1 (zi8 "Setter" "choices" (za0 0)) za3)))))
   ym3
   zc1)
  (zd3 (za5 (fMt zv1 (fC (.str "")) (za1 (zi8 "Setter" "parts" (za0 0)) za3)))))
noncomputable abbrev zk1 : Stmt := yd5 (top 15) 5
theorem yn6 : FnScope ["self"] ["self"] (zb1 zk1) := ⟨rfl, rfl, rfl, by decide +kernel, rfl, by decide +kernel, by decide +kernel⟩
theorem yn7 {n : Nat} {f : Addr} {fd : FuncData}  (M_Setter_whole_text : Mn K κ "Setter" "whole_text" "Setter.whole_text" zk1 ["self"] f fd)
    (cl_Setter : Cls K (κ "Setter"))
    (na_used : zg9 K (κ "Setter") "used")
    (na_parts : zg9 K (κ "Setter") "parts")
    (na_choices : zg9 K (κ "Setter") "choices")
    (z_len : mg "len" = none) :
    FnOk P w K mg base CX0 (n + 1) f fd ["self"] (SpP 1 K κ (gP 1 0 (zv5 ))) :=
  zm0 M_Setter_whole_text.F yn6 fun cdv A outer s H E B hr =>
  (zb0 (zg5 (QT.e (zf7 (yj9 (Room.units0 hr)) (zm7 (C := "Setter") cl_Setter na_used (za2 0)) (QP.v (zm4 zw2 rfl z_len boot_len (zb5 (zm7 (C := "Setter") cl_Setter na_choices (za2 0)) zd4))) (ze9 _)))
   (zb3 yc7)
   ze8)
  (zb3 (zg8 (QP.e (yz4 PySem.F.slot_str_join PySem.F.type_str_join yz5 (QP.v ze2) (zb5 (zm7 (C := "Setter") cl_Setter na_parts (za2 0)) zd4))))))
end L3
namespace My
open PySem PySem.Spec PyProof.Rows L2 L3
noncomputable def zh0 : Leaf -> D
  | .word x => .tup [.str "word", .str x]
  | .gap x => .tup [.str "gap", .str x]
  | .stop c => .tup [.str "stop", .int c]
  | .fin => .tup [.str "end"]
mutual
noncomputable def pcD : Pc -> D
  | .leaf l => zh0 l
  | .group r => .tup [.str "group", .tup (zb8 r)]
  | .hang n r => .tup [.str "hang", .int n, .tup (zb8 r)]
  | .either rs => .tup [.str "either", .tup (zf3 rs)]
noncomputable def zb8 : List Pc -> List D
  | [] => []
  | p :: r => pcD p :: zb8 r
noncomputable def zf3 : List (List Pc) -> List D
  | [] => []
  | r :: rs => .tup (zb8 r) :: zf3 rs
end
theorem xn9 (l : Leaf) : (zh0 l).imm = true := by cases l <;> rfl
mutual
theorem yl6 : ∀ p : Pc, (pcD p).imm = true
  | .leaf l => xn9 l
  | .group r => by show (D.imm (.str "group") && (D.imm (.tup (zb8 r)) && D.imms [])) = true; rw [show D.imm (.tup (zb8 r)) = D.imms (zb8 r) from rfl, zj3 r]; rfl
  | .hang n r => by show (D.imm (.str "hang") && (D.imm (.int n) && (D.imm (.tup (zb8 r)) && D.imms []))) = true; rw [show D.imm (.tup (zb8 r)) = D.imms (zb8 r) from rfl, zj3 r]; rfl
  | .either rs => by show (D.imm (.str "either") && (D.imm (.tup (zf3 rs)) && D.imms [])) = true; rw [show D.imm (.tup (zf3 rs)) = D.imms (zf3 rs) from rfl, ya2 rs]; rfl
theorem zj3 : ∀ r : List Pc, D.imms (zb8 r) = true
  | [] => rfl
  | p :: r => by show (D.imm (pcD p) && D.imms (zb8 r)) = true; rw [yl6 p, zj3 r]; rfl
theorem ya2 : ∀ rs : List (List Pc), D.imms (zf3 rs) = true
  | [] => rfl
  | r :: rs => by show (D.imm (.tup (zb8 r)) && D.imms (zf3 rs)) = true; rw [show D.imm (.tup (zb8 r)) = D.imms (zb8 r) from rfl, zj3 r, ya2 rs]; rfl
end
theorem yx4 : ∀ a b : List Pc, zb8 (a ++ b) = zb8 a ++ zb8 b
  | [], b => rfl
  | p :: a, b => by show pcD p :: zb8 (a ++ b) = pcD p :: (zb8 a ++ zb8 b); rw [yx4 a b]
theorem ys3 : ∀ a b : List (List Pc), zf3 (a ++ b) = zf3 a ++ zf3 b
  | [], b => rfl
  | p :: a, b => by show D.tup (zb8 p) :: zf3 (a ++ b) = D.tup (zb8 p) :: (zf3 a ++ zf3 b); rw [ys3 a b]
theorem yx5 : ∀ a : List Pc, (zb8 a).length = a.length
  | [] => rfl
  | p :: a => by show (zb8 a).length + 1 = a.length + 1; rw [yx5 a]
theorem zu5 : ∀ a : List (List Pc), (zf3 a).length = a.length
  | [] => rfl
  | p :: a => by show (zf3 a).length + 1 = a.length + 1; rw [zu5 a]
theorem xt1 {α β : Type} (f : α -> β) (hf : ∀ a b, f a = f b -> a = b) : ∀ {l m : List α}, l.map f = m.map f -> l = m
  | [], [], _ => rfl
  | [], _ :: _, h => by simp at h
  | _ :: _, [], h => by simp at h
  | a :: l, b :: m, h => by
    simp only [List.map_cons, List.cons.injEq] at h
    rw [hf a b h.1, xt1 f hf h.2]
theorem zd0 (a b : String) : (Str.ofString a = Str.ofString b) = (a = b) := by
  refine propext ⟨fun h => ?_, fun h => by rw [h]⟩
  rw [Str.ofString_eq_toList, Str.ofString_eq_toList] at h
  have h1 : (a.toList.map Char.toNat).toArray = (b.toList.map Char.toNat).toArray := (Str.mk.inj h)
  have h2 : a.toList.map Char.toNat = b.toList.map Char.toNat := by simpa using congrArg Array.toList h1
  have h3 : a.toList = b.toList := xt1 _ (fun x y e => by
    have : Char.ofNat x.toNat = Char.ofNat y.toNat := by rw [e]
    simpa using this) h2
  exact String.toList_inj.mp h3
theorem zg6 {α : Type} (a : α) (l : List α) : atI (a :: l) 0 = some a := by simp [atI, ixN]
theorem zf4 {α : Type} (a b : α) (l : List α) : atI (a :: b :: l) 1 = some b := by
  have h : ixN (a :: b :: l).length 1 = some 1 := by unfold ixN; rw [if_pos (by decide), if_pos (by simp only [List.length_cons]; omega)]; rfl
  simp only [atI, h]; rfl
theorem zj7 {α : Type} (a b c : α) (l : List α) : atI (a :: b :: c :: l) 2 = some c := by
  have h : ixN (a :: b :: c :: l).length 2 = some 2 := by unfold ixN; rw [if_pos (by decide), if_pos (by simp only [List.length_cons]; omega)]; rfl
  simp only [atI, h]; rfl
theorem sz {n : Nat} (h : n <= 1000) : n <= sizeLine := xj7 h
theorem sz1 {n : Nat} (h : n <= 1000) : n < sizeLine := xh2 h
theorem xr3 {rs : List (List Pc)} {r : List Pc} (h : r ∈ rs) : (zd6 r).length <= (zj5 rs).length := by
  induction rs with
  | nil => simp at h
  | cons q rs ih =>
    show _ <= (Tk.orr :: (zd6 q ++ zj5 rs)).length
    rw [List.length_cons, List.length_append]
    rcases List.mem_cons.mp h with e | e
    . subst e; omega
    . have := ih e; omega
theorem yk2 {rs : List (List Pc)} {r : List Pc} (h : r ∈ rs) : (zd6 r).length <= (yd8 rs).length := by
  cases rs with
  | nil => simp at h
  | cons q rs =>
    show _ <= (zd6 q ++ zj5 rs).length
    rw [List.length_append]
    rcases List.mem_cons.mp h with e | e
    . subst e; omega
    . have := xr3 e; omega
end My
namespace My
open PySem PySem.Spec PyProof.Rows L2 L3
theorem zo2 (n : Nat) : ixN (n + 1) (-1) = some n := by
  unfold ixN
  rw [if_neg (by decide), if_pos (by omega)]
  congr 1
  omega
theorem zo3 {α : Type} (l : List α) (a b : α) : (l ++ [a]).set l.length b = l ++ [b] := by
  induction l with
  | nil => rfl
  | cons x l ih => show x :: (l ++ [a]).set l.length b = _; rw [ih]; rfl
theorem yf5 (n : Nat) : ixN (n + 1) 0 = some 0 := by unfold ixN; rw [if_pos (by decide), if_pos (by omega)]; rfl
theorem xa6 : ixN 3 1 = some 1 := by decide
theorem xj9 : ixN 3 2 = some 2 := by decide
theorem zh6 (i j : Int) : zl4 (.int i) (.int j) = if 0 < j then some (.int (i % j)) else none := by simp [zl4, dII]
theorem zh9 (i j : Int) : zt3 (.int i) (.int j) = if 0 < j /\ j < 1073741824 then some (.int (i / j)) else none := by simp [zt3, dII]
theorem zg0 (x y : Str) : (x ++ y).cps.toList = x.cps.toList ++ y.cps.toList := by
  show (x.cps ++ y.cps).toList = _
  simp
theorem zi1 (x y : Str) : (x ++ y).length = x.length + y.length := by
  show (x.cps ++ y.cps).size = x.cps.size + y.cps.size
  simp
noncomputable def sg : Str := ("abcdefghijklmnopqrstuvwxyzABCDEFGHIJKLMNOPQRSTUVWXYZ0123456789" : Str) ++ ("!\"#$&'()*+,-./:;<=>?\x40[\\]^_`{|}~" : Str)
theorem wf1 : sg.cps.toList.length = 93 := by decide +kernel
theorem wr4 : sg.cps.toList.all yp4 = true := by decide +kernel
theorem wr5 : sg.length <= sizeLine := by
  have e : sg.length = sg.cps.toList.length := by simp [Str.length]
  rw [e, wf1]; exact sz (by decide)
theorem yd1 {α : Type} (xs : List α) (i : Int) (h0 : 0 <= i) (h1 : i < xs.length) : ∃ v ∈ xs, atI xs i = some v := by
  have hn : i.toNat < xs.length := by omega
  obtain ⟨v, hv⟩ : ∃ v, xs[i.toNat]? = some v := ⟨_, List.getElem?_eq_getElem hn⟩
  refine ⟨v, List.mem_of_getElem? hv, ?_⟩
  have e : i = ((i.toNat : Nat) : Int) := by omega
  rw [e]
  exact xd4 hv
theorem ka5 (i : Int) (h0 : 0 <= i) (h1 : i < 93) : ∃ c, atI sg.cps.toList i = some c /\ yp4 c = true := by
  obtain ⟨c, hc, e⟩ := yd1 sg.cps.toList i h0 (by rw [wf1]; omega)
  exact ⟨c, e, List.all_eq_true.mp wr4 c hc⟩
theorem ww8 (n : Nat) : yc0 0 n = ((List.range n).map fun (k : Nat) => (k : Int)).map .int := by
  unfold yc0
  rw [List.map_map]
  refine List.map_congr_left fun k _ => ?_
  show D.int (0 + (k : Int)) = D.int (k : Int)
  rw [Int.zero_add]
theorem wr6 (m : Int) : ∃ s : Int, atI [D.int 1, .int 2, .int 3, .int 4, .int 5, .int 6, .int 7, .int 8, .int 10, .int 11, .int 9, .int 12] (m % 12) = some (.int s) /\ 1 <= s /\ s <= 12 := by
  have h0 := Int.emod_nonneg m (show (12 : Int) ≠ 0 by decide)
  have h1 := Int.emod_lt_of_pos m (show (0 : Int) < 12 by decide)
  obtain ⟨d, hd, e⟩ := yd1 [D.int 1, .int 2, .int 3, .int 4, .int 5, .int 6, .int 7, .int 8, .int 10, .int 11, .int 9, .int 12] (m % 12) h0 (by simpa using h1)
  simp only [List.mem_cons, List.not_mem_nil, or_false] at hd
  rcases hd with rfl | rfl | rfl | rfl | rfl | rfl | rfl | rfl | rfl | rfl | rfl | rfl <;> exact ⟨_, e, by decide, by decide⟩
theorem ww9 (k : Int) : ∃ x : Str, atI [D.str (Str.ofString " "), .str (Str.ofString " "), .str (Str.ofString " "), .str (Str.ofString "")] (k % 4) = some (.str x) /\ (x = "" \/ x = " ") := by
  have h0 := Int.emod_nonneg k (show (4 : Int) ≠ 0 by decide)
  have h1 := Int.emod_lt_of_pos k (show (0 : Int) < 4 by decide)
  obtain ⟨d, hd, e⟩ := yd1 [D.str (Str.ofString " "), .str (Str.ofString " "), .str (Str.ofString " "), .str (Str.ofString "")] (k % 4) h0 (by simpa using h1)
  simp only [List.mem_cons, List.not_mem_nil, or_false] at hd
  rcases hd with rfl | rfl | rfl | rfl
  . exact ⟨_, e, .inr rfl⟩
  . exact ⟨_, e, .inr rfl⟩
  . exact ⟨_, e, .inr rfl⟩
  . exact ⟨_, e, .inl rfl⟩
theorem wr7 (a b k : Int) (ha : 0 <= a /\ a <= 40) (hb : 0 <= b /\ b <= 40) : ∃ c : Int, atI [D.int a, .int b] (k % 2) = some (.int c) /\ 0 <= c /\ c <= 40 := by
  have h0 := Int.emod_nonneg k (show (2 : Int) ≠ 0 by decide)
  have h1 := Int.emod_lt_of_pos k (show (0 : Int) < 2 by decide)
  obtain ⟨d, hd, e⟩ := yd1 [D.int a, .int b] (k % 2) h0 (by simpa using h1)
  simp only [List.mem_cons, List.not_mem_nil, or_false] at hd
  rcases hd with rfl | rfl
  . exact ⟨_, e, ha⟩
  . exact ⟨_, e, hb⟩
theorem kc3 {α : Type} (a b c d : α) : atI [a, b, c, d] 3 = some d := rfl
theorem wr8 {i j : Int} (h1 : -1000000 <= i) (h2 : i <= 1000000) (h3 : -1000000 <= j) (h4 : j <= 1000000) : xk6 [.int i, .int j] = some (yc0 i (j - i).toNat) := by
  rw [xk6]
  exact if_pos ⟨by omega, by omega, by omega, by omega⟩
theorem wx0 (a : Int) (n : Nat) : yc0 a n = ((List.range n).map fun (k : Nat) => a + (k : Int)).map .int := by
  unfold yc0
  rw [List.map_map]; rfl
theorem za4 {f g : PSt -> Option (Fl × PSt)} {p p' : PSt} (h : f p = some (.nx, p')) : za9 f g p = g p' := by unfold za9; rw [h]; rfl
theorem zm5 {f g : PSt -> Option (Fl × PSt)} {p p' : PSt} {d : D} (h : f p = some (.ret d, p')) : za9 f g p = some (.ret d, p') := by unfold za9; rw [h]; rfl
theorem xa7 {c : PSt -> Option (Bool × PSt)} {f g : PSt -> Option (Fl × PSt)} {p p' : PSt} (h : c p = some (true, p')) : fIf c f g p = f p' := by unfold fIf; rw [h]; rfl
theorem yb5 {c : PSt -> Option (Bool × PSt)} {f g : PSt -> Option (Fl × PSt)} {p p' : PSt} (h : c p = some (false, p')) : fIf c f g p = g p' := by unfold fIf; rw [h]; rfl
theorem zh3 {i : Nat} {f : PSt -> Option D} {p : PSt} {d : D} (h : f p = some d) : zb4 i (za5 f) p = some (.nx, p.set i (some d)) := by unfold zb4 za5; rw [h]; rfl
theorem zl3 {f : PSt -> Option D} {p : PSt} {d : D} (h : f p = some d) : zd3 (za5 f) p = some (.ret d, p) := by unfold zd3 za5; rw [h]; rfl
theorem zw9 {np n : Nat} {f : PSt -> Option (Fl × PSt)} {ds : List D} {d : D} {p : PSt} (hl : ds.length = np) (h : f (ds.map some ++ List.replicate n none) = some (.ret d, p)) : gP np n f ds = some d := by
  unfold gP; rw [if_pos hl, h]; rfl
theorem zc5 {g : D -> D -> Option D} {fa fb : PSt -> Option D} {p : PSt} {x y d : D} (h1 : fa p = some x) (h2 : fb p = some y) (h3 : g x y = some d) : f2 g fa fb p = some d := by unfold f2; rw [h1, h2]; exact h3
theorem zh1 {h : List D -> Option D} {g : PSt -> Option (List D)} {p : PSt} {ds : List D} {d : D} (h1 : g p = some ds) (h2 : h ds = some d) : za7 h g p = some d := by unfold za7; rw [h1]; exact h2
theorem wf2 {o o' : Bool} {ys zs : List D} (h1 : D.imms ys = true) (h2 : D.imms zs = true) (h : ys.length + zs.length <= 1000) : zc6 (.lst o ys) (.lst o' zs) = some (.lst true (ys ++ zs)) := by
  rw [zc6]
  exact if_pos (by rw [h1, h2]; simpa using sz h)
theorem zb2 {f : PSt -> Option D} {g : PSt -> Option (List D)} {p : PSt} {d : D} {ds : List D} (h1 : f p = some d) (h2 : g p = some ds) : za1 f g p = some (d :: ds) := by unfold za1; rw [h1, h2]; rfl
noncomputable def zp8 (ws : List Str) : List D := ws.map .str
theorem wf3 (a b : List Str) : zp8 (a ++ b) = zp8 a ++ zp8 b := by simp [zp8]
theorem wf4 (a : List Str) : (zp8 a).length = a.length := by simp [zp8]
theorem zp7 {g : PSt -> Option (List D)} {p : PSt} {ds : List D} (h : g p = some ds) (hl : ds.length <= 1000) : zd7 g p = some (.lst true ds) := by unfold zd7; rw [h]; exact if_pos hl
theorem wr9 (a : Int) (b c : Nat) (hc : 0 < c) : ∃ n : Nat, (b : Int) + a % (c : Int) = (n : Int) /\ n < b + c := by
  have h1 := Int.emod_nonneg a (show (c : Int) ≠ 0 by omega)
  have h2 := Int.emod_lt_of_pos a (show (0 : Int) < c by omega)
  exact ⟨(b + a % c).toNat, by omega, by omega⟩
end My
namespace My
open PySem PySem.Spec PyProof.Rows L2 L3
theorem yl7 {i : Nat} {p : PSt} {d : D} (h : p[i]? = some (some d)) : za0 i p = some d := by unfold za0; rw [h]; rfl
theorem zx0 {f : PSt -> Option Bool} {p : PSt} {b : Bool} (h : f p = some b) : za8 f p = some (b, p) := by unfold za8; rw [h]; rfl
theorem zt0 {f : PSt -> Option D} {p : PSt} {b : Bool} (h : f p = some (.bl b)) : fB f p = some b := by unfold fB; rw [h]; rfl
theorem xy4 {f : PSt -> Option D} {p : PSt} {b : Bool} (h : f p = some (.bl b)) : fT f p = some b := by unfold fT; rw [h]; rfl
theorem zx1 {f g : PSt -> Option Bool} {p : PSt} (h : f p = some false) : zf6 f g p = some false := by unfold zf6; rw [h]; rfl
theorem zu2 {f g : PSt -> Option Bool} {p : PSt} {b : Bool} (h : f p = some true) (h2 : g p = some b) : zf6 f g p = some b := by unfold zf6; rw [h]; exact h2
theorem ya8 {f : PSt -> Option Bool} {p : PSt} {b : Bool} (h : f p = some b) : zi3 f p = some (!b) := by unfold zi3; rw [h]; rfl
theorem zf9 {c : PSt -> Option Bool} {F : PSt -> Option (Fl × PSt)} {p : PSt} (h : c p = some false) : fIf (za8 c) F zc1 p = some (.nx, p) := (yb5 (zx0 h)).trans rfl
theorem zi5 {c : PSt -> Option Bool} {F G : PSt -> Option (Fl × PSt)} {p : PSt} (h : c p = some true) : fIf (za8 c) F G p = F p := xa7 (zx0 h)
noncomputable def kdT (i : Nat) (w : String) : PSt -> Option Bool := fB (f2 dEq (f2 dIx (za0 i) (fC (.int 0))) (fC (.str w)))
theorem yh6 {i : Nat} {p : PSt} {k w : String} {ds : List D} {b : Bool} (hp : p[i]? = some (some (.tup (.str k :: ds)))) (h : decide (k = w) = b) : kdT i w p = some b := by
  refine zt0 (zc5 (zc5 (yl7 hp) rfl (zg6 _ _)) rfl ?_)
  show some (D.bl (decide ((k : Str) = (w : Str)))) = _
  rw [<- h]
  congr 2
  exact decide_eq_decide.mpr (by rw [zd0])
theorem yh7 {f : PSt -> Option (D × PSt)} {p p' : PSt} {d : D} (h : f p = some (d, p')) : zc3 f p = some (.nx, p') := by unfold zc3; rw [h]; rfl
theorem yl8 {as : List L2.Arg} {g : List D -> Option (D × List D)} {p : PSt} {ds ds' : List D} {d : D} (h1 : zc4 as p = some ds) (h2 : g ds = some (d, ds')) (h3 : ds'.length = as.length) : fIO as g p = some (d, zi7 p as ds') := by unfold fIO; rw [h1, Option.bind_some, h2, Option.bind_some, if_pos h3]
theorem zk8 {f : PSt -> Option D} {p : PSt} {d : D} (h : f p = some d) (hi : d.imm = true) : zb7 f p = some d := by unfold zb7; rw [h]; exact if_pos hi
theorem ya3 {p : PSt} : zc4 [] p = some [] := rfl
theorem zn4 {f : PSt -> Option D} {as : List L2.Arg} {p : PSt} {d : D} {ds : List D} (h : f p = some d) (hi : d.imm = true) (h2 : zc4 as p = some ds) : zc4 (.im f :: as) p = some (d :: ds) := by
  show (zb7 f p).bind _ = _
  rw [zk8 h hi, Option.bind_some, h2]; rfl
theorem yg9 {j : Nat} {as : List L2.Arg} {p : PSt} {d : D} {ds : List D} (h : p[j]? = some (some d)) (h2 : zc4 as p = some ds) : zc4 (.io j :: as) p = some (d :: ds) := by
  show ((p[j]?).join).bind _ = _
  rw [h, Option.join_some, Option.bind_some, h2]; rfl
theorem wx1 {f : PSt -> Option (D × PSt)} {p p' : PSt} {b : Bool} (h : f p = some (.bl b, p')) : fTE f p = some (b, p') := by unfold fTE; rw [h]; rfl
theorem wl1 {f : PSt -> Option (Bool × PSt)} {p p' : PSt} {b : Bool} (h : f p = some (b, p')) : zz5 f p = some (!b, p') := by unfold zz5; rw [h]; rfl
theorem ka6 (t : Str) : ys5 [.str t, .ty "str"] = some (.bl true) := by
  unfold ys5
  show (if "str" ∈ ["bool", "int", "str", "list", "tuple", "dict"] then some (D.bl (xb7 "str" "str")) else none) = _
  rw [if_pos (by simp)]
  rfl
end My
namespace My
open PySem PySem.Spec PyProof.Rows L2 L3
section
variable {c : Nat}
theorem yn8 (x y : Str) (r : List Str) : (Str.join ⟨#[c]⟩ (x :: y :: r)).cps.toList = x.cps.toList ++ c :: (Str.join ⟨#[c]⟩ (y :: r)).cps.toList := by
  show ((x ++ ⟨#[c]⟩) ++ Str.join ⟨#[c]⟩ (y :: r)).cps.toList = _
  rw [zg0, zg0]
  show (x.cps.toList ++ [c]) ++ _ = _
  simp
end
end My
namespace My
open PySem PySem.Spec PyProof.Rows L2 L3
theorem xa8 : ("\n" : Str) = ⟨#[10]⟩ := by decide +kernel
theorem xk0 : (" " : Str) = ⟨#[32]⟩ := by decide +kernel
theorem xo0 : ("" : Str) = ⟨#[]⟩ := by decide +kernel
theorem zx2 {x y : Str} (h : x.cps.toList = y.cps.toList) : x = y := by
  cases x; cases y
  simp only at h
  rw [Array.toList_inj.mp h]
theorem zt2 (x : Str) : x.length = x.cps.toList.length := by simp [Str.length]
theorem xi2 : ∀ (n : Nat) (a b : Array Nat), ((List.replicate n a).foldl (· ++ ·) b).toList = b.toList ++ (List.replicate n a.toList).flatten
  | 0, a, b => by simp
  | n + 1, a, b => by
    rw [List.replicate_succ, List.foldl_cons, xi2 n a (b ++ a), List.replicate_succ, List.flatten_cons]
    simp
theorem yn9 (n : Int) : (Txt.mul " " n).cps.toList = List.replicate n.toNat 32 := by
  rw [xk0]
  unfold Txt.mul
  by_cases h : n < 1
  . rw [if_pos h, show n.toNat = 0 by omega]; rfl
  . rw [if_neg h]
    by_cases h1 : n = 1
    . subst h1; rfl
    . rw [if_neg]
      . show ((List.replicate n.toNat #[32]).foldl (· ++ ·) #[]).toList = _
        rw [xi2]
        simp
      . simp [h1, Str.length]
theorem ya9 (n : Int) : (Txt.mul " " n).length = n.toNat := by rw [zt2, yn9, List.length_replicate]
theorem xo1 (n : Int) : (10 : Nat) ∉ (Txt.mul " " n).cps.toList := by rw [yn9]; simp
noncomputable def col (t : Str) : Nat := (t.cps.toList.reverse.takeWhile (· != 10)).length
theorem wf5 {l : List Nat} (h : (10 : Nat) ∉ l) : ∀ a ∈ l, (a != 10) = true := fun a ha => by
  simp only [bne_iff_ne, ne_eq]
  intro e; subst e; exact h ha
theorem xt2 {t w : Str} (h : (10 : Nat) ∉ w.cps.toList) : col (t ++ w) = col t + w.length := by
  unfold col
  rw [zg0, List.reverse_append, List.takeWhile_append_of_pos (wf5 (by simpa using h)), List.length_append, List.length_reverse, zt2]
  omega
theorem xo2 {t w : Str} (h : (10 : Nat) ∉ w.cps.toList) : col (t ++ ((⟨#[10]⟩ : Str) ++ w)) = w.length := by
  unfold col
  rw [zg0, zg0, List.reverse_append, List.reverse_append, List.append_assoc, List.takeWhile_append_of_pos (wf5 (by simpa using h)), List.length_append, List.length_reverse, zt2]
  simp
theorem wx2 (t : Str) : col t <= t.length := by
  unfold col
  rw [zt2, <- List.length_reverse (as := t.cps.toList)]
  exact (List.takeWhile_sublist _).length_le
theorem xk1 {t : Str} {i : Nat} : StrLaws.At t ⟨#[10]⟩ t.length i ↔ t.cps.toList[i]? = some 10 := by
  unfold StrLaws.At Builtin.Str.subAt
  show i + 1 <= t.length /\ (t.cps.extract i (i + 1) == #[10]) = true ↔ _
  rw [beq_iff_eq, <- Array.toList_inj]
  have e : (t.cps.extract i (i + 1)).toList = (t.cps.toList.drop i).take 1 := by simp [Array.toList_extract, List.extract]
  rw [e, zt2]
  constructor
  . intro ⟨h1, h2⟩
    rw [List.getElem?_eq_getElem (by omega)]
    rw [List.drop_eq_getElem_cons (by omega)] at h2
    simpa using h2
  . intro h
    obtain ⟨hi, h2⟩ := List.getElem?_eq_some_iff.mp h
    refine ⟨by omega, ?_⟩
    rw [List.drop_eq_getElem_cons hi, h2]
    rfl
theorem wf6 (t : Str) : (t.length : Int) - 1 - Txt.rfind t ⟨#[10]⟩ = (col t : Int) := by
  rcases rfind_whole t ⟨#[10]⟩ with ⟨e, h⟩ | ⟨i, e, h1, h2⟩
  . have hn : (10 : Nat) ∉ t.cps.toList := fun hm => by
      obtain ⟨i, hi⟩ := List.getElem?_of_mem hm
      exact h i (xk1.mpr hi)
    have := xt2 (t := ⟨#[]⟩) hn
    have e0 : (⟨#[]⟩ : Str) ++ t = t := zx2 (by rw [zg0]; rfl)
    rw [e0, show col ⟨#[]⟩ = 0 from rfl] at this
    rw [e, this]; omega
  . rw [xk1] at h1
    obtain ⟨hi, h3⟩ := List.getElem?_eq_some_iff.mp h1
    have hs : t.cps.toList = t.cps.toList.take i ++ 10 :: t.cps.toList.drop (i + 1) := by
      rw [<- h3, <- List.drop_eq_getElem_cons hi, List.take_append_drop]
    have hn : (10 : Nat) ∉ t.cps.toList.drop (i + 1) := fun hm => by
      obtain ⟨j, hj⟩ := List.getElem?_of_mem hm
      rw [List.getElem?_drop] at hj
      exact h2 (i + 1 + j) (by omega) (xk1.mpr hj)
    have e1 : t = (⟨(t.cps.toList.take i).toArray⟩ : Str) ++ ((⟨#[10]⟩ : Str) ++ (⟨(t.cps.toList.drop (i + 1)).toArray⟩ : Str)) := zx2 (by
      rw [zg0, zg0]
      exact hs)
    have e2 := xo2 (t := ⟨(t.cps.toList.take i).toArray⟩) (w := ⟨(t.cps.toList.drop (i + 1)).toArray⟩) hn
    rw [<- e1] at e2
    rw [e, e2, zt2, zt2]
    show ((t.cps.toList.length : Nat) : Int) - 1 - (i : Int) = (((t.cps.toList.drop (i + 1)).length : Nat) : Int)
    rw [List.length_drop]
    omega
noncomputable def nlw (m : Int) : Str := (⟨#[10]⟩ : Str) ++ Txt.mul " " m
noncomputable def wr (b : Bool) (m : Int) (k : Nat) : Leaf -> Option Str
  | .word x => some x
  | .gap x => if b then some (nlw m) else some x
  | .stop c => if (k : Int) <= c then some (Txt.mul " " (c - k)) else if b then some (nlw c) else none
  | .fin => if b then some (nlw m) else none
noncomputable def Wr (w : Str) : Prop := (10 : Nat) ∉ w.cps.toList \/ ∃ m : Int, w = nlw m
theorem xt3 {x : Str} (h : xc1 x) : (10 : Nat) ∉ x.cps.toList := fun hm => by
  have := List.all_eq_true.mp h.2.2 _ hm
  simp [yp4] at this
theorem wx3 {x : Str} (h : x = "" \/ x = " ") : (10 : Nat) ∉ x.cps.toList := by
  rcases h with rfl | rfl
  . simp [show ("" : Str) = ⟨#[]⟩ from by decide +kernel]
  . simp [xk0]
theorem wo3 {b : Bool} {m : Int} {k : Nat} {l : Leaf} {w : Str} (hl : zs1 l) (h0 : 0 <= m) (h1 : m <= 200) (h : wr b m k l = some w) : Wr w /\ w.length <= 201 := by
  have nl : ∀ c : Int, 0 <= c -> c <= 200 -> Wr (nlw c) /\ (nlw c).length <= 201 := fun c c0 c1 => ⟨.inr ⟨c, rfl⟩, by unfold nlw; rw [zi1, ya9]; show 1 + _ <= _; omega⟩
  cases l with
  | word x => cases h; exact ⟨.inl (xt3 hl), by have := hl.2.1; omega⟩
  | gap x =>
    cases b with
    | true => cases h; exact nl m h0 h1
    | false =>
      have e : x = w := by simpa [wr] using h
      subst e
      have hl' : x = "" \/ x = " " := hl
      refine ⟨.inl (wx3 hl'), ?_⟩
      rcases hl' with e | e <;> subst e
      . show (0 : Nat) <= 201; decide
      . show (1 : Nat) <= 201; decide
  | stop c =>
    have hc : 0 <= c /\ c <= 40 := hl
    change (if (k : Int) <= c then some (Txt.mul " " (c - k)) else if b = true then some (nlw c) else none) = some w at h
    by_cases hk : (k : Int) <= c
    . rw [if_pos hk] at h; cases h
      exact ⟨.inl (xo1 _), by rw [ya9]; omega⟩
    . rw [if_neg hk] at h
      cases b with
      | true => cases h; exact nl c hc.1 (by omega)
      | false => cases h
  | fin =>
    cases b with
    | true => cases h; exact nl m h0 h1
    | false => cases h
mutual
noncomputable def zq3 : Bool -> Int -> Pc -> List Int -> Str -> Option (List Int × Str)
  | b, m, .leaf l, cs, t => (wr b m (col t) l).map fun w => (cs, t ++ w)
  | b, m, .group r, cs, t => if b = true then (match cs with
      | [] => none
      | c :: cs => if c = 0 then zk6 false m r cs t else if c = 1 then zk6 true m r cs t else none) else zk6 false m r cs t
  | b, m, .hang n r, cs, t => zk6 b (m + n) r cs t
  | b, m, .either rs, cs, t => match cs with
      | [] => none
      | c :: cs => if 0 <= c then yj4 b m rs c.toNat cs t else none
noncomputable def zk6 : Bool -> Int -> List Pc -> List Int -> Str -> Option (List Int × Str)
  | _, _, [], cs, t => some (cs, t)
  | b, m, p :: r, cs, t => (zq3 b m p cs t).bind fun s => zk6 b m r s.1 s.2
noncomputable def yj4 : Bool -> Int -> List (List Pc) -> Nat -> List Int -> Str -> Option (List Int × Str)
  | _, _, [], _, _, _ => none
  | b, m, r :: _, 0, cs, t => zk6 b m r cs t
  | b, m, _ :: rs, i + 1, cs, t => yj4 b m rs i cs t
end
theorem yi9 : ∀ {rs : List (List Pc)} {i : Nat} {b : Bool} {m : Int} {cs : List Int} {t : Str} {r : List Pc}, rs[i]? = some r -> yj4 b m rs i cs t = zk6 b m r cs t
  | [], i, _, _, _, _, _, h => by simp at h
  | q :: rs, 0, _, _, _, _, _, h => by simp at h; subst h; rw [yj4]
  | q :: rs, i + 1, _, _, _, _, _, h => by rw [yj4]; exact yi9 (by simpa using h)
theorem yo0 : ∀ {rs : List (List Pc)} {i : Nat} {b : Bool} {m : Int} {cs : List Int} {t : Str}, rs[i]? = none -> yj4 b m rs i cs t = none
  | [], i, _, _, _, _, h => by rw [yj4]
  | q :: rs, 0, _, _, _, _, h => by simp at h
  | q :: rs, i + 1, _, _, _, _, h => by rw [yj4]; exact yo0 (by simpa using h)
end My
namespace My
open PySem PySem.Spec PyProof.Rows L2 L3
noncomputable abbrev nsP : List Str := ["broken", "margin"]
noncomputable def zc0 (b : Bool) (m : Int) : D := .obj false "Place" nsP [.bl b, .int m]
noncomputable abbrev zr1 : List D -> Option (D × List D) := gE 3 0 (zc8 [true, false, false]) yq2
theorem xy5 (b : Bool) (m : Int) : zr1 [.obj true "Place" [] [], .bl b, .int m] = some (.non, [.obj true "Place" nsP [.bl b, .int m], .bl b, .int m]) := by
  kernel_rfl
noncomputable abbrev xc4 : List D -> Option D := gP 0 0 (yi2 zr1)
noncomputable abbrev yf4 : List D -> Option D := gP 1 0 yj2
noncomputable def ys9 : Pc -> Bool
  | .leaf _ => false
  | _ => true
theorem xo3 (p : Pc) : yf4 [pcD p] = some (.bl (ys9 p)) := by
  cases p with
  | leaf l => cases l <;> kernel_rfl
  | _ => kernel_rfl
noncomputable abbrev yi3 : List D -> Option D := gP 2 0 yf9
noncomputable def xc5 (b : Bool) : Pc -> Bool
  | .either _ => true
  | .group _ => b
  | _ => false
theorem wl2 (p : Pc) (b : Bool) (m : Int) (hp : ys9 p = true) : yi3 [pcD p, zc0 b m] = some (.bl (xc5 b p)) := by
  cases p with
  | leaf l => cases hp
  | group r => cases b <;> kernel_rfl
  | _ => kernel_rfl
noncomputable def yj5 (b : Bool) (m : Int) : Pc -> List (List Pc × Bool × Int)
  | .leaf _ => []
  | .group r => if b = true then [(r, false, m), (r, true, m)] else [(r, false, m)]
  | .hang n r => [(r, b, m + n)]
  | .either rs => rs.map fun r => (r, b, m)
noncomputable def zt8 (x : List Pc × Bool × Int) : D := .tup [.tup (zb8 x.1), zc0 x.2.1 x.2.2]
noncomputable abbrev xc6 : List D -> Option D := gP 2 2 (zx7 zr1)
theorem ye8 (b : Bool) (m : Int) : (zc0 b m).imm = true := rfl
theorem xf2 (x : List Pc × Bool × Int) : (zt8 x).imm = true := by
  show (D.imm (.tup (zb8 x.1)) && (D.imm (zc0 x.2.1 x.2.2) && D.imms [])) = true
  rw [show D.imm (.tup (zb8 x.1)) = D.imms (zb8 x.1) from rfl, zj3]; rfl
theorem xi3 (b : Bool) (m : Int) : ∀ (rs : List (List Pc)) (x : Option D), yc1 [x, some (zc0 b m)] yy1 (zg7 (za1 (zb7 (za0 0)) (za1 (zb7 (za0 1)) za3))) (zf3 rs) = some ((rs.map fun r => (r, b, m)).map zt8)
  | [], _ => rfl
  | r :: rs, x => by
    have ih := xi3 b m rs x
    have hi := ye8 b m
    have hp := zj3 r
    show yc1 _ _ _ (.tup (zb8 r) :: zf3 rs) = _
    rw [yc1]
    show (yy1 [some (.tup (zb8 r)), some (zc0 b m)]).bind _ = _
    rw [List.map_cons, List.map_cons]
    have e : zg7 (za1 (zb7 (za0 0)) (za1 (zb7 (za0 1)) za3)) [some (.tup (zb8 r)), some (zc0 b m)] = some (zt8 (r, b, m)) := by
      unfold zt8
      generalize zc0 b m = q at hi |-
      simp [gP, gE, za9, zc1, zb4, za5, fIf, za8, fB, f2, za0, fC, zb7, zd3, zc3, zc9, zb6, ze0, ze6, za1, za3, zd7, zg7, za7, dEq, dNe, eqB, dB, dIx, ze3, zc7, D.imm, D.imms, zc6, zm1, fT, ze7, zd0, zg6, zf4, zj7, zh5, dIn, inB, yg3, D.flat, D.flats, inV, eqV, zi3, zf6, zk4, yo8, fOr, zc4, zo0, zh4, zj4, zf0, zt4, zi8, zm3, zj6, yd7, zl6, zc8, dLe, dLt, dGe, dIs, zn8, fMt, zo7, zv2, hp, hi]
    show ((zg7 (za1 (zb7 (za0 0)) (za1 (zb7 (za0 1)) za3)) [some (.tup (zb8 r)), some (zc0 b m)]).bind _) = _
    rw [e, Option.bind_some, ih]; rfl
noncomputable def xc7 : Pc -> Nat
  | .either rs => rs.length
  | _ => 0
theorem kd2 {p : PSt} {k w : String} {b : Bool} (hp : p[2]? = some (some (.str k))) (h : decide (k = w) = b) : fB (f2 dEq (za0 2) (fC (.str w))) p = some b := by
  refine zt0 (zc5 (yl7 hp) rfl ?_)
  show some (D.bl (decide ((k : Str) = (w : Str)))) = _
  rw [<- h]
  congr 2
  exact decide_eq_decide.mpr (by rw [zd0])
theorem yx6 {p : PSt} {f g : PSt -> Option D} {b : Bool} {m : Int} (h1 : f p = some (.bl b)) (h2 : g p = some (.int m)) : yd7 (zj6 "Place" (zc4 [.im f, .im g]) zr1) p = some (zc0 b m) := by
  have q := xy5 b m
  have e : zj6 "Place" (zc4 [.im f, .im g]) zr1 p = some (.obj true "Place" nsP [.bl b, .int m]) := by
    unfold zj6
    rw [zn4 h1 rfl (zn4 h2 rfl ya3), Option.bind_some, q]; rfl
  unfold yd7
  rw [e]; rfl
theorem wl3 : xc4 [] = some (zc0 true 0) := zw9 (p := []) rfl (zl3 (yx6 rfl rfl))
theorem xf3 {p : PSt} {f g : PSt -> Option D} {r : List Pc} {b : Bool} {m : Int} (h1 : f p = some (.tup (zb8 r))) (h2 : g p = some (zc0 b m)) : zg7 (za1 f (za1 g za3)) p = some (zt8 (r, b, m)) := by
  unfold zg7
  rw [zb2 h1 (zb2 h2 rfl)]
  refine (if_pos ?_).trans rfl
  have := xf2 (r, b, m)
  rw [show D.imms [.tup (zb8 r), zc0 b m] = true from this]; rfl
theorem ws0 (p : Pc) (b : Bool) (m : Int) (hp : ys9 p = true) (hl : xc7 p <= 1000) : xc6 [pcD p, zc0 b m] = some (.lst true ((yj5 b m p).map zt8)) := by
  show gP 2 2 (zx7 zr1) _ = _
  cases p with
  | leaf l => cases hp
  | group r =>
    have s1 : zb4 2 (za5 (zb7 (f2 dIx (za0 0) (fC (.int 0))))) [some (pcD (.group r)), some (zc0 b m), none, none] = some (.nx, [some (pcD (.group r)), some (zc0 b m), some (.str "group"), none]) := zh3 (zk8 (zc5 rfl rfl (zg6 _ _)) rfl)
    have s4 : zb4 3 (za5 (zg7 (za1 (zb7 (f2 dIx (za0 0) (fC (.int 1)))) (za1 (yd7 (zj6 "Place" (zc4 [.im (fC (.bl false)), .im (zi8 "Place" "margin" (za0 1))]) zr1)) za3)))) [some (pcD (.group r)), some (zc0 b m), some (.str "group"), none] = some (.nx, [some (pcD (.group r)), some (zc0 b m), some (.str "group"), some (zt8 (r, false, m))]) := zh3 (xf3 (zk8 (zc5 rfl rfl (zf4 _ _ _)) (zj3 r)) (yx6 rfl (by kernel_rfl)))
    have w3 : zb7 (za0 3) [some (pcD (.group r)), some (zc0 b m), some (.str "group"), some (zt8 (r, false, m))] = some (zt8 (r, false, m)) := zk8 rfl (xf2 _)
    have br : fT (zi8 "Place" "broken" (za0 1)) [some (pcD (.group r)), some (zc0 b m), some (.str "group"), some (zt8 (r, false, m))] = some b := xy4 (by kernel_rfl)
    suffices h : ∃ q, zx7 zr1 [some (pcD (.group r)), some (zc0 b m), none, none] = some (.ret (.lst true ((yj5 b m (.group r)).map zt8)), q) from by
      obtain ⟨q, hq⟩ := h; exact zw9 rfl hq
    unfold zx7
    rw [za4 s1, za4 (zf9 (kd2 rfl (by decide))), za4 (zf9 (kd2 rfl (by decide))), za4 s4]
    cases b with
    | true => exact ⟨_, zm5 ((zi5 br).trans (zl3 (zp7 (zb2 w3 (zb2 (xf3 (zk8 (zc5 rfl rfl (zf4 _ _ _)) (zj3 r)) (zk8 rfl rfl)) rfl)) (Nat.le_of_ble_eq_true rfl))))⟩
    | false => exact ⟨_, (za4 (zf9 br)).trans (zl3 (zp7 (zb2 w3 rfl) (Nat.le_of_ble_eq_true rfl)))⟩
  | hang n r =>
    have s1 : zb4 2 (za5 (zb7 (f2 dIx (za0 0) (fC (.int 0))))) [some (pcD (.hang n r)), some (zc0 b m), none, none] = some (.nx, [some (pcD (.hang n r)), some (zc0 b m), some (.str "hang"), none]) := zh3 (zk8 (zc5 rfl rfl (zg6 _ _)) rfl)
    refine zw9 (p := [some (pcD (.hang n r)), some (zc0 b m), some (.str "hang"), none]) rfl ?_
    unfold zx7
    exact (za4 s1).trans (zm5 ((zi5 (kd2 rfl (by decide))).trans (zl3 (zp7 (zb2 (xf3 (zk8 (zc5 rfl rfl (zj7 _ _ _ _)) (zj3 r)) (yx6 (by kernel_rfl) (zc5 (x := .int m) (by kernel_rfl) (zc5 rfl rfl (zf4 _ _ _)) rfl))) rfl) (Nat.le_of_ble_eq_true rfl)))))
  | either rs =>
    generalize zr1 = G
    have hz : (zf3 rs).length <= sizeLine := by rw [zu5]; exact sz hl
    have e := xi3 b m rs none
    have e2 : xb9 [none, some 1] (zo7 (f2 dIx (za0 0) (fC (.int 1)))) yy1 (zg7 (za1 (zb7 (za0 0)) (za1 (zb7 (za0 1)) za3))) [some (pcD (.either rs)), some (zc0 b m), some (.str "either"), none] = some (.lst true ((yj5 b m (.either rs)).map zt8)) := by
      unfold xb9
      have e3 : zo7 (f2 dIx (za0 0) (fC (.int 1))) [some (pcD (.either rs)), some (zc0 b m), some (.str "either"), none] = some (zf3 rs) := by simp [gP, gE, za9, zc1, zb4, za5, fIf, za8, fB, f2, za0, fC, zb7, zd3, zc3, zc9, zb6, ze0, ze6, za1, za3, zd7, zg7, za7, dEq, dNe, eqB, dB, dIx, ze3, zc7, D.imm, D.imms, zc6, zm1, fT, ze7, zd0, zg6, zf4, zj7, zh5, dIn, inB, yg3, D.flat, D.flats, inV, eqV, zi3, zf6, zk4, yo8, fOr, zc4, zo0, zh4, zj4, zf0, zt4, zi8, zm3, zj6, yd7, zl6, zc8, dLe, dLt, dGe, dIs, zn8, fMt, zo7, zv2, pcD]
      rw [e3, Option.bind_some, if_pos hz]
      have e4 : yc1 (yi0 [none, some 1] [some (pcD (.either rs)), some (zc0 b m), some (.str "either"), none]) yy1 (zg7 (za1 (zb7 (za0 0)) (za1 (zb7 (za0 1)) za3))) (zf3 rs) = some ((rs.map fun r => (r, b, m)).map zt8) := e
      rw [e4]; rfl
    have s1 : zb4 2 (za5 (zb7 (f2 dIx (za0 0) (fC (.int 0))))) [some (pcD (.either rs)), some (zc0 b m), none, none] = some (.nx, [some (pcD (.either rs)), some (zc0 b m), some (.str "either"), none]) := by simp [gP, gE, za9, zc1, zb4, za5, fIf, za8, fB, f2, za0, fC, zb7, zd3, zc3, zc9, zb6, ze0, ze6, za1, za3, zd7, zg7, za7, dEq, dNe, eqB, dB, dIx, ze3, zc7, D.imm, D.imms, zc6, zm1, fT, ze7, zd0, zg6, zf4, zj7, zh5, dIn, inB, yg3, D.flat, D.flats, inV, eqV, zi3, zf6, zk4, yo8, fOr, zc4, zo0, zh4, zj4, zf0, zt4, zi8, zm3, zj6, yd7, zl6, zc8, dLe, dLt, dGe, dIs, zn8, fMt, zo7, zv2, pcD]
    have s2 : ∀ F : PSt -> Option (Fl × PSt), fIf (za8 (fB (f2 dEq (za0 2) (fC (.str "hang"))))) F zc1 [some (pcD (.either rs)), some (zc0 b m), some (.str "either"), none] = some (.nx, [some (pcD (.either rs)), some (zc0 b m), some (.str "either"), none]) := fun F => by simp [gP, gE, za9, zc1, zb4, za5, fIf, za8, fB, f2, za0, fC, zb7, zd3, zc3, zc9, zb6, ze0, ze6, za1, za3, zd7, zg7, za7, dEq, dNe, eqB, dB, dIx, ze3, zc7, D.imm, D.imms, zc6, zm1, fT, ze7, zd0, zg6, zf4, zj7, zh5, dIn, inB, yg3, D.flat, D.flats, inV, eqV, zi3, zf6, zk4, yo8, fOr, zc4, zo0, zh4, zj4, zf0, zt4, zi8, zm3, zj6, yd7, zl6, zc8, dLe, dLt, dGe, dIs, zn8, fMt, zo7, zv2]
    have s3 : ∀ F : PSt -> Option (Fl × PSt), fIf (za8 (fB (f2 dEq (za0 2) (fC (.str "either"))))) F zc1 [some (pcD (.either rs)), some (zc0 b m), some (.str "either"), none] = F [some (pcD (.either rs)), some (zc0 b m), some (.str "either"), none] := fun F => by simp [gP, gE, za9, zc1, zb4, za5, fIf, za8, fB, f2, za0, fC, zb7, zd3, zc3, zc9, zb6, ze0, ze6, za1, za3, zd7, zg7, za7, dEq, dNe, eqB, dB, dIx, ze3, zc7, D.imm, D.imms, zc6, zm1, fT, ze7, zd0, zg6, zf4, zj7, zh5, dIn, inB, yg3, D.flat, D.flats, inV, eqV, zi3, zf6, zk4, yo8, fOr, zc4, zo0, zh4, zj4, zf0, zt4, zi8, zm3, zj6, yd7, zl6, zc8, dLe, dLt, dGe, dIs, zn8, fMt, zo7, zv2]
    refine zw9 rfl ?_ (p := [some (pcD (.either rs)), some (zc0 b m), some (.str "either"), none])
    unfold zx7
    exact (za4 s1).trans ((za4 (s2 _)).trans (zm5 ((s3 _).trans (zl3 e2))))
noncomputable abbrev gNl : List D -> Option D := gP 1 0 yq1
theorem xk2 (m : Int) (h0 : -1000 <= m) (h1 : m <= 1000) : zp3 (.str " ") (.int m) = some (.str (Txt.mul " " m)) := by
  rw [zp3, if_pos]
  simp only [Bool.and_eq_true, decide_eq_true_eq]
  exact ⟨⟨by decide +kernel, by omega⟩, by omega⟩
theorem wo4 (m : Int) (h0 : 0 <= m) (h1 : m <= 200) : gNl [.int m] = some (.str (nlw m)) := by
  have q := xk2 m (by omega) (by omega)
  have hl : 1 + (Txt.mul " " m).length <= sizeLine := by rw [ya9]; exact sz (by omega)
  have e : ((⟨#[10]⟩ : Str) ++ Txt.mul " " m) = nlw m := rfl
  have e1 : zc6 (.str "\n") (.str (Txt.mul " " m)) = some (.str (nlw m)) := by
    rw [xa8, zc6, if_pos (by exact hl)]; rfl
  exact zw9 rfl (zl3 (zc5 rfl (zc5 rfl rfl q) e1))
noncomputable abbrev yp7 : List D -> Option D := gP 3 1 (yc2 gNl)
noncomputable def wrD : Option Str -> D
  | some w => .str w
  | none => .non
theorem kd3 {p : PSt} {k w : String} {b : Bool} (hp : p[3]? = some (some (.str k))) (h : decide (k = w) = b) : fB (f2 dEq (za0 3) (fC (.str w))) p = some b := by
  refine zt0 (zc5 (yl7 hp) rfl ?_)
  show some (D.bl (decide ((k : Str) = (w : Str)))) = _
  rw [<- h]
  congr 2
  exact decide_eq_decide.mpr (by rw [zd0])
theorem xy6 (l : Leaf) (b : Bool) (m : Int) (k : Nat) (hl : zs1 l) (h0 : 0 <= m) (h1 : m <= 200) (hk : k <= 1000000) : yp7 [zh0 l, zc0 b m, .int k] = some (wrD (wr b m k l)) := by
  suffices h : ∃ q, yc2 gNl [some (zh0 l), some (zc0 b m), some (.int k), none] = some (.ret (wrD (wr b m k l)), q) from by
    obtain ⟨q, hq⟩ := h; exact zw9 rfl hq
  have br : ∀ d x, fT (zi8 "Place" "broken" (za0 1)) [some d, some (zc0 b m), some (.int k), x] = some b := fun d x => xy4 (by kernel_rfl)
  have mg : ∀ d x, za7 gNl (za1 (zi8 "Place" "margin" (za0 1)) za3) [some d, some (zc0 b m), some (.int k), x] = some (.str (nlw m)) := fun d x => zh1 (ds := [.int m]) (zb2 (by kernel_rfl) rfl) (wo4 m h0 h1)
  have s1 : ∀ (w : String) (ds : List D), zb4 3 (za5 (zb7 (f2 dIx (za0 0) (fC (.int 0))))) [some (.tup (.str w :: ds)), some (zc0 b m), some (.int k), none] = some (.nx, [some (.tup (.str w :: ds)), some (zc0 b m), some (.int k), some (.str w)]) := fun w ds => zh3 (zk8 (zc5 rfl rfl (zg6 _ _)) rfl)
  unfold yc2
  cases l with
  | word x => exact ⟨_, (za4 (s1 "word" [.str x])).trans (zm5 ((zi5 (kd3 rfl (by decide))).trans (zl3 (zk8 (zc5 rfl rfl (zf4 _ _ _)) rfl))))⟩
  | gap x =>
    show ∃ q, za9 _ _ [some (.tup [.str "gap", .str x]), some (zc0 b m), some (.int k), none] = _
    rw [za4 (s1 "gap" [.str x]), za4 (zf9 (kd3 rfl (by decide)))]
    cases b with
    | false => exact ⟨_, zm5 ((zi5 (zu2 (kd3 rfl (by decide)) (ya8 (br _ _)))).trans (zl3 (zk8 (zc5 rfl rfl (zf4 _ _ _)) rfl)))⟩
    | true => exact ⟨_, (za4 (zf9 (zu2 (kd3 rfl (by decide)) (ya8 (br _ _))))).trans ((za4 (zf9 (zx1 (kd3 rfl (by decide))))).trans ((za4 (zf9 (ya8 (br _ _)))).trans ((za4 (zf9 (kd3 rfl (by decide)))).trans (zl3 (mg _ _)))))⟩
  | fin =>
    show ∃ q, za9 _ _ [some (.tup [.str "end"]), some (zc0 b m), some (.int k), none] = _
    rw [za4 (s1 "end" []), za4 (zf9 (kd3 rfl (by decide))), za4 (zf9 (zx1 (kd3 rfl (by decide)))), za4 (zf9 (zx1 (kd3 rfl (by decide))))]
    cases b with
    | false => exact ⟨_, zm5 ((zi5 (ya8 (br _ _))).trans (zl3 rfl))⟩
    | true => exact ⟨_, (za4 (zf9 (ya8 (br _ _)))).trans ((za4 (zf9 (kd3 rfl (by decide)))).trans (zl3 (mg _ _)))⟩
  | stop c =>
    have hc : 0 <= c /\ c <= 40 := hl
    show ∃ q, za9 _ _ [some (.tup [.str "stop", .int c]), some (zc0 b m), some (.int k), none] = _
    have le : fB (f2 dLe (za0 2) (f2 dIx (za0 0) (fC (.int 1)))) [some (.tup [.str "stop", .int c]), some (zc0 b m), some (.int k), some (.str "stop")] = some (decide ((k : Int) <= c)) := zt0 (zc5 rfl (zc5 rfl rfl (zf4 _ _ _)) rfl)
    rw [za4 (s1 "stop" [.int c]), za4 (zf9 (kd3 rfl (by decide))), za4 (zf9 (zx1 (kd3 rfl (by decide))))]
    by_cases hkc : (k : Int) <= c
    . rw [decide_eq_true hkc] at le
      rw [show wr b m k (.stop c) = some (Txt.mul " " (c - k)) from if_pos hkc]
      exact ⟨_, zm5 ((zi5 (zu2 (kd3 rfl (by decide)) le)).trans (zl3 (zc5 rfl (zc5 (zc5 rfl rfl (zf4 _ _ _)) rfl rfl) (xk2 (c - k) (by omega) (by omega)))))⟩
    . rw [decide_eq_false hkc] at le
      rw [za4 (zf9 (zu2 (kd3 rfl (by decide)) le))]
      cases b with
      | false =>
        rw [show wr false m k (.stop c) = none from (if_neg hkc).trans rfl]
        exact ⟨_, zm5 ((zi5 (ya8 (br _ _))).trans (zl3 rfl))⟩
      | true =>
        rw [show wr true m k (.stop c) = some (nlw c) from (if_neg hkc).trans rfl]
        exact ⟨_, (za4 (zf9 (ya8 (br _ _)))).trans (zm5 ((zi5 (kd3 rfl (by decide))).trans (zl3 (zh1 (zb2 (zc5 rfl rfl (zf4 _ _ _)) rfl) (wo4 c hc.1 (by omega))))))⟩
end My
namespace My
open PySem PySem.Spec PyProof.Rows L2 L3
theorem wf7 {w : Str} : Txt.startswith w ⟨#[10]⟩ = decide (w.cps.toList[0]? = some 10) := by
  rw [Bool.eq_iff_iff, decide_eq_true_eq, <- xk1 (t := w) (i := 0)]
  unfold Txt.startswith StrLaws.At
  simp only [Bool.and_eq_true, decide_eq_true_eq]
noncomputable abbrev xc8 : List D -> Option D := gP 1 0 yd9
theorem ws1 (w : Str) : xc8 [.str w] = some (.bl (decide (w.cps.toList[0]? = some 10))) := by
  rw [<- wf7, <- xa8]
  simp [gP, gE, za9, zc1, zb4, za5, fIf, za8, fB, f2, za0, fC, zb7, zd3, zc3, zc9, zb6, ze0, ze6, za1, za3, za7, dIx, ze3, zc7, D.imm, D.imms, zc6, zm1, fT, ze7, zd0, zg6, zf4, zk4, zc4, zo0, zh4, zj4, zf0, zt4, zi8, zm3, zj6, zl6, zc8, dLt, dGe, dIs, zn8, fMt, fB, dB, zi6, yd9, zz3, yg4]
noncomputable abbrev yv1 : List D -> Option D := gP 2 0 (zp5 xc8)
theorem wf8 {t w : Str} (hw : Wr w) (hz : w.length <= 1000) : yv1 [.int (col t), .str w] = some (.int (col (t ++ w))) := by
  have q := ws1 w
  have hz' : w.length <= sizeLine := sz hz
  show gP 2 0 (zp5 xc8) _ = _
  rcases hw with h | ⟨m, rfl⟩
  . have e : decide (w.cps.toList[0]? = some 10) = false := decide_eq_false fun h' => h (List.mem_of_getElem? h')
    rw [e] at q
    rw [xt2 h]
    generalize xc8 = G at q |-
    simp [gP, gE, za9, zc1, zb4, za5, fIf, za8, fB, f2, za0, fC, zb7, zd3, zc3, zc9, zb6, ze0, ze6, za1, za3, za7, dIx, ze3, zc7, D.imm, D.imms, zc6, zm1, fT, ze7, zd0, zg6, zf4, zk4, zc4, zo0, zh4, zj4, zf0, zt4, zi8, zm3, zj6, zl6, zc8, dLt, dGe, dIs, zn8, fMt, fB, dB, zi6, zp5, q, hz']
  . have e : decide ((nlw m).cps.toList[0]? = some 10) = true := decide_eq_true (by unfold nlw; rw [zg0]; rfl)
    rw [e] at q
    have e2 : col (t ++ nlw m) = (nlw m).length - 1 := by
      unfold nlw
      rw [xo2 (xo1 m), zi1]; show _ = 1 + _ - 1; omega
    have e3 : 1 <= (nlw m).length := by unfold nlw; rw [zi1]; show 1 <= 1 + _; omega
    rw [e2]
    generalize xc8 = G at q |-
    generalize nlw m = w at hz' q e3 |-
    simp [gP, gE, za9, zc1, zb4, za5, fIf, za8, fB, f2, za0, fC, zb7, zd3, zc3, zc9, zb6, ze0, ze6, za1, za3, za7, dIx, ze3, zc7, D.imm, D.imms, zc6, zm1, fT, ze7, zd0, zg6, zf4, zk4, zc4, zo0, zh4, zj4, zf0, zt4, zi8, zm3, zj6, zl6, zc8, dLt, dGe, dIs, zn8, fMt, fB, dB, zi6, zp5, q, hz']
    omega
noncomputable def cat : List Str -> Str
  | [] => ⟨#[]⟩
  | x :: xs => x ++ cat xs
theorem yd2 (t : Str) : t ++ (⟨#[]⟩ : Str) = t := zx2 (by rw [zg0]; simp [gP, gE, za9, zc1, zb4, za5, fIf, za8, fB, f2, za0, fC, zb7, zd3, zc3, zc9, zb6, ze0, ze6, za1, za3, za7, dIx, ze3, zc7, D.imm, D.imms, zc6, zm1, fT, ze7, zd0, zg6, zf4, zk4, zc4, zo0, zh4, zj4, zf0, zt4, zi8, zm3, zj6, zl6, zc8, dLt, dGe, dIs, zn8, fMt, fB, dB, zi6])
theorem xt4 (t : Str) : (⟨#[]⟩ : Str) ++ t = t := zx2 (by rw [zg0]; simp [gP, gE, za9, zc1, zb4, za5, fIf, za8, fB, f2, za0, fC, zb7, zd3, zc3, zc9, zb6, ze0, ze6, za1, za3, za7, dIx, ze3, zc7, D.imm, D.imms, zc6, zm1, fT, ze7, zd0, zg6, zf4, zk4, zc4, zo0, zh4, zj4, zf0, zt4, zi8, zm3, zj6, zl6, zc8, dLt, dGe, dIs, zn8, fMt, fB, dB, zi6])
theorem xt5 (a b c : Str) : (a ++ b) ++ c = a ++ (b ++ c) := zx2 (by simp only [zg0, List.append_assoc])
theorem yo1 : ∀ (ps : List Str) (w : Str), cat (ps ++ [w]) = cat ps ++ w
  | [], w => by show w ++ (⟨#[]⟩ : Str) = (⟨#[]⟩ : Str) ++ w; rw [yd2, xt4]
  | x :: ps, w => by show x ++ cat (ps ++ [w]) = (x ++ cat ps) ++ w; rw [yo1 ps w, xt5]
noncomputable abbrev nsS : List Str := ["choices", "used", "column", "parts"]
noncomputable def zd2 (C : List Int) : List D := C.map .int
theorem xi4 (a b : List Int) : zd2 (a ++ b) = zd2 a ++ zd2 b := by simp [gP, gE, za9, zc1, zb4, za5, fIf, za8, fB, f2, za0, fC, zb7, zd3, zc3, zc9, zb6, ze0, ze6, za1, za3, za7, dIx, ze3, zc7, D.imm, D.imms, zc6, zm1, fT, ze7, zd0, zg6, zf4, zk4, zc4, zo0, zh4, zj4, zf0, zt4, zi8, zm3, zj6, zl6, zc8, dLt, dGe, dIs, zn8, fMt, fB, dB, zi6, zd2]
theorem xi5 (a : List Int) : (zd2 a).length = a.length := by simp [gP, gE, za9, zc1, zb4, za5, fIf, za8, fB, f2, za0, fC, zb7, zd3, zc3, zc9, zb6, ze0, ze6, za1, za3, za7, dIx, ze3, zc7, D.imm, D.imms, zc6, zm1, fT, ze7, zd0, zg6, zf4, zk4, zc4, zo0, zh4, zj4, zf0, zt4, zi8, zm3, zj6, zl6, zc8, dLt, dGe, dIs, zn8, fMt, fB, dB, zi6, zd2]
noncomputable def stD (C : List Int) (u : Nat) (ps : List Str) : D := .obj true "Setter" nsS [.tup (zd2 C), .int u, .int (col (cat ps)), .lst true (zp8 ps)]
theorem ye9 : ∀ C, D.imms (zd2 C) = true
  | [] => rfl
  | c :: C => by show (D.imm (.int c) && D.imms (zd2 C)) = true; rw [ye9 C]; rfl
noncomputable abbrev zu3 : List D -> Option (D × List D) := gE 3 1 (zc8 [true, false, false]) (zs5 yp7 yv1)
theorem wl4 {C : List Int} {u : Nat} {ps : List Str} {l : Leaf} {b : Bool} {m : Int} {w : Str} (hl : zs1 l) (h0 : 0 <= m) (h1 : m <= 200) (hw : wr b m (col (cat ps)) l = some w) (hp : ps.length <= 900) (hc : (cat ps).length <= 1000000) :
    zu3 [stD C u ps, zh0 l, zc0 b m] = some (.non, [stD C u (ps ++ [w]), zh0 l, zc0 b m]) := by
  obtain ⟨hW, hz⟩ := wo3 hl h0 h1 hw
  have q1 := xy6 l b m (col (cat ps)) hl h0 h1 (Nat.le_trans (wx2 _) hc)
  rw [hw] at q1
  have q2 := wf8 (t := cat ps) hW (by omega)
  have hi : (zp8 ps).length < sizeLine := by rw [wf4]; exact sz1 (by omega)
  have es : zp8 (ps ++ [w]) = zp8 ps ++ [.str w] := by rw [wf3]; rfl
  show gE 3 1 _ (zs5 yp7 yv1) _ = _
  unfold stD
  rw [yo1, es]
  generalize zh0 l = dl at q1 |-
  generalize zc0 b m = dp at q1 |-
  generalize yp7 = G1 at q1 |-
  generalize yv1 = G2 at q2 |-
  simp only [wrD] at q1
  simp [gP, gE, za9, zc1, zb4, za5, fIf, za8, fB, f2, za0, fC, zb7, zd3, zc3, zc9, zb6, ze0, ze6, za1, za3, za7, dIx, ze3, zc7, D.imm, D.imms, zc6, zm1, fT, ze7, zd0, zg6, zf4, zk4, zc4, zo0, zh4, zj4, zf0, zt4, zi8, zm3, zj6, zl6, zc8, dLt, dGe, dIs, zn8, fMt, fB, dB, zi6, zs5, q1, q2, hi]
noncomputable abbrev yc4 : List D -> Option (D × List D) := gE 2 1 (zc8 [true, false]) zt7
theorem ya6 {α : Type} {xs : List α} {n : Nat} {v : α} (h : xs[n]? = some v) : atI xs (n : Int) = some v := xd4 h
theorem wl5 {C : List Int} {u n : Nat} {c : Int} {ps : List Str} (hc : C[u]? = some c) (h0 : 0 <= c) (h1 : c < n) : yc4 [stD C u ps, .int n] = some (.int c, [stD C (u + 1) ps, .int n]) := by
  obtain ⟨hu, _⟩ := List.getElem?_eq_some_iff.mp hc
  have hl : (zd2 C).length = C.length := List.length_map _
  have e : atI (zd2 C) (u : Int) = some (.int c) := ya6 (by unfold zd2; rw [List.getElem?_map, hc]; rfl)
  have g1 : ¬ ((C.length : Int) <= (u : Int)) := by omega
  have g2 : ¬ (c < 0) := by omega
  have g3 : ¬ ((n : Int) <= c) := by omega
  unfold stD
  simp [gP, gE, za9, zc1, zb4, za5, fIf, za8, fB, f2, za0, fC, zb7, zd3, zc3, zc9, zb6, ze0, ze6, za1, za3, za7, dIx, ze3, zc7, D.imm, D.imms, zc6, zm1, fT, ze7, zd0, zg6, zf4, zk4, zc4, zo0, zh4, zj4, zf0, zt4, zi8, zm3, zj6, zl6, zc8, dLt, dGe, dIs, zn8, fMt, fB, dB, zi6, zt7, hl, e, g1, g2, g3]
noncomputable abbrev yj6 (GR : List D -> Option (D × List D)) : List D -> Option (D × List D) := gE 3 3 (zc8 [true, false, false]) (zr0 xc6 yi3 yc4 GR)
theorem yu0 {GR : List D -> Option (D × List D)} {p : Pc} {b : Bool} {m : Int} {C : List Int} {u u1 i : Nat} {ps : List Str} {x : List Pc × Bool × Int} {N : D} (hp : ys9 p = true) (hn : xc7 p <= 1000) (hi : (yj5 b m p)[i]? = some x)
    (hc : (xc5 b p = true /\ C[u]? = some (i : Int) /\ u1 = u + 1) \/ (xc5 b p = false /\ i = 0 /\ u1 = u)) (hR : GR [stD C u1 ps, .tup (zb8 x.1), zc0 x.2.1 x.2.2] = some (.non, [N, .tup (zb8 x.1), zc0 x.2.1 x.2.2])) :
    yj6 GR [stD C u ps, pcD p, zc0 b m] = some (.non, [N, pcD p, zc0 b m]) := by
  have q1 := ws0 p b m hp hn
  have q2 := wl2 p b m hp
  have hil : i < ((yj5 b m p).map zt8).length := by rw [List.length_map]; exact (List.getElem?_eq_some_iff.mp hi).1
  have e1 : atI ((yj5 b m p).map zt8) (i : Int) = some (zt8 x) := ya6 (by rw [List.getElem?_map, hi]; rfl)
  have hw := xf2 x
  have p1 := zj3 x.1
  have p2 := ye8 x.2.1 x.2.2
  generalize hW : (yj5 b m p).map zt8 = W at q1 hil e1
  have st1 : ∀ v ps', stD C v ps' = .obj true "Setter" nsS [.tup (zd2 C), .int v, .int (col (cat ps')), .lst true (zp8 ps')] := fun _ _ => rfl
  have hm : ∀ v, zo8 "Setter" "set_row" GR [.tup (zb8 x.1), zc0 x.2.1 x.2.2] (stD C v ps) = (GR [stD C v ps, .tup (zb8 x.1), zc0 x.2.1 x.2.2]).bind fun r => match r.2 with
      | d' :: ds => if ds.length = 2 then some (r.1, d') else none
      | [] => none := fun v => by
    rw [st1]
    show (if (("Setter" : Str) = "Setter" /\ zf0 nsS "set_row" = none) then _ else none) = _
    exact if_pos ⟨rfl, by simp [gP, gE, za9, zc1, zb4, za5, fIf, za8, fB, f2, za0, fC, zb7, zd3, zc3, zc9, zb6, ze0, ze6, za1, za3, za7, dIx, ze3, zc7, D.imm, D.imms, zc6, zm1, fT, ze7, zd0, zg6, zf4, zk4, zc4, zo0, zh4, zj4, zf0, zt4, zi8, zm3, zj6, zl6, zc8, dLt, dGe, dIs, zn8, fMt, fB, dB, zi6]⟩
  have hm1 : zo8 "Setter" "set_row" GR [.tup (zb8 x.1), zc0 x.2.1 x.2.2] (stD C u1 ps) = some (.non, N) := by rw [hm, hR]; rfl
  have body : ∀ f4 : Int, za9 (zb4 5 (za5 (zb7 (f2 dIx (za0 3) (za0 4))))) (zc3 (zc9 0 zb6 (zc4 [.im (f2 dIx (za0 5) (fC (.int 0))), .im (f2 dIx (za0 5) (fC (.int 1)))]) (zo8 "Setter" "set_row" GR))) [some (stD C u1 ps), some (pcD p), some (zc0 b m), some (.lst true W), some (.int (i : Int)), none] = some (.nx, [some N, some (pcD p), some (zc0 b m), some (.lst true W), some (.int (i : Int)), some (zt8 x)]) := fun _ => by
    have s1 : zb4 5 (za5 (zb7 (f2 dIx (za0 3) (za0 4)))) [some (stD C u1 ps), some (pcD p), some (zc0 b m), some (.lst true W), some (.int (i : Int)), none] = some (.nx, [some (stD C u1 ps), some (pcD p), some (zc0 b m), some (.lst true W), some (.int (i : Int)), some (zt8 x)]) := by
      refine zh3 ?_
      simp [gP, gE, za9, zc1, zb4, za5, fIf, za8, fB, f2, za0, fC, zb7, zd3, zc3, zc9, zb6, ze0, ze6, za1, za3, za7, dIx, ze3, zc7, D.imm, D.imms, zc6, zm1, fT, ze7, zd0, zg6, zf4, zk4, zc4, zo0, zh4, zj4, zf0, zt4, zi8, zm3, zj6, zl6, zc8, dLt, dGe, dIs, zn8, fMt, fB, dB, zi6, e1, hw]
    refine (za4 s1).trans ?_
    unfold zt8 at *
    generalize zc0 x.2.1 x.2.2 = PX at *
    generalize stD C u1 ps = ST at *
    simp [gP, gE, za9, zc1, zb4, za5, fIf, za8, fB, f2, za0, fC, zb7, zd3, zc3, zc9, zb6, ze0, ze6, za1, za3, za7, dIx, ze3, zc7, D.imm, D.imms, zc6, zm1, fT, ze7, zd0, zg6, zf4, zk4, zc4, zo0, zh4, zj4, zf0, zt4, zi8, zm3, zj6, zl6, zc8, dLt, dGe, dIs, zn8, fMt, fB, dB, zi6, p1, p2, hm1]
  show gE 3 3 _ (zr0 xc6 yi3 yc4 GR) _ = _
  have s1 : zb4 3 (za5 (za7 xc6 (za1 (za0 1) (za1 (za0 2) za3)))) [some (stD C u ps), some (pcD p), some (zc0 b m), none, none, none] = some (.nx, [some (stD C u ps), some (pcD p), some (zc0 b m), some (.lst true W), none, none]) := zh3 (zh1 (zb2 rfl (zb2 rfl rfl)) q1)
  have s2 : zb4 4 (za5 (fC (.int 0))) [some (stD C u ps), some (pcD p), some (zc0 b m), some (.lst true W), none, none] = some (.nx, [some (stD C u ps), some (pcD p), some (zc0 b m), some (.lst true W), some (.int 0), none]) := rfl
  have t1 : ∀ B, xc5 b p = B -> za8 (fT (za7 yi3 (za1 (za0 1) (za1 (za0 2) za3)))) [some (stD C u ps), some (pcD p), some (zc0 b m), some (.lst true W), some (.int 0), none] = some (B, [some (stD C u ps), some (pcD p), some (zc0 b m), some (.lst true W), some (.int 0), none]) := fun B hB => by
    have e : za7 yi3 (za1 (za0 1) (za1 (za0 2) za3)) [some (stD C u ps), some (pcD p), some (zc0 b m), some (.lst true W), some (.int 0), none] = some (.bl B) := zh1 (zb2 rfl (zb2 rfl rfl)) (hB ▸ q2)
    unfold za8 fT
    rw [e]; rfl
  have s3 : fIf (za8 (fT (za7 yi3 (za1 (za0 1) (za1 (za0 2) za3))))) (zb4 4 (zc9 0 zb6 (zc4 [.im (za7 ze3 (za1 (za0 3) za3))]) (zo8 "Setter" "choice_below" yc4))) zc1 [some (stD C u ps), some (pcD p), some (zc0 b m), some (.lst true W), some (.int 0), none] = some (.nx, [some (stD C u1 ps), some (pcD p), some (zc0 b m), some (.lst true W), some (.int (i : Int)), none]) := by
    rcases hc with ⟨hT, hC, rfl⟩ | ⟨hT, rfl, rfl⟩
    . refine (xa7 (t1 _ hT)).trans ?_
      have qb := wl5 (ps := ps) hC (by omega) (show (i : Int) < (W.length : Nat) by omega)
      have hb : zo8 "Setter" "choice_below" yc4 [.int (W.length : Nat)] (stD C u ps) = some (.int (i : Int), stD C (u + 1) ps) := by
        have e : zo8 "Setter" "choice_below" yc4 [.int (W.length : Nat)] (stD C u ps) = (yc4 [stD C u ps, .int (W.length : Nat)]).bind fun r => match r.2 with
            | d' :: ds => if ds.length = 1 then some (r.1, d') else none
            | [] => none := by
          rw [st1]
          show (if (("Setter" : Str) = "Setter" /\ zf0 nsS "choice_below" = none) then _ else none) = _
          exact if_pos ⟨rfl, by simp [gP, gE, za9, zc1, zb4, za5, fIf, za8, fB, f2, za0, fC, zb7, zd3, zc3, zc9, zb6, ze0, ze6, za1, za3, za7, dIx, ze3, zc7, D.imm, D.imms, zc6, zm1, fT, ze7, zd0, zg6, zf4, zk4, zc4, zo0, zh4, zj4, zf0, zt4, zi8, zm3, zj6, zl6, zc8, dLt, dGe, dIs, zn8, fMt, fB, dB, zi6]⟩
        rw [e, qb]; rfl
      generalize yc4 = G at hb |-
      generalize stD C u ps = S0 at hb |-
      generalize stD C (u + 1) ps = S1 at hb |-
      generalize pcD p = d1
      generalize zc0 b m = d2
      simp [gP, gE, za9, zc1, zb4, za5, fIf, za8, fB, f2, za0, fC, zb7, zd3, zc3, zc9, zb6, ze0, ze6, za1, za3, za7, dIx, ze3, zc7, D.imm, D.imms, zc6, zm1, fT, ze7, zd0, zg6, zf4, zk4, zc4, zo0, zh4, zj4, zf0, zt4, zi8, zm3, zj6, zl6, zc8, dLt, dGe, dIs, zn8, fMt, fB, dB, zi6, hb]
    . exact (yb5 (t1 _ hT)).trans rfl
  have z := (za4 s1).trans ((za4 s2).trans ((za4 s3).trans (body 0)))
  unfold gE
  refine (if_pos rfl).trans ?_
  have z' : zr0 xc6 yi3 yc4 GR ([stD C u ps, pcD p, zc0 b m].map some ++ List.replicate 3 none) = some (.nx, [some N, some (pcD p), some (zc0 b m), some (.lst true W), some (.int (i : Int)), some (zt8 x)]) := z
  rw [z']
  rfl
end My
namespace My
open PySem PySem.Spec PyProof.Rows L2 L3
structure Gm where
  kd : Nat
  n : Int
  full : List (List Pc)
  parts : List Pc
noncomputable def kdS : Nat -> String
  | 0 => "top"
  | 1 => "group"
  | 2 => "hang"
  | _ => "either"
noncomputable def gmD (f : Gm) : D := .lst true [.str (kdS f.kd), .int f.n, .lst true (zf3 f.full), .lst true (zb8 f.parts)]
noncomputable def zf5 : List Gm -> List D
  | [] => []
  | f :: fs => zf5 fs ++ [gmD f]
theorem yd3 : ∀ fs, (zf5 fs).length = fs.length
  | [] => rfl
  | f :: fs => by rw [zf5, List.length_append, yd3 fs]; rfl
noncomputable def yj7 : List Pc := [.leaf (.word "or")]
noncomputable def ye5 (f : Gm) : List (List Pc) := if f.full = [] then [f.parts, yj7] else f.full ++ [f.parts]
noncomputable def zo9 (f : Gm) : Pc := match f.kd with
  | 1 => .group f.parts
  | 2 => .hang f.n f.parts
  | _ => .either (ye5 f)
noncomputable def zv9 (g : Gm) (p : Pc) : Gm := { g with parts := g.parts ++ [p] }
mutual
noncomputable def okP : Pc -> Prop
  | .leaf l => zs1 l
  | .group r => okR r
  | .hang n r => (0 <= n /\ n <= 12) /\ okR r
  | .either rs => (2 <= rs.length /\ rs.length <= 4) /\ zw0 rs
noncomputable def okR : List Pc -> Prop
  | [] => True
  | p :: r => okP p /\ okR r
noncomputable def zw0 : List (List Pc) -> Prop
  | [] => True
  | r :: rs => okR r /\ zw0 rs
end
theorem xf4 : ∀ a b : List Pc, okR (a ++ b) ↔ okR a /\ okR b
  | [], b => by simp [okR]
  | p :: a, b => by rw [List.cons_append, okR, okR, xf4 a b, and_assoc]
theorem yx7 : ∀ a b : List (List Pc), zw0 (a ++ b) ↔ zw0 a /\ zw0 b
  | [], b => by simp [zw0]
  | p :: a, b => by rw [List.cons_append, zw0, zw0, yx7 a b, and_assoc]
theorem xt6 (p : Pc) : okR [p] ↔ okP p := by simp [okR]
theorem xo4 (r : List Pc) : zw0 [r] ↔ okR r := by simp [zw0]
theorem yh8 : ∀ a b : List (List Pc), zj5 (a ++ b) = zj5 a ++ zj5 b
  | [], b => rfl
  | r :: a, b => by
    show Tk.orr :: (zd6 r ++ zj5 (a ++ b)) = (Tk.orr :: (zd6 r ++ zj5 a)) ++ zj5 b
    rw [yh8 a b]; simp
noncomputable def wF (f : Gm) : Nat := (zj5 f.full).length + (zd6 f.parts).length + 4
noncomputable def wG : List Gm -> Nat
  | [] => 0
  | f :: fs => wF f + wG fs
noncomputable def wz6 (f : Gm) : Prop := zw0 f.full /\ okR f.parts /\ f.full.length <= 3 /\ (f.kd ≠ 3 -> f.full = []) /\ 0 <= f.n /\ f.n <= 12
noncomputable def xq2 : List Gm -> Prop
  | [] => False
  | [f] => f.kd = 0
  | f :: g :: fs => (1 <= f.kd /\ f.kd <= 3) /\ xq2 (g :: fs)
noncomputable def wp3 (m : Nat) : List Gm -> Prop
  | [] => True
  | f :: fs => zh8 f.parts + fs.length <= m /\ zw5 f.full + fs.length <= m /\ wp3 m fs
structure GInv (nest k : Nat) (fs : List Gm) : Prop where
  len : fs.length <= nest + 1
  wt : wG fs <= 4 * k + 4
  each : ∀ f ∈ fs, wz6 f
  kinds : xq2 fs
  deep : wp3 nest fs
theorem xy7 {f : Gm} (h : f.kd ≠ 3 -> f.full = []) (hk : 1 <= f.kd /\ f.kd <= 3) : (zh2 (zo9 f)).length <= wF f := by
  have e : f.kd = 1 \/ f.kd = 2 \/ f.kd = 3 := by omega
  unfold wF zo9
  rcases e with e | e | e
  . rw [e]; show (Tk.opn :: (zd6 f.parts ++ [.cls])).length <= _; rw [List.length_cons, List.length_append]; simp; omega
  . rw [e]; show (Tk.hng f.n :: (zd6 f.parts ++ [.bck])).length <= _; rw [List.length_cons, List.length_append]; simp; omega
  . rw [e]
    show (Tk.eit :: (yd8 (ye5 f) ++ [.don])).length <= _
    rw [List.length_cons, List.length_append]
    unfold ye5
    cases hf : f.full with
    | nil =>
      rw [if_pos rfl]
      show (zd6 f.parts ++ (Tk.orr :: (zd6 yj7 ++ []))).length + 1 + 1 <= _
      simp [yj7, zd6, zh2, zj5]
    | cons r rs =>
      rw [if_neg (by simp)]
      show (zd6 r ++ zj5 (rs ++ [f.parts])).length + 1 + 1 <= (Tk.orr :: (zd6 r ++ zj5 rs)).length + _ + 4
      rw [yh8]
      simp [zj5]; omega
theorem wl6 {f : Gm} (h : wz6 f) (hk : 1 <= f.kd /\ f.kd <= 3) : okP (zo9 f) := by
  obtain ⟨h1, h2, h3, h4, h5, h6⟩ := h
  have e : f.kd = 1 \/ f.kd = 2 \/ f.kd = 3 := by omega
  unfold zo9
  rcases e with e | e | e
  . rw [e]; exact h2
  . rw [e]; exact ⟨⟨h5, h6⟩, h2⟩
  . rw [e]
    show (2 <= (ye5 f).length /\ (ye5 f).length <= 4) /\ zw0 (ye5 f)
    unfold ye5
    by_cases c : f.full = []
    . rw [if_pos c]
      refine ⟨⟨by simp, by simp⟩, h2, ?_, trivial⟩
      exact ⟨⟨by decide +kernel, by decide +kernel, by decide +kernel⟩, trivial⟩
    . rw [if_neg c]
      have hp : 1 <= f.full.length := by cases hf : f.full with | nil => exact absurd hf c | cons a l => simp
      refine ⟨⟨by rw [List.length_append]; simp; omega, by rw [List.length_append]; simp; omega⟩, ?_⟩
      rw [yx7, xo4]; exact ⟨h1, h2⟩
theorem wf9 {f : Gm} {m k : Nat} (h1 : zh8 f.parts + (k + 1) <= m) (h2 : zw5 f.full + (k + 1) <= m) : zn0 (zo9 f) + k <= m := by
  unfold zo9
  split
  . show zh8 f.parts + 1 + k <= m; omega
  . show zh8 f.parts + 1 + k <= m; omega
  . show zw5 (ye5 f) + 1 + k <= m
    unfold ye5
    split
    . show max (zh8 f.parts) (max (zh8 yj7) 0) + 1 + k <= m
      have : zh8 yj7 = 0 := rfl
      omega
    . rw [yn3]; omega
theorem GInv.leaf {nest k : Nat} {f : Gm} {fs : List Gm} {l : Leaf} (h : GInv nest k (f :: fs)) (hl : zs1 l) : GInv nest (k + 1) (zv9 f (.leaf l) :: fs) := by
  obtain ⟨h1, h2, h3, h4, h5⟩ := h
  have hf := h3 f List.mem_cons_self
  refine ⟨h1, ?_, ?_, ?_, ?_⟩
  . have h2' : wF f + wG fs <= 4 * k + 4 := h2
    show (zj5 f.full).length + (zd6 (f.parts ++ [.leaf l])).length + 4 + wG fs <= _
    rw [yh4, List.length_append]
    unfold wF at h2'
    show _ + (_ + 1) + 4 + _ <= _
    omega
  . intro x hx
    rcases List.mem_cons.mp hx with rfl | hx
    . obtain ⟨a1, a2, a3, a4, a5⟩ := hf
      exact ⟨a1, (xf4 _ _).mpr ⟨a2, (xt6 _).mpr hl⟩, a3, a4, a5⟩
    . exact h3 x (List.mem_cons_of_mem _ hx)
  . cases fs with
    | nil => exact h4
    | cons g fs => exact ⟨h4.1, h4.2⟩
  . refine ⟨?_, h5.2.1, h5.2.2⟩
    show zh8 (f.parts ++ [.leaf l]) + fs.length <= nest
    rw [yr8]
    have := h5.1
    show max _ 0 + _ <= _
    omega
theorem GInv.opener {nest k : Nat} {fs : List Gm} {kd : Nat} {n : Int} (h : GInv nest k fs) (hk : 1 <= kd /\ kd <= 3) (hn : 0 <= n /\ n <= 12) (hl : fs.length <= nest) : GInv nest (k + 1) (⟨kd, n, [], []⟩ :: fs) := by
  obtain ⟨h1, h2, h3, h4, h5⟩ := h
  refine ⟨by simp; omega, ?_, ?_, ?_, ?_⟩
  . show 0 + 0 + 4 + wG fs <= _; omega
  . intro x hx
    rcases List.mem_cons.mp hx with rfl | hx
    . exact ⟨trivial, trivial, Nat.zero_le _, fun _ => rfl, hn⟩
    . exact h3 x hx
  . cases fs with
    | nil => exact h4.elim
    | cons g fs => exact ⟨hk, h4⟩
  . exact ⟨by show 0 + _ <= _; omega, by show 0 + _ <= _; omega, h5⟩
theorem GInv.orr {nest k : Nat} {f : Gm} {fs : List Gm} (h : GInv nest k (f :: fs)) (hf3 : f.full.length < 3) (hk : f.kd = 3) : GInv nest (k + 1) ({ f with full := f.full ++ [f.parts], parts := [] } :: fs) := by
  obtain ⟨h1, h2, h3, h4, h5⟩ := h
  have hf := h3 f List.mem_cons_self
  refine ⟨h1, ?_, ?_, ?_, ?_⟩
  . have h2' : wF f + wG fs <= 4 * k + 4 := h2
    show (zj5 (f.full ++ [f.parts])).length + 0 + 4 + wG fs <= _
    rw [yh8, List.length_append]
    unfold wF at h2'
    simp [zj5]; omega
  . intro x hx
    rcases List.mem_cons.mp hx with rfl | hx
    . obtain ⟨a1, a2, a3, a4, a5⟩ := hf
      exact ⟨(yx7 _ _).mpr ⟨a1, (xo4 _).mpr a2⟩, trivial, by show (f.full ++ [f.parts]).length <= 3; rw [List.length_append]; simp; omega, fun z => absurd hk z, a5⟩
    . exact h3 x (List.mem_cons_of_mem _ hx)
  . cases fs with
    | nil => exact h4
    | cons g fs => exact ⟨h4.1, h4.2⟩
  . refine ⟨?_, ?_, h5.2.2⟩
    . show 0 + _ <= _
      have := h5.1; omega
    . show zw5 (f.full ++ [f.parts]) + fs.length <= nest
      rw [yn3]
      have a1 := h5.1; have a2 := h5.2.1
      omega
theorem GInv.shut {nest k : Nat} {f g : Gm} {fs : List Gm} (h : GInv nest k (f :: g :: fs)) : GInv nest k (zv9 g (zo9 f) :: fs) := by
  obtain ⟨h1, h2, h3, h4, h5⟩ := h
  have hf := h3 f List.mem_cons_self
  have hg := h3 g (List.mem_cons_of_mem _ List.mem_cons_self)
  have hk := h4.1
  refine ⟨by simp at h1 |-; omega, ?_, ?_, ?_, ?_⟩
  . have h2' : wF f + (wF g + wG fs) <= 4 * k + 4 := h2
    have t := xy7 hf.2.2.2.1 hk
    show (zj5 g.full).length + (zd6 (g.parts ++ [zo9 f])).length + 4 + wG fs <= _
    rw [yh4, List.length_append, we3]
    unfold wF at h2' t
    omega
  . intro x hx
    rcases List.mem_cons.mp hx with rfl | hx
    . obtain ⟨a1, a2, a3, a4, a5⟩ := hg
      exact ⟨a1, (xf4 _ _).mpr ⟨a2, (xt6 _).mpr (wl6 hf hk)⟩, a3, a4, a5⟩
    . exact h3 x (List.mem_cons_of_mem _ (List.mem_cons_of_mem _ hx))
  . cases fs with
    | nil => exact h4.2
    | cons g' fs => exact ⟨h4.2.1, h4.2.2⟩
  . obtain ⟨d1, d2, d3, d4, d5⟩ := h5
    refine ⟨?_, d4, d5⟩
    show zh8 (g.parts ++ [zo9 f]) + fs.length <= nest
    rw [yr8]
    have := wf9 (f := f) (m := nest) (k := fs.length) d1 d2
    omega
theorem GInv.more {nest k k' : Nat} {fs : List Gm} (h : GInv nest k fs) (hk : k <= k') : GInv nest k' fs := ⟨h.len, by have := h.wt; omega, h.each, h.kinds, h.deep⟩
theorem wg0 : ∀ {fs : List Gm} {f : Gm}, f ∈ fs -> wF f <= wG fs
  | [], _, h => by simp at h
  | g :: fs, f, h => by
    show wF f <= wF g + wG fs
    rcases List.mem_cons.mp h with rfl | h
    . omega
    . have := wg0 h; omega
theorem xy8 (p : Pc) : 1 <= (zh2 p).length := by cases p <;> simp [zh2]
theorem xa9 : ∀ r : List Pc, r.length <= (zd6 r).length
  | [] => Nat.le_refl _
  | p :: r => by
    show r.length + 1 <= (zh2 p ++ zd6 r).length
    rw [List.length_append]
    have := xa9 r; have := xy8 p; omega
theorem GInv.parts {nest k : Nat} {fs : List Gm} {f : Gm} (h : GInv nest k fs) (hf : f ∈ fs) : f.parts.length <= 4 * k + 4 := by
  have h1 := wg0 hf; have h2 := h.wt; have h3 := xa9 f.parts
  unfold wF at h1; omega
end My
namespace My
open PySem PySem.Spec PyProof.Rows L2 L3
theorem yb6 : ixN 4 3 = some 3 := by decide
theorem yb7 : ixN 4 2 = some 2 := by decide
theorem zs4 {α : Type} (a b c d : α) : atI [a, b, c, d] 3 = some d := rfl
noncomputable abbrev xc9 : List D -> Option (D × List D) := gE 1 5 (zc8 [true]) yf3
theorem kc4 {N : List D} {a b c d : D} : yp1 [1, 2, 3, 4] (zc9 0 zb6 za3 yi1) [some (.lst true (N ++ [.lst true [a, b, c, d]])), none, none, none, none, none] = some (.nx, [some (.lst true N), some a, some b, some c, some d, none]) := by
  simp [gP, za9, zc1, zb4, za5, fIf, za8, fB, f2, za0, fC, zb7, zd3, zi6, zc3, zc9, zb6, ze0, ze6, za1, za3, zd7, zg7, fKs, za7, dEq, dNe, eqB, dB, dIx, ze3, zc7, yi1, zo7, zv2, xk5, yu5, fSl, D.imm, D.imms, zg1, zc6, fT, ze7, zd0, zg6, zf4, zj7, zh5, zh7, zm2, zk2, yp1, xp8, yp0, zf6, zk4, zi3, dLt, dLe, dGt, dGe, gE, zl6, zc8, fIO, zc4, zi7, zh6, zh9, zo2, zo3, yf5, L2.zq0, yb6, yb7, zs4]
theorem kd1 {p : PSt} {k w : String} {b : Bool} (hp : p[1]? = some (some (.str k))) (h : decide (k = w) = b) : fB (f2 dEq (za0 1) (fC (.str w))) p = some b := by
  refine zt0 (zc5 (yl7 hp) rfl ?_)
  show some (D.bl (decide ((k : Str) = (w : Str)))) = _
  rw [<- h]
  congr 2
  exact decide_eq_decide.mpr (by rw [zd0])
theorem yl9 {g : PSt -> Option (List D)} {p : PSt} {ds : List D} (h : g p = some ds) (hi : D.imms ds = true) (hl : ds.length <= 1000) : zg7 g p = some (.tup ds) := by
  unfold zg7
  rw [h]
  exact if_pos (by rw [hi]; simpa using hl)
theorem wl7 {f g : Gm} {fs : List Gm} (hk : 1 <= f.kd /\ f.kd <= 3) (hf : f.kd ≠ 3 -> f.full = []) (hfl : f.full.length <= 3) (hg : g.parts.length <= 900) : xc9 [.lst true (zf5 (f :: g :: fs))] = some (.non, [.lst true (zf5 (zv9 g (zo9 f) :: fs))]) := by
  obtain ⟨kd, n, full, parts⟩ := f
  have hfl' : full.length <= 3 := hfl
  have hz : (zb8 g.parts).length < sizeLine := by rw [yx5]; exact sz1 (by omega)
  have s2 : ∀ K x0, zb4 3 (za5 (f2 zc6 (za0 3) (zd7 (za1 (za7 zg1 (za1 (za0 4) za3)) za3)))) [x0, some K, some (.int n), some (.lst true (zf3 full)), some (.lst true (zb8 parts)), none] = some (.nx, [x0, some K, some (.int n), some (.lst true (zf3 (full ++ [parts]))), some (.lst true (zb8 parts)), none]) := fun K x0 => by
    refine zh3 (zc5 rfl (zp7 (zb2 (zh1 (zb2 rfl rfl) (if_pos (zj3 parts))) rfl) (Nat.le_of_ble_eq_true rfl)) ?_)
    rw [ys3]
    refine wf2 (ya2 full) (ya2 [parts]) ?_
    rw [zu5]; show full.length + 1 <= 1000; omega
  have s4 : ∀ K x0 x4 (r0 : List Pc) rs, zb4 5 (za5 (zg7 (za1 (fC (.str "group")) (za1 (zb7 (f2 dIx (za0 3) (fC (.int 0)))) za3)))) [x0, some K, some (.int n), some (.lst true (zf3 (r0 :: rs))), x4, none] = some (.nx, [x0, some K, some (.int n), some (.lst true (zf3 (r0 :: rs))), x4, some (pcD (.group r0))]) := fun K x0 x4 r0 rs =>
    zh3 (yl9 (zb2 rfl (zb2 (zk8 (zc5 rfl rfl (zg6 _ _)) (zj3 r0)) rfl)) (yl6 (.group r0)) (Nat.le_of_ble_eq_true rfl))
  have s7 : ∀ (pc : Pc) K x3 x4, zc3 (zc9 0 (zh5 0 (zh5 0 zb6 (zk2 (fC (.int 1)))) (fC (.int 3))) (za1 (zb7 (za0 5)) za3) zc7) [some (.lst true (zf5 fs ++ [gmD g])), K, some (.int n), x3, x4, some (pcD pc)] = some (.nx, [some (.lst true (zf5 fs ++ [gmD (zv9 g pc)])), K, some (.int n), x3, x4, some (pcD pc)]) := fun pc K x3 x4 => by
    have hi := yl6 pc
    have e : gmD (zv9 g pc) = .lst true [.str (kdS g.kd), .int g.n, .lst true (zf3 g.full), .lst true (zb8 g.parts ++ [pcD pc])] := by unfold gmD zv9; rw [yx4]; rfl
    rw [e]
    unfold gmD
    generalize pcD pc = d at hi |-
    simp [gP, za9, zc1, zb4, za5, fIf, za8, fB, f2, za0, fC, zb7, zd3, zi6, zc3, zc9, zb6, ze0, ze6, za1, za3, zd7, zg7, fKs, za7, dEq, dNe, eqB, dB, dIx, ze3, zc7, yi1, zo7, zv2, xk5, yu5, fSl, D.imm, D.imms, zg1, zc6, fT, ze7, zd0, zg6, zf4, zj7, zh5, zh7, zm2, zk2, yp1, xp8, yp0, zf6, zk4, zi3, dLt, dLe, dGt, dGe, gE, zl6, zc8, fIO, zc4, zi7, zh6, zh9, zo2, zo3, yf5, L2.zq0, yb6, yb7, zs4, hi, hz]
  suffices h : ∃ q1 q2 q3 q4 q5, yf3 [some (.lst true (zf5 (⟨kd, n, full, parts⟩ :: g :: fs))), none, none, none, none, none] = some (.nx, [some (.lst true (zf5 fs ++ [gmD (zv9 g (zo9 ⟨kd, n, full, parts⟩))])), q1, q2, q3, q4, q5]) from by
    obtain ⟨q1, q2, q3, q4, q5, hq⟩ := h
    unfold xc9 gE
    refine (if_pos rfl).trans ?_
    show (yf3 [some (.lst true (zf5 (⟨kd, n, full, parts⟩ :: g :: fs))), none, none, none, none, none]).bind _ = _
    rw [hq]; rfl
  have s1 : yp1 [1, 2, 3, 4] (zc9 0 zb6 za3 yi1) [some (.lst true (zf5 (⟨kd, n, full, parts⟩ :: g :: fs))), none, none, none, none, none] = _ := kc4
  have e : kd = 1 \/ kd = 2 \/ kd = 3 := by have : 1 <= kd /\ kd <= 3 := hk; omega
  unfold yf3
  rw [za4 s1, za4 (s2 _ _)]
  rcases e with rfl | rfl | rfl
  . have e1 : full = [] := hf (by simp [gP, za9, zc1, zb4, za5, fIf, za8, fB, f2, za0, fC, zb7, zd3, zi6, zc3, zc9, zb6, ze0, ze6, za1, za3, zd7, zg7, fKs, za7, dEq, dNe, eqB, dB, dIx, ze3, zc7, yi1, zo7, zv2, xk5, yu5, fSl, D.imm, D.imms, zg1, zc6, fT, ze7, zd0, zg6, zf4, zj7, zh5, zh7, zm2, zk2, yp1, xp8, yp0, zf6, zk4, zi3, dLt, dLe, dGt, dGe, gE, zl6, zc8, fIO, zc4, zi7, zh6, zh9, zo2, zo3, yf5, L2.zq0, yb6, yb7, zs4])
    subst e1
    exact ⟨_, _, _, _, _, (za4 (zf9 (zx1 (kd1 (k := "group") rfl (by decide))))).trans ((za4 (s4 _ _ _ parts [])).trans ((za4 (zf9 (kd1 (k := "group") rfl (by decide)))).trans ((za4 (zf9 (kd1 (k := "group") rfl (by decide)))).trans (s7 _ _ _ _))))⟩
  . have e1 : full = [] := hf (by simp [gP, za9, zc1, zb4, za5, fIf, za8, fB, f2, za0, fC, zb7, zd3, zi6, zc3, zc9, zb6, ze0, ze6, za1, za3, zd7, zg7, fKs, za7, dEq, dNe, eqB, dB, dIx, ze3, zc7, yi1, zo7, zv2, xk5, yu5, fSl, D.imm, D.imms, zg1, zc6, fT, ze7, zd0, zg6, zf4, zj7, zh5, zh7, zm2, zk2, yp1, xp8, yp0, zf6, zk4, zi3, dLt, dLe, dGt, dGe, gE, zl6, zc8, fIO, zc4, zi7, zh6, zh9, zo2, zo3, yf5, L2.zq0, yb6, yb7, zs4])
    subst e1
    exact ⟨_, _, _, _, _, (za4 (zf9 (zx1 (kd1 (k := "hang") rfl (by decide))))).trans ((za4 (s4 _ _ _ parts [])).trans ((za4 ((zi5 (kd1 (k := "hang") rfl (by decide))).trans (zh3 (yl9 (zb2 rfl (zb2 (zk8 rfl rfl) (zb2 (zk8 (d := .tup (zb8 parts)) (zc5 rfl rfl (zg6 _ _)) (zj3 parts)) rfl))) (yl6 (.hang n parts)) (Nat.le_of_ble_eq_true rfl))))).trans ((za4 (zf9 (kd1 (k := "hang") rfl (by decide)))).trans (s7 (.hang n parts) _ _ _))))⟩
  . have fin : ∀ (r0 : List Pc) (rs : List (List Pc)), ye5 ⟨3, n, full, parts⟩ = r0 :: rs -> ∃ q1 q2 q3 q4 q5, za9 (zb4 5 (za5 (zg7 (za1 (fC (.str "group")) (za1 (zb7 (f2 dIx (za0 3) (fC (.int 0)))) za3))))) (za9 (fIf (za8 (fB (f2 dEq (za0 1) (fC (.str "hang"))))) (zb4 5 (za5 (zg7 (za1 (fC (.str "hang")) (za1 (zb7 (za0 2)) (za1 (zb7 (f2 dIx (za0 3) (fC (.int 0)))) za3)))))) zc1)
        (za9 (fIf (za8 (fB (f2 dEq (za0 1) (fC (.str "either"))))) (zb4 5 (za5 (zg7 (za1 (fC (.str "either")) (za1 (za7 zg1 (za1 (za0 3) za3)) za3))))) zc1) (zc3 (zc9 0 (zh5 0 (zh5 0 zb6 (zk2 (fC (.int 1)))) (fC (.int 3))) (za1 (zb7 (za0 5)) za3) zc7)))) [some (.lst true (zf5 fs ++ [gmD g])), some (.str "either"), some (.int n), some (.lst true (zf3 (r0 :: rs))), some (.lst true (zb8 parts)), none] = some (.nx, [some (.lst true (zf5 fs ++ [gmD (zv9 g (zo9 ⟨3, n, full, parts⟩))])), q1, q2, q3, q4, q5]) := fun r0 rs he => by
      have hs : zo9 ⟨3, n, full, parts⟩ = .either (r0 :: rs) := by rw [<- he]; rfl
      rw [hs]
      exact ⟨_, _, _, _, _, (za4 (s4 _ _ _ r0 rs)).trans ((za4 (zf9 (kd1 rfl (by decide)))).trans ((za4 ((zi5 (kd1 rfl (by decide))).trans (zh3 (yl9 (zb2 rfl (zb2 (zh1 (zb2 rfl rfl) (if_pos (ya2 (r0 :: rs)))) rfl)) (yl6 (.either (r0 :: rs))) (Nat.le_of_ble_eq_true rfl))))).trans (s7 (.either (r0 :: rs)) _ _ _)))⟩
    have lt : ∀ x0 x4, fB (f2 dLt (za7 ze3 (za1 (za0 3) za3)) (fC (.int 2))) [x0, some (.str "either"), some (.int n), some (.lst true (zf3 (full ++ [parts]))), x4, none] = some (decide ((((full ++ [parts]).length : Nat) : Int) < 2)) := fun x0 x4 => by
      refine zt0 (zc5 (zh1 (zb2 rfl rfl) rfl) rfl ?_)
      show some (D.bl (decide ((((zf3 (full ++ [parts])).length : Nat) : Int) < 2))) = _
      rw [zu5]
    cases full with
    | nil =>
      have s3 : ∀ x0 x4, fIf (za8 (zf6 (fB (f2 dEq (za0 1) (fC (.str "either")))) (fB (f2 dLt (za7 ze3 (za1 (za0 3) za3)) (fC (.int 2)))))) (zb4 3 (za5 (f2 zc6 (za0 3) (zd7 (za1 (zg7 (za1 (zg7 (za1 (fC (.str "word")) (za1 (fC (.str "or")) za3))) za3)) za3))))) zc1 [x0, some (.str "either"), some (.int n), some (.lst true (zf3 ([] ++ [parts]))), x4, none] = some (.nx, [x0, some (.str "either"), some (.int n), some (.lst true (zf3 [parts, yj7])), x4, none]) := fun x0 x4 =>
        (zi5 (zu2 (kd1 rfl (by decide)) (lt _ _))).trans (zh3 (zc5 rfl (zp7 (zb2 (yl9 (zb2 (yl9 (zb2 rfl (zb2 rfl rfl)) rfl (Nat.le_of_ble_eq_true rfl)) rfl) rfl (Nat.le_of_ble_eq_true rfl)) rfl) (Nat.le_of_ble_eq_true rfl)) (wf2 (ya2 [parts]) (ya2 [yj7]) (Nat.le_of_ble_eq_true rfl))))
      show ∃ q1 q2 q3 q4 q5, za9 _ _ [some (.lst true (zf5 fs ++ [gmD g])), some (.str "either"), some (.int n), some (.lst true (zf3 ([] ++ [parts]))), some (.lst true (zb8 parts)), none] = _
      rw [za4 (s3 _ _)]
      exact fin parts [yj7] rfl
    | cons r rs =>
      have lt' := lt (some (.lst true (zf5 fs ++ [gmD g]))) (some (.lst true (zb8 parts)))
      rw [decide_eq_false (by simp; omega)] at lt'
      show ∃ q1 q2 q3 q4 q5, za9 _ _ [some (.lst true (zf5 fs ++ [gmD g])), some (.str "either"), some (.int n), some (.lst true (zf3 (r :: rs ++ [parts]))), some (.lst true (zb8 parts)), none] = _
      rw [za4 (zf9 (zu2 (kd1 rfl (by decide)) lt'))]
      exact fin r (rs ++ [parts]) rfl
end My
namespace My
open PySem PySem.Spec PyProof.Rows L2 L3
noncomputable def yj8 (GH GPl : List D -> Option (D × List D)) : PSt -> Option (Fl × PSt) :=
   (fIf (za8 (fT (za7 yf4 (za1 (za0 3) za3))))
   (zc3 (zc9 0 zb6 (zc4 [.im (za0 3), .im (za0 2)]) (zo8 "Setter" "set_holder" GH)))
   (zc3 (zc9 0 zb6 (zc4 [.im (za0 3), .im (za0 2)]) (zo8 "Setter" "set_plain" GPl))))
theorem xf5 {g : List D -> Option (D × List D)} {m : Str} {C : List Int} {u : Nat} {ps : List Str} {d1 d2 N v : D} (hm : zf0 nsS m = none) (h : g [stD C u ps, d1, d2] = some (v, [N, d1, d2])) : zo8 "Setter" m g [d1, d2] (stD C u ps) = some (v, N) := by
  show (if (("Setter" : Str) = "Setter" /\ zf0 nsS m = none) then (g [stD C u ps, d1, d2]).bind _ else none) = _
  rw [if_pos ⟨rfl, hm⟩, h]; rfl
theorem yu1 {GH : List D -> Option (D × List D)} {C : List Int} {u : Nat} {ps : List Str} {p : Pc} {b : Bool} {m : Int} {R : Option D} {N : D} (hp : ys9 p = true) (h : GH [stD C u ps, pcD p, zc0 b m] = some (.non, [N, pcD p, zc0 b m])) :
    yj8 GH zu3 [some (stD C u ps), R, some (zc0 b m), some (pcD p)] = some (.nx, [some N, R, some (zc0 b m), some (pcD p)]) := by
  have q := xo3 p
  rw [hp] at q
  have hm := xf5 (m := "set_holder") (by simp [zc3, zc9, zb6, ze0, ze6, zc4, zb7, za0, za5, fT, ze7, za8, D.imm, D.imms, za1, za3, za7, zf0, zd0]) h
  have i1 := yl6 p
  have i2 := ye8 b m
  unfold yj8
  generalize yf4 = G1 at q |-
  generalize zu3 = G2
  generalize stD C u ps = S at hm |-
  generalize pcD p = d1 at *
  generalize zc0 b m = d2 at *
  refine (xa7 (p' := [some S, R, some d2, some d1]) (by simp [zc3, zc9, zb6, ze0, ze6, zc4, zb7, za0, za5, fT, ze7, za8, D.imm, D.imms, za1, za3, za7, q])).trans ?_
  simp [zc3, zc9, zb6, ze0, ze6, zc4, zb7, za0, za5, fT, ze7, za8, D.imm, D.imms, za1, za3, za7, i1, i2, hm]
theorem wl8 {GH : List D -> Option (D × List D)} {C : List Int} {u : Nat} {ps : List Str} {l : Leaf} {b : Bool} {m : Int} {R : Option D} {N : D} (h : zu3 [stD C u ps, zh0 l, zc0 b m] = some (.non, [N, zh0 l, zc0 b m])) :
    yj8 GH zu3 [some (stD C u ps), R, some (zc0 b m), some (zh0 l)] = some (.nx, [some N, R, some (zc0 b m), some (zh0 l)]) := by
  have q : yf4 [zh0 l] = some (.bl false) := xo3 (.leaf l)
  have hm := xf5 (m := "set_plain") (by simp [zc3, zc9, zb6, ze0, ze6, zc4, zb7, za0, za5, fT, ze7, za8, D.imm, D.imms, za1, za3, za7, zf0, zd0]) h
  have i1 := xn9 l
  have i2 := ye8 b m
  unfold yj8
  generalize yf4 = G1 at q |-
  generalize zu3 = G2 at hm |-
  generalize stD C u ps = S at hm |-
  generalize zh0 l = d1 at *
  generalize zc0 b m = d2 at *
  refine (yb5 (p' := [some S, R, some d2, some d1]) (by simp [zc3, zc9, zb6, ze0, ze6, zc4, zb7, za0, za5, fT, ze7, za8, D.imm, D.imms, za1, za3, za7, q])).trans ?_
  simp [zc3, zc9, zb6, ze0, ze6, zc4, zb7, za0, za5, fT, ze7, za8, D.imm, D.imms, za1, za3, za7, i1, i2, hm]
noncomputable def yg6 : Nat -> List D -> Option (D × List D)
  | 0 => fun _ => none
  | n + 1 => gE 3 1 (zc8 [true, false, false]) (zu0 yf4 (yj6 (yg6 n)) zu3)
noncomputable def yp8 (a l w : Nat) : Prop := a + w <= 900 /\ l + 201 * w <= 1000000
noncomputable def zv6 (a a' l l' w : Nat) : Prop := a' <= a + w /\ l' <= l + 201 * w
theorem yu2 {a l w w' : Nat} (h : yp8 a l w) (hw : w' <= w) : yp8 a l w' := by unfold yp8 at *; omega
theorem yo2 {a a' l l' w w' : Nat} (h : zv6 a a' l l' w) (hw : w <= w') : zv6 a a' l l' w' := by unfold zv6 at *; omega
theorem wg1 {a a' l l' v w : Nat} (h : yp8 a l (v + w)) (g : zv6 a a' l l' v) : yp8 a' l' w := by unfold yp8 zv6 at *; omega
theorem xr4 {a a1 a2 l l1 l2 v w : Nat} (g : zv6 a a1 l l1 v) (h : zv6 a1 a2 l1 l2 w) : zv6 a a2 l l2 (v + w) := by unfold zv6 at *; omega
theorem wg2 {m : Int} {x : Nat} (h : m + 12 * ((x + 1 : Nat) : Int) <= 200) : m + 12 * (x : Int) <= 200 := by omega
theorem xf6 {m : Int} {x y : Nat} (h : m + 12 * (y : Int) <= 200) (hx : x <= y) : m + 12 * (x : Int) <= 200 := by omega
theorem wx4 {m k : Int} {x : Nat} (h : m + 12 * ((x + 1 : Nat) : Int) <= 200) (hk : k <= 12) : m + k + 12 * (x : Int) <= 200 := by omega
theorem wl9 {ps : List Str} {w : Str} (hw : w.length <= 201) : zv6 ps.length (ps ++ [w]).length (cat ps).length (cat (ps ++ [w])).length 1 := by
  rw [yo1, zi1, List.length_append]
  unfold zv6
  show _ + 1 <= _ /\ _
  omega
noncomputable def wa1 (GR : List D -> Option (D × List D)) (r : List Pc) : Prop := ∀ (b : Bool) (m : Int) (C : List Int) (u : Nat) (ps : List Str) (cs' : List Int) (t' : Str), 0 <= m -> m + 12 * zh8 r <= 200 -> zk6 b m r (C.drop u) (cat ps) = some (cs', t') -> u <= C.length ->
  yp8 ps.length (cat ps).length (zd6 r).length ->
  ∃ u' ps', GR [stD C u ps, .tup (zb8 r), zc0 b m] = some (.non, [stD C u' ps', .tup (zb8 r), zc0 b m]) /\ C.drop u' = cs' /\ cat ps' = t' /\ u' <= C.length /\ zv6 ps.length ps'.length (cat ps).length (cat ps').length (zd6 r).length
theorem xi6 {C : List Int} {u : Nat} {c : Int} {cs : List Int} (h : C.drop u = c :: cs) : C[u]? = some c /\ C.drop (u + 1) = cs /\ u + 1 <= C.length := by
  have hu : u < C.length := by
    rcases Nat.lt_or_ge u C.length with h1 | h1
    . exact h1
    . rw [List.drop_eq_nil_of_le h1] at h; cases h
  rw [List.drop_eq_getElem_cons hu] at h
  cases h
  exact ⟨List.getElem?_eq_getElem hu, rfl, hu⟩
theorem yf0 : ∀ {rs : List (List Pc)} {i : Nat} {r : List Pc}, rs[i]? = some r -> zh8 r <= zw5 rs
  | [], i, _, h => by simp [zc3, zc9, zb6, ze0, ze6, zc4, zb7, za0, za5, fT, ze7, za8, D.imm, D.imms, za1, za3, za7] at h
  | q :: rs, 0, _, h => by simp [zc3, zc9, zb6, ze0, ze6, zc4, zb7, za0, za5, fT, ze7, za8, D.imm, D.imms, za1, za3, za7] at h; subst h; rw [zw5]; omega
  | q :: rs, i + 1, _, h => by have := yf0 (rs := rs) (i := i) (by simpa using h); rw [zw5]; omega
theorem yo3 : ∀ {rs : List (List Pc)} {i : Nat} {r : List Pc}, zw0 rs -> rs[i]? = some r -> okR r
  | [], i, _, _, h => by simp [zc3, zc9, zb6, ze0, ze6, zc4, zb7, za0, za5, fT, ze7, za8, D.imm, D.imms, za1, za3, za7] at h
  | q :: rs, 0, _, o, h => by simp [zc3, zc9, zb6, ze0, ze6, zc4, zb7, za0, za5, fT, ze7, za8, D.imm, D.imms, za1, za3, za7] at h; subst h; rw [zw0] at o; exact o.1
  | q :: rs, i + 1, _, o, h => by rw [zw0] at o; exact yo3 (rs := rs) (i := i) o.2 (by simpa using h)
theorem wg3 {GR : List D -> Option (D × List D)} {p : Pc} {k : Nat} (hG : ∀ r, zh8 r < k -> okR r -> wa1 GR r) (hd : zn0 p <= k) (ho : okP p) {b : Bool} {m : Int} {C : List Int} {u : Nat} {ps : List Str} {cs' : List Int} {t' : Str} {R : Option D} (h0 : 0 <= m) (h1 : m + 12 * zn0 p <= 200)
    (h : zq3 b m p (C.drop u) (cat ps) = some (cs', t')) (hu : u <= C.length) (hp : yp8 ps.length (cat ps).length (zh2 p).length) :
    ∃ u' ps', yj8 (yj6 GR) zu3 [some (stD C u ps), R, some (zc0 b m), some (pcD p)] = some (.nx, [some (stD C u' ps'), R, some (zc0 b m), some (pcD p)]) /\ C.drop u' = cs' /\ cat ps' = t' /\ u' <= C.length /\ zv6 ps.length ps'.length (cat ps).length (cat ps').length (zh2 p).length := by
  cases p with
  | leaf l =>
    rw [zq3] at h
    cases e : wr b m (col (cat ps)) l with
    | none => rw [e] at h; cases h
    | some w =>
      rw [e] at h
      cases h
      have hl : zs1 l := ho
      have h1' : m <= 200 := by rw [zn0] at h1; omega
      obtain ⟨_, hz⟩ := wo3 hl h0 h1' e
      rw [show (zh2 (.leaf l)).length = 1 from rfl] at hp |-
      have q := wl4 (C := C) (u := u) hl h0 h1' e (by have := hp.1; omega) (by have := hp.2; omega)
      exact ⟨u, ps ++ [w], wl8 q, rfl, yo1 ps w, hu, wl9 hz⟩
  | group r =>
    have ho' : okR r := ho
    rw [zn0] at hd h1
    have hd' : zh8 r < k := hd
    have h1' : m + 12 * zh8 r <= 200 := wg2 h1
    have ht : (zh2 (.group r)).length = (zd6 r).length + 2 := by simp [zc3, zc9, zb6, ze0, ze6, zc4, zb7, za0, za5, fT, ze7, za8, D.imm, D.imms, za1, za3, za7, zh2]
    rw [ht] at hp |-
    have hp' := yu2 hp (Nat.le_add_right _ 2)
    rw [zq3.eq_def] at h
    simp only at h
    cases b with
    | false =>
      simp only [Bool.false_eq_true, if_false] at h
      obtain ⟨u', ps', q, e1, e2, e3, e4⟩ := hG r hd' ho' false m C u ps cs' t' h0 h1' h hu hp'
      exact ⟨u', ps', yu1 rfl (yu0 (i := 0) (x := (r, false, m)) rfl (by simp [zc3, zc9, zb6, ze0, ze6, zc4, zb7, za0, za5, fT, ze7, za8, D.imm, D.imms, za1, za3, za7, xc7]) rfl (.inr ⟨rfl, rfl, rfl⟩) q), e1, e2, e3, yo2 e4 (Nat.le_add_right _ 2)⟩
    | true =>
      cases hC : C.drop u with
      | nil => rw [hC] at h; simp [zc3, zc9, zb6, ze0, ze6, zc4, zb7, za0, za5, fT, ze7, za8, D.imm, D.imms, za1, za3, za7] at h
      | cons c cs =>
        obtain ⟨g1, g2, g3⟩ := xi6 hC
        rw [hC] at h
        simp only [if_true] at h
        have go : ∀ (i : Nat) (bb : Bool), (i : Int) = c -> (yj5 true m (.group r))[i]? = some (r, bb, m) -> zk6 bb m r cs (cat ps) = some (cs', t') -> ∃ u' ps', yj8 (yj6 GR) zu3 [some (stD C u ps), R, some (zc0 true m), some (pcD (.group r))] = some (.nx, [some (stD C u' ps'), R, some (zc0 true m), some (pcD (.group r))]) /\ C.drop u' = cs' /\ cat ps' = t' /\ u' <= C.length /\ zv6 ps.length ps'.length (cat ps).length (cat ps').length ((zd6 r).length + 2) := fun i bb hi hw hs => by
          rw [<- g2] at hs
          obtain ⟨u', ps', q, e1, e2, e3, e4⟩ := hG r hd' ho' bb m C (u + 1) ps cs' t' h0 h1' hs g3 hp'
          exact ⟨u', ps', yu1 rfl (yu0 (i := i) (x := (r, bb, m)) rfl (by simp [zc3, zc9, zb6, ze0, ze6, zc4, zb7, za0, za5, fT, ze7, za8, D.imm, D.imms, za1, za3, za7, xc7]) hw (.inl ⟨rfl, by rw [hi]; exact g1, rfl⟩) q), e1, e2, e3, yo2 e4 (Nat.le_add_right _ 2)⟩
        by_cases c0 : c = 0
        . subst c0
          rw [if_pos rfl] at h
          exact go 0 false rfl rfl h
        . rw [if_neg c0] at h
          by_cases c1 : c = 1
          . subst c1
            rw [if_pos rfl] at h
            exact go 1 true rfl rfl h
          . rw [if_neg c1] at h; cases h
  | hang n r =>
    have ho' : (0 <= n /\ n <= 12) /\ okR r := ho
    rw [zn0] at hd h1
    have ht : (zh2 (.hang n r)).length = (zd6 r).length + 2 := by simp [zc3, zc9, zb6, ze0, ze6, zc4, zb7, za0, za5, fT, ze7, za8, D.imm, D.imms, za1, za3, za7, zh2]
    rw [ht] at hp |-
    rw [zq3] at h
    obtain ⟨u', ps', q, e1, e2, e3, e4⟩ := hG r hd ho'.2 b (m + n) C u ps cs' t' (Int.add_nonneg h0 ho'.1.1) (wx4 h1 ho'.1.2) h hu (yu2 hp (Nat.le_add_right _ 2))
    exact ⟨u', ps', yu1 rfl (yu0 (i := 0) (x := (r, b, m + n)) rfl (by simp [zc3, zc9, zb6, ze0, ze6, zc4, zb7, za0, za5, fT, ze7, za8, D.imm, D.imms, za1, za3, za7, xc7]) rfl (.inr ⟨rfl, rfl, rfl⟩) q), e1, e2, e3, yo2 e4 (Nat.le_add_right _ 2)⟩
  | either rs =>
    have ho' : (2 <= rs.length /\ rs.length <= 4) /\ zw0 rs := ho
    rw [zq3.eq_def] at h
    simp only at h
    cases hC : C.drop u with
    | nil => rw [hC] at h; cases h
    | cons c cs =>
      obtain ⟨g1, g2, g3⟩ := xi6 hC
      rw [hC] at h
      simp only at h
      by_cases c0 : 0 <= c
      . rw [if_pos c0] at h
        cases hr : rs[c.toNat]? with
        | none => rw [yo0 hr] at h; cases h
        | some r =>
          rw [yi9 hr, <- g2] at h
          have hdr := yf0 hr
          have hor := yo3 ho'.2 hr
          have htr := yk2 (List.mem_of_getElem? hr)
          have ht : (zh2 (.either rs)).length = (yd8 rs).length + 2 := by simp [zc3, zc9, zb6, ze0, ze6, zc4, zb7, za0, za5, fT, ze7, za8, D.imm, D.imms, za1, za3, za7, zh2]
          rw [zn0] at hd h1
          rw [ht] at hp |-
          obtain ⟨u', ps', q, e1, e2, e3, e4⟩ := hG r (Nat.lt_of_le_of_lt hdr hd) hor b m C (u + 1) ps cs' t' h0 (xf6 (wg2 h1) hdr) h g3 (yu2 hp (Nat.le_trans htr (Nat.le_add_right _ 2)))
          refine ⟨u', ps', yu1 rfl (yu0 (i := c.toNat) (x := (r, b, m)) rfl (Nat.le_trans ho'.1.2 (by decide)) (by show (rs.map _)[c.toNat]? = _; rw [List.getElem?_map, hr]; rfl) (.inl ⟨rfl, by rw [Int.toNat_of_nonneg c0]; exact g1, rfl⟩) q), e1, e2, e3, yo2 e4 (Nat.le_trans htr (Nat.le_add_right _ 2))⟩
      . rw [if_neg c0] at h; cases h
theorem xo5 {GR : List D -> Option (D × List D)} {k : Nat} (hG : ∀ r, zh8 r < k -> okR r -> wa1 GR r) {b : Bool} {m : Int} {C : List Int} {R : Option D} (h0 : 0 <= m) : ∀ (r : List Pc) (u : Nat) (ps : List Str) (cs' : List Int) (t' : Str) (x : Option D), zh8 r <= k -> okR r -> m + 12 * zh8 r <= 200 ->
    zk6 b m r (C.drop u) (cat ps) = some (cs', t') -> u <= C.length -> yp8 ps.length (cat ps).length (zd6 r).length ->
    ∃ u' ps' y, zk9 3 (yj8 (yj6 GR) zu3) (zb8 r) [some (stD C u ps), R, some (zc0 b m), x] = some (.nx, [some (stD C u' ps'), R, some (zc0 b m), y]) /\ C.drop u' = cs' /\ cat ps' = t' /\ u' <= C.length /\ zv6 ps.length ps'.length (cat ps).length (cat ps').length (zd6 r).length
  | [], u, ps, cs', t', x, _, _, _, h, hu, _ => by
    rw [zk6] at h; cases h
    exact ⟨u, ps, x, rfl, rfl, rfl, hu, ⟨Nat.le_refl _, Nat.le_refl _⟩⟩
  | p :: r, u, ps, cs', t', x, hd, ho, h1, h, hu, hp => by
    rw [okR] at ho
    rw [zh8] at hd h1
    have ht : (zd6 (p :: r)).length = (zh2 p).length + (zd6 r).length := by rw [zd6, List.length_append]
    rw [ht] at hp |-
    rw [zk6] at h
    cases e : zq3 b m p (C.drop u) (cat ps) with
    | none => rw [e] at h; cases h
    | some s =>
      obtain ⟨c1, t1⟩ := s
      rw [e] at h
      obtain ⟨u1, ps1, q1, a1, a2, a3, a4⟩ := wg3 (R := R) hG (Nat.le_trans (Nat.le_max_left _ _) hd) ho.1 h0 (xf6 h1 (Nat.le_max_left _ _)) e hu (yu2 hp (Nat.le_add_right _ _))
      have h' : zk6 b m r (C.drop u1) (cat ps1) = some (cs', t') := by rw [a1, a2]; exact h
      obtain ⟨u2, ps2, y, q2, b1, b2, b3, b4⟩ := xo5 hG h0 r u1 ps1 cs' t' (some (pcD p)) (Nat.le_trans (Nat.le_max_right _ _) hd) ho.2 (xf6 h1 (Nat.le_max_right _ _)) h' a3 (wg1 hp a4)
      refine ⟨u2, ps2, y, ?_, b1, b2, b3, xr4 a4 b4⟩
      show zk9 3 _ (pcD p :: zb8 r) _ = _
      rw [zk9]
      show ((yj8 (yj6 GR) zu3 [some (stD C u ps), R, some (zc0 b m), some (pcD p)]).bind _) = _
      rw [q1]; exact q2
theorem xt7 : ∀ (n : Nat) (r : List Pc), zh8 r < n -> okR r -> wa1 (yg6 n) r
  | 0, _, h, _ => absurd h (Nat.not_lt_zero _)
  | n + 1, r, hd, ho => fun b m C u ps cs' t' h0 h1 h hu hp => by
    obtain ⟨u', ps', y, q, e1, e2, e3, e4⟩ := xo5 (GR := yg6 n) (k := n) (R := some (.tup (zb8 r))) (fun s hs hk => xt7 n s hs hk) h0 r u ps cs' t' none (Nat.le_of_lt_succ hd) ho h1 h hu hp
    refine ⟨u', ps', ?_, e1, e2, e3, e4⟩
    show gE 3 1 _ (zu0 yf4 (yj6 (yg6 n)) zu3) _ = _
    unfold gE
    refine (if_pos rfl).trans ?_
    have z : zu0 yf4 (yj6 (yg6 n)) zu3 ([stD C u ps, .tup (zb8 r), zc0 b m].map some ++ List.replicate 1 none) = some (.nx, [some (stD C u' ps'), some (.tup (zb8 r)), some (zc0 b m), y]) := q
    rw [z]; rfl
noncomputable abbrev xd0 : List D -> Option D := gP 1 0 zv5
theorem xo6 : ∀ ps : List Str, (Str.join "" ps) = cat ps
  | [] => by decide +kernel
  | [x] => by show x = x ++ (⟨#[]⟩ : Str); rw [yd2]
  | x :: y :: r => by
    have ih := xo6 (y :: r)
    show (x ++ ("" : Str)) ++ Str.join "" (y :: r) = x ++ cat (y :: r)
    rw [ih, show ("" : Str) = ⟨#[]⟩ from by decide +kernel, yd2]
theorem xt8 : ∀ ps : List Str, (ps.map (·.length)).sum = (cat ps).length
  | [] => rfl
  | x :: ps => by rw [List.map_cons, List.sum_cons, xt8 ps]; show _ = (x ++ cat ps).length; rw [zi1]
theorem yl1 : ∀ ps : List Str, D.strs (zp8 ps) = some ps
  | [] => rfl
  | x :: ps => by show D.strs (.str x :: zp8 ps) = _; rw [D.strs, yl1 ps]; rfl
theorem wm0 {C : List Int} {u : Nat} {ps : List Str} (hu : C.length <= u) (hp : ps.length <= 1000) (hc : (cat ps).length <= 1000000) : xd0 [stD C u ps] = some (.str (cat ps)) := by
  have hl : (zd2 C).length = C.length := List.length_map _
  have g : ¬ ((u : Int) < (C.length : Int)) := by omega
  have e : zv1 (.str "") [.lst true (zp8 ps)] = some (.str (cat ps)) := by
    rw [zv1, yl1, Option.bind_some, if_pos]
    . rw [show Txt.join ("" : Str) ps = Str.join "" ps from StrLaws.glued_eq_join _ _, xo6]
    . rw [xt8]
      exact ⟨by decide +kernel, by omega⟩
  unfold stD
  simp [zc3, zc9, zb6, ze0, ze6, zc4, zb7, za0, za5, fT, ze7, za8, D.imm, D.imms, za1, za3, za7, gP, zv5, za9, fIf, fB, f2, zi8, zt4, zf0, zd0, dLt, ze3, hl, g, dB, zc1, zd3, fMt, fC, e, yg4]
noncomputable abbrev xd1 : List D -> Option (D × List D) := gE 2 0 (zc8 [true, false]) ye0
theorem wx5 (C : List Int) : xd1 [.obj true "Setter" [] [], .tup (zd2 C)] = some (.non, [stD C 0 [], .tup (zd2 C)]) := by
  have hi := ye9 C
  have e : stD C 0 [] = .obj true "Setter" nsS [.tup (zd2 C), .int 0, .int 0, .lst true []] := rfl
  rw [e]
  simp [zc3, zc9, zb6, ze0, ze6, zc4, zb7, za0, za5, fT, ze7, za8, D.imm, D.imms, za1, za3, za7, gE, ye0, za9, zh4, zj4, zf0, zd0, hi, fC, zd7, zl6, zc8]
noncomputable abbrev ym5 (n : Nat) : List D -> Option D := gP 2 1 (yk5 xd1 (yg6 n) xc4 xd0)
theorem wg4 {n : Nat} {r : List Pc} {C : List Int} {t : Str} (hd : zh8 r < n) (h8 : zh8 r <= 16) (ho : okR r) (hl : (zd6 r).length <= 800) (h : zk6 true 0 r C ⟨#[]⟩ = some ([], t)) : ym5 n [.tup (zb8 r), .tup (zd2 C)] = some (.str t) := by
  obtain ⟨u', ps', q, e1, e2, e3, e4, e5⟩ := xt7 n r hd ho true 0 C 0 [] [] t (Int.le_refl _) (by omega) h (Nat.zero_le _) ⟨by show 0 + _ <= _; omega, by show 0 + _ <= _; omega⟩
  have e5' : (cat ps').length <= 0 + 201 * (zd6 r).length := e5
  have e4' : ps'.length <= 0 + (zd6 r).length := e4
  have hu : C.length <= u' := by
    have := congrArg List.length e1
    rw [List.length_drop] at this
    simp [zc3, zc9, zb6, ze0, ze6, zc4, zb7, za0, za5, fT, ze7, za8, D.imm, D.imms, za1, za3, za7] at this; omega
  have w := wm0 (C := C) (ps := ps') hu (by omega) (by omega)
  rw [e2] at w
  have i := wx5 C
  have f := wl3
  have hm := xf5 (m := "set_row") (by simp [zc3, zc9, zb6, ze0, ze6, zc4, zb7, za0, za5, fT, ze7, za8, D.imm, D.imms, za1, za3, za7, zf0, zd0]) q
  have p1 := zj3 r
  have p2 := ye9 C
  have p3 := ye8 true 0
  have w' : zm3 "Setter" "whole_text" (za0 2) [some (.tup (zb8 r)), some (.tup (zd2 C)), some (stD C u' ps')] = some (stD C u' ps') := by
    unfold stD
    simp [zc3, zc9, zb6, ze0, ze6, zc4, zb7, za0, za5, fT, ze7, za8, D.imm, D.imms, za1, za3, za7, zm3, zf0, zd0]
  show gP 2 1 (yk5 xd1 (yg6 n) xc4 xd0) _ = _
  generalize xd1 = G1 at i |-
  generalize yg6 n = G2 at hm |-
  generalize xc4 = G3 at f |-
  generalize xd0 = G4 at w |-
  generalize stD C u' ps' = S1 at *
  generalize stD C 0 [] = S0 at *
  generalize zc0 true 0 = pl at *
  have s1 : zb4 2 (za5 (zj6 "Setter" (zc4 [.im (za0 1)]) G1)) [some (.tup (zb8 r)), some (.tup (zd2 C)), none] = some (.nx, [some (.tup (zb8 r)), some (.tup (zd2 C)), some S0]) := by
    refine zh3 ?_
    simp [zc3, zc9, zb6, ze0, ze6, zc4, zb7, za0, za5, fT, ze7, za8, D.imm, D.imms, za1, za3, za7, zj6, p2, i]
  have s2 : zc3 (zc9 2 zb6 (zc4 [.im (za0 0), .im (za7 G3 za3)]) (zo8 "Setter" "set_row" G2)) [some (.tup (zb8 r)), some (.tup (zd2 C)), some S0] = some (.nx, [some (.tup (zb8 r)), some (.tup (zd2 C)), some S1]) := by
    simp [zc3, zc9, zb6, ze0, ze6, zc4, zb7, za0, za5, fT, ze7, za8, D.imm, D.imms, za1, za3, za7, p1, p3, f, hm]
  exact zw9 rfl ((za4 s1).trans ((za4 s2).trans (zl3 (zh1 (zb2 w' rfl) w))))
end My
namespace My
open PySem PySem.Spec PyProof.Rows L2 L3
noncomputable def sD (t : Str) (cs : List Int) (n : Nat) : D := .lst true [.str t, .lst true (zd2 cs), .int n]
theorem ka7 : ixN 3 0 = some 0 := by decide
noncomputable abbrev zt1 : List D -> Option (D × List D) := gE 2 0 (zc8 [true, false]) ys8
theorem ws2 {t : Str} {cs : List Int} {n : Nat} {m : Int} (h0 : 0 <= m) (h1 : m <= 100) (ht : t.length <= 1000000) : zt1 [sD t cs n, .int m] = some (.non, [sD (t ++ nlw m) cs n, .int m]) := by
  have q := xk2 m (by omega) (by omega)
  have hs : sizeLine = 16777216 := sizeLine_eq
  have e1 : zc6 (.str t) (.str "\n") = some (.str (t ++ (⟨#[10]⟩ : Str))) := by
    rw [xa8, zc6, if_pos]
    show t.length + 1 <= _; omega
  have e2 : zc6 (.str (t ++ (⟨#[10]⟩ : Str))) (.str (Txt.mul " " m)) = some (.str (t ++ nlw m)) := by
    rw [zc6, if_pos, xt5]; rfl
    rw [zi1, ya9]; show t.length + 1 + _ <= _; omega
  have i0 := ka7
  simp only [gE, ys8, sD]
  simp only [List.length_cons, List.length_nil, if_pos, List.map_cons, List.map_nil, List.cons_append, List.nil_append, List.replicate_zero, zh7, f2, za0, fC, dIx, zg6, Option.bind_some, List.getElem?_cons_zero, List.getElem?_cons_succ, Option.join_some, e1, q, e2]
  simp [gP, gE, za9, zc1, zb4, za5, fIf, za8, fB, f2, za0, fC, zb7, zd3, zc3, zc9, zb6, ze0, ze6, za1, za3, zd7, fKs, za7, dEq, eqB, dB, dIx, ze3, zc7, D.imm, D.imms, zc6, zm1, fT, ze7, zd0, zg6, zf4, zj7, zh5, zi3, zf6, zc4, zl6, zc8, fMt, yg4, zh7, zm2, xa6, xj9, zh6, zh9, fIO, zi7, fE2, fTE, zz5, dGt, yb8, zi6, i0]
noncomputable abbrev zt9 : List D -> Option D := gP 1 0 yk6
theorem xi7 {t : Str} {cs : List Int} {n : Nat} (ht : t.length <= 1000000) : zt9 [sD t cs n] = some (.int (col t)) := by
  have hs : sizeLine = 16777216 := sizeLine_eq
  have hz : t.length <= sizeLine := by omega
  have e := wf6 t
  rw [<- xa8] at e
  simp [gP, gE, za9, zc1, zb4, za5, fIf, za8, fB, f2, za0, fC, zb7, zd3, zc3, zc9, zb6, ze0, ze6, za1, za3, zd7, fKs, za7, dEq, eqB, dB, dIx, ze3, zc7, D.imm, D.imms, zc6, zm1, fT, ze7, zd0, zg6, zf4, zj7, zh5, zi3, zf6, zc4, zl6, zc8, fMt, yg4, zh7, zm2, xa6, xj9, zh6, zh9, fIO, zi7, fE2, fTE, zz5, dGt, yb8, zi6, yk6, sD, hz, ys6, e]
theorem wm1 (n : Nat) : ∃ s : Int, atI [D.int 1, .int 12, .int 144, .int 1728, .int 20736, .int 248832, .int 2985984, .int 35831808] ((n : Int) % 8) = some (.int s) /\ 0 < s /\ s < 1073741824 := by
  have h0 := Int.emod_nonneg (n : Int) (show (8 : Int) ≠ 0 by decide)
  have h1 := Int.emod_lt_of_pos (n : Int) (show (0 : Int) < 8 by decide)
  obtain ⟨d, hd, e⟩ := yd1 [D.int 1, .int 12, .int 144, .int 1728, .int 20736, .int 248832, .int 2985984, .int 35831808] ((n : Int) % 8) h0 (by simpa using h1)
  simp only [List.mem_cons, List.not_mem_nil, or_false] at hd
  rcases hd with rfl | rfl | rfl | rfl | rfl | rfl | rfl | rfl <;> exact ⟨_, e, by decide, by decide⟩
noncomputable abbrev ye6 (GM GC : List D -> Option D) : List D -> Option (D × List D) := gE 4 2 (zc8 [false, true, false, false]) (yj3 GM GC)
section
variable {GM GC : List D -> Option D} {S : D}
theorem ws3 {t : Str} {cs : List Int} {n many : Nat} {salt : Int} (hM : ∀ j s : Int, 0 <= j -> j < 1000 -> 0 <= s -> s < 1000 -> ∃ a, GM [S, .int j, .int s] = some (.int a) /\ 0 <= a) (hC : ∀ j : Int, 0 <= j -> j < 1000 -> ∃ a, GC [S, .int j] = some (.int a)) (hn : n <= 900) (h0 : 0 <= salt) (h1 : salt < 1000) (hm : 0 < many) (hl : cs.length <= 900) :
    ∃ d : Int, ye6 GM GC [S, sD t cs n, .int salt, .int many] = some (.int d, [S, sD t (cs ++ [d]) (n + 1), .int salt, .int many]) /\ 0 <= d /\ d < many := by
  obtain ⟨a, qa, ha⟩ := hM ((n : Int) + 40) salt (by omega) (by omega) h0 h1
  obtain ⟨b, qb⟩ := hC (40 + (n : Int) / 8) (by omega) (by omega)
  obtain ⟨s, qs, s0, s1⟩ := wm1 n
  have hm' : (0 : Int) < (many : Int) := by omega
  have hz : (zd2 cs).length < sizeLine := by rw [xi5]; exact sz1 (by omega)
  have r := fun x : Int => And.intro (Int.emod_nonneg x (show (many : Int) ≠ 0 by omega)) (Int.emod_lt_of_pos x hm')
  have i1 : ∀ d : Int, zd2 [d] = [.int d] := fun _ => rfl
  have v2 : ∀ x4 x5, f2 dIx (za0 1) (fC (.int 2)) [some S, some (sD t cs n), some (.int salt), some (.int many), x4, x5] = some (.int n) := fun _ _ => zc5 rfl rfl (zj7 _ _ _ _)
  have s1' : zb4 4 (za5 (za7 GM (za1 (za0 0) (za1 (f2 zc6 (f2 dIx (za0 1) (fC (.int 2))) (fC (.int 40))) (za1 (za0 2) za3))))) [some S, some (sD t cs n), some (.int salt), some (.int many), none, none] = some (.nx, [some S, some (sD t cs n), some (.int salt), some (.int many), some (.int a), none]) := zh3 (zh1 (zb2 rfl (zb2 (zc5 (v2 _ _) rfl rfl) (zb2 rfl rfl))) qa)
  have fin : ∀ (x : Int) (x5 : Option D), ∃ q, za9 (zh7 1 zb6 (fC (.int 2)) (f2 zc6 (f2 dIx (za0 1) (fC (.int 2))) (fC (.int 1)))) (za9 (zc3 (zc9 1 (zh5 1 zb6 (fC (.int 1))) (za1 (f2 zl4 (za0 4) (za0 3)) za3) zc7)) (zd3 (za5 (f2 zl4 (za0 4) (za0 3))))) [some S, some (sD t cs n), some (.int salt), some (.int many), some (.int x), x5] = some (.ret (.int (x % many)), [some S, some (sD t (cs ++ [x % many]) (n + 1)), some (.int salt), some (.int many), some (.int x), x5]) /\ q = x5 := fun x x5 => by
    have md : ∀ s, f2 zl4 (za0 4) (za0 3) [some S, s, some (.int salt), some (.int many), some (.int x), x5] = some (.int (x % many)) := fun s => zc5 rfl rfl ((zh6 _ _).trans (if_pos hm'))
    have a1 : zh7 1 zb6 (fC (.int 2)) (f2 zc6 (f2 dIx (za0 1) (fC (.int 2))) (fC (.int 1))) [some S, some (sD t cs n), some (.int salt), some (.int many), some (.int x), x5] = some (.nx, [some S, some (sD t cs (n + 1)), some (.int salt), some (.int many), some (.int x), x5]) := by
      unfold zh7
      rw [zc5 (v2 _ _) rfl rfl]
      rfl
    have a2 : zc3 (zc9 1 (zh5 1 zb6 (fC (.int 1))) (za1 (f2 zl4 (za0 4) (za0 3)) za3) zc7) [some S, some (sD t cs (n + 1)), some (.int salt), some (.int many), some (.int x), x5] = some (.nx, [some S, some (sD t (cs ++ [x % many]) (n + 1)), some (.int salt), some (.int many), some (.int x), x5]) := by
      refine yh7 (d := .non) ?_
      unfold zc9
      rw [zb2 (md _) rfl]
      show ((ze0 (zc7 [.int (x % many)]) (sD t cs (n + 1)) [.ix 1]).bind _) = _
      have e : ze0 (zc7 [.int (x % many)]) (sD t cs (n + 1)) [.ix 1] = some (.non, sD t (cs ++ [x % many]) (n + 1)) := by
        show ((zc7 [.int (x % many)] (.lst true (zd2 cs))).bind _) = _
        rw [show zc7 [.int (x % many)] (.lst true (zd2 cs)) = some (.non, .lst true (zd2 cs ++ [.int (x % many)])) from if_pos hz]
        unfold sD
        rw [xi4, i1]; rfl
      rw [e]; rfl
    exact ⟨_, (za4 a1).trans ((za4 a2).trans (zl3 (md _))), rfl⟩
  have out : ∀ (d : Int) (p4 p5 : Option D), yj3 GM GC [some S, some (sD t cs n), some (.int salt), some (.int many), none, none] = some (.ret (.int d), [some S, some (sD t (cs ++ [d]) (n + 1)), some (.int salt), some (.int many), p4, p5]) -> ye6 GM GC [S, sD t cs n, .int salt, .int many] = some (.int d, [S, sD t (cs ++ [d]) (n + 1), .int salt, .int many]) := fun d p4 p5 h => by
    unfold ye6 gE
    refine (if_pos rfl).trans ?_
    show (yj3 GM GC [some S, some (sD t cs n), some (.int salt), some (.int many), none, none]).bind _ = _
    rw [h]; rfl
  have t1 : fB (f2 dEq (za0 2) (fC (.int 1))) [some S, some (sD t cs n), some (.int salt), some (.int many), some (.int a), none] = some (decide (salt = 1)) := zt0 (zc5 rfl rfl rfl)
  by_cases c : salt = 1
  . refine ⟨(b / s) % many, out _ (some (.int (b / s))) (some (.int s)) ?_, (r _).1, (r _).2⟩
    rw [decide_eq_true c] at t1
    have s2 : zb4 5 (za5 (f2 dIx (zd7 (fKs [.int 1, .int 12, .int 144, .int 1728, .int 20736, .int 248832, .int 2985984, .int 35831808])) (f2 zl4 (f2 dIx (za0 1) (fC (.int 2))) (fC (.int 8))))) [some S, some (sD t cs n), some (.int salt), some (.int many), some (.int a), none] = some (.nx, [some S, some (sD t cs n), some (.int salt), some (.int many), some (.int a), some (.int s)]) := zh3 (zc5 (zp7 rfl (Nat.le_of_ble_eq_true rfl)) (zc5 (v2 _ _) rfl ((zh6 _ _).trans (if_pos (by decide)))) qs)
    have s3 : zb4 4 (za5 (f2 zt3 (za7 GC (za1 (za0 0) (za1 (f2 zc6 (fC (.int 40)) (f2 zt3 (f2 dIx (za0 1) (fC (.int 2))) (fC (.int 8)))) za3))) (za0 5))) [some S, some (sD t cs n), some (.int salt), some (.int many), some (.int a), some (.int s)] = some (.nx, [some S, some (sD t cs n), some (.int salt), some (.int many), some (.int (b / s)), some (.int s)]) := zh3 (zc5 (zh1 (zb2 rfl (zb2 (zc5 rfl (zc5 (v2 _ _) rfl ((zh9 _ _).trans (if_pos (by decide)))) rfl) rfl)) qb) rfl ((zh9 _ _).trans (if_pos ⟨s0, s1⟩)))
    obtain ⟨_, f, _⟩ := fin (b / s) (some (.int s))
    exact (za4 s1').trans ((za4 ((zi5 t1).trans ((za4 s2).trans s3))).trans f)
  . refine ⟨a % many, out _ (some (.int a)) none ?_, (r _).1, (r _).2⟩
    rw [decide_eq_false c] at t1
    obtain ⟨_, f, _⟩ := fin a none
    exact (za4 s1').trans ((za4 (zf9 t1)).trans f)
end
noncomputable abbrev kIf (w : String) (F : PSt -> Option (Fl × PSt)) : PSt -> Option (Fl × PSt) := fIf (za8 (kdT 6 w)) F zc1
noncomputable abbrev yy3 (w : String) (c : PSt -> Option Bool) (F : PSt -> Option (Fl × PSt)) : PSt -> Option (Fl × PSt) := fIf (za8 (zf6 (kdT 6 w) c)) F zc1
noncomputable abbrev wrB : PSt -> Option (Fl × PSt) := zh7 4 zb6 (fC (.int 0)) (f2 zc6 (f2 dIx (za0 4) (fC (.int 0))) (f2 dIx (za0 6) (fC (.int 1))))
noncomputable abbrev lnB (GL : List D -> Option (D × List D)) (f : PSt -> Option D) : PSt -> Option (Fl × PSt) := zc3 (fIO [.io 4, .im f] GL)
noncomputable abbrev noB : PSt -> Option (Fl × PSt) := zd3 (za5 (fC (.bl false)))
noncomputable abbrev yv2 (GC : List D -> Option D) : PSt -> Option Bool := fB (f2 dGt (za7 GC (za1 (za0 4) za3)) (f2 dIx (za0 6) (fC (.int 1))))
noncomputable abbrev blB (GC : List D -> Option D) : PSt -> Option (Fl × PSt) := zh7 4 zb6 (fC (.int 0)) (f2 zc6 (f2 dIx (za0 4) (fC (.int 0))) (f2 zp3 (fC (.str " ")) (f2 zm1 (f2 dIx (za0 6) (fC (.int 1))) (za7 GC (za1 (za0 4) za3)))))
noncomputable abbrev wa2 (f1 f2 f3 : PSt -> Option D) (GS : List D -> Option (D × List D)) : PSt -> Option (Fl × PSt) := fIf (zz5 (fTE (fIO [.im (za0 0), .im f1, .im f2, .im f3, .io 4, .im (za0 5)] GS))) noB zc1
noncomputable abbrev grB (GN GS : List D -> Option (D × List D)) : PSt -> Option (Fl × PSt) := za9 (zb4 7 (za5 (zb7 (za0 2))))
  (za9 (fIf (za8 (zf6 (zi3 (fT (za0 2))) (fB (f2 dGt (za0 5) (fC (.int 0))))))
   (zb4 7 (fE2 dEq (fIO [.im (za0 0), .io 4, .im (za0 5), .im (fC (.int 2))] GN) (fC (.int 0))))
   (fIf (za8 (zi3 (fT (za0 2)))) (zc3 (zc9 4 (zh5 4 zb6 (fC (.int 1))) (za1 (fC (.int 1)) za3) zc7)) zc1))
  (wa2 (f2 dIx (za0 6) (fC (.int 1))) (za0 7) (za0 3) GS))
noncomputable abbrev haB (GS : List D -> Option (D × List D)) : PSt -> Option (Fl × PSt) := za9 (zb4 8 (za5 (f2 zc6 (za0 3) (f2 dIx (za0 6) (fC (.int 1)))))) (wa2 (f2 dIx (za0 6) (fC (.int 2))) (za0 2) (za0 8) GS)
noncomputable abbrev eiB (GN GS : List D -> Option (D × List D)) : PSt -> Option (Fl × PSt) := za9 (zb4 9 (fIO [.im (za0 0), .io 4, .im (f2 zc6 (za0 5) (f2 zp3 (fC (.int 9)) (za7 yb8 (za1 (f2 dEq (za0 5) (fC (.int 0))) za3)))), .im (za7 ze3 (za1 (f2 dIx (za0 6) (fC (.int 1))) za3))] GN))
  (wa2 (f2 dIx (f2 dIx (za0 6) (fC (.int 1))) (za0 9)) (za0 2) (za0 3) GS)
noncomputable def zz6 (GL : List D -> Option (D × List D)) (GC : List D -> Option D) (GN GS : List D -> Option (D × List D)) : PSt -> Option (Fl × PSt) :=
  za9 (kIf "word" wrB) (za9 (yy3 "gap" (fT (za0 2)) wrB) (za9 (yy3 "gap" (zi3 (fT (za0 2))) (lnB GL (za0 3))) (za9 (kIf "end" (lnB GL (za0 3)))
    (za9 (kIf "stop" (za9 (fIf (za8 (zf6 (fT (za0 2)) (yv2 GC))) noB zc1) (za9 (fIf (za8 (yv2 GC)) (lnB GL (fC (.int 0))) zc1) (blB GC))))
    (za9 (yy3 "end" (fT (za0 2)) noB) (za9 (kIf "group" (grB GN GS)) (za9 (kIf "hang" (haB GS)) (kIf "either" (eiB GN GS)))))))))
section
variable {w k : String} {F : PSt -> Option (Fl × PSt)} {c : PSt -> Option Bool} {p : PSt} {ds : List D}
theorem zj2 (hp : p[6]? = some (some (.tup (.str k :: ds)))) (h : decide (k = w) = false) : kIf w F p = some (.nx, p) := zf9 (yh6 hp h)
theorem zy9 (hp : p[6]? = some (some (.tup (.str k :: ds)))) (h : decide (k = w) = true) : kIf w F p = F p := zi5 (yh6 hp h)
theorem zr6 (hp : p[6]? = some (some (.tup (.str k :: ds)))) (h : decide (k = w) = false) : yy3 w c F p = some (.nx, p) := zf9 (zx1 (yh6 hp h))
theorem yx8 (hp : p[6]? = some (some (.tup (.str k :: ds)))) (h : decide (k = w) = true) (hc : c p = some true) : yy3 w c F p = F p := zi5 (zu2 (yh6 hp h) hc)
theorem yx9 (hp : p[6]? = some (some (.tup (.str k :: ds)))) (h : decide (k = w) = true) (hc : c p = some false) : yy3 w c F p = some (.nx, p) := zf9 (zu2 (yh6 hp h) hc)
theorem wg5 {fe : PSt -> Option D} {y a : D} {l : List D} (h : fe p = some y) (hp : p[4]? = some (some (.lst true (a :: l)))) : zh7 4 zb6 (fC (.int 0)) fe p = some (.nx, p.set 4 (some (.lst true (y :: l)))) := by
  have e : ixN (l.length + 1) 0 = some 0 := yf5 _
  simp [gP, gE, za9, zc1, zb4, za5, fIf, za8, fB, f2, za0, fC, zb7, zd3, zc3, zc9, zb6, ze0, ze6, za1, za3, zd7, fKs, za7, dEq, eqB, dB, dIx, ze3, zc7, D.imm, D.imms, zc6, zm1, fT, ze7, zd0, zg6, zf4, zj7, zh5, zi3, zf6, zc4, zl6, zc8, fMt, yg4, zh7, zm2, xa6, xj9, zh6, zh9, fIO, zi7, fE2, fTE, zz5, dGt, yb8, zi6, zh7, h, hp, zb6, fC, ze0, zm2, e]
end
section
variable {GL GN GS : List D -> Option (D × List D)} {GC : List D -> Option D} {k : String} {ds : List D} {p : PSt}
theorem xb0 (hp : p[6]? = some (some (.tup (.str k :: ds)))) (h1 : decide (k = "group") = false) (h2 : decide (k = "hang") = false) (h3 : decide (k = "either") = false) : za9 (kIf "group" (grB GN GS)) (za9 (kIf "hang" (haB GS)) (kIf "either" (eiB GN GS))) p = some (.nx, p) :=
  (za4 (zj2 hp h1)).trans ((za4 (zj2 hp h2)).trans (zj2 hp h3))
theorem xb1 (hp : p[6]? = some (some (.tup (.str k :: ds)))) (h1 : decide (k = "word") = false) (h2 : decide (k = "gap") = false) (h3 : decide (k = "end") = false) (h4 : decide (k = "stop") = false) : zz6 GL GC GN GS p = za9 (kIf "group" (grB GN GS)) (za9 (kIf "hang" (haB GS)) (kIf "either" (eiB GN GS))) p :=
  (za4 (zj2 hp h1)).trans ((za4 (zr6 hp h2)).trans ((za4 (zr6 hp h2)).trans ((za4 (zj2 hp h3)).trans ((za4 (zj2 hp h4)).trans (za4 (zr6 hp h3))))))
end
section
variable {GN GS : List D -> Option (D × List D)} {S : D} {R : Option D}
theorem wm2 {t : Str} {cs : List Int} {n : Nat} {m salt : Int} {flat : Bool} {l : Leaf} (x7 x8 x9 : Option D) (hl : zs1 l) (h0 : 0 <= m) (h1 : m <= 100) (ht : t.length <= 900000) :
    ∃ ok t', zz6 zt1 zt9 GN GS [some S, R, some (.bl flat), some (.int m), some (sD t cs n), some (.int salt), some (zh0 l), x7, x8, x9] = some (if ok = true then .nx else .ret (.bl false), [some S, R, some (.bl flat), some (.int m), some (sD t' cs n), some (.int salt), some (zh0 l), x7, x8, x9]) /\
      (ok = true -> ∃ w, wr (!flat) m (col t) l = some w /\ t' = t ++ w) /\ (ok = false -> wr (!flat) m (col t) l = none /\ flat = true) /\ t'.length <= t.length + 101 := by
  have hs : sizeLine = 16777216 := sizeLine_eq
  have hnl : ∀ c : Int, 0 <= c -> c <= 100 -> (t ++ nlw c).length <= t.length + 101 := fun c c0 c1 => by
    unfold nlw
    rw [zi1, zi1, ya9]; show _ + (1 + _) <= _; omega
  have add : ∀ x : Str, x.length <= 1000 -> zc6 (.str t) (.str x) = some (.str (t ++ x)) := fun x hx => by rw [zc6, if_pos]; omega
  have line : ∀ (l : Leaf) (f : PSt -> Option D) (c : Int), 0 <= c -> c <= 100 -> f [some S, R, some (.bl flat), some (.int m), some (sD t cs n), some (.int salt), some (zh0 l), x7, x8, x9] = some (.int c) -> lnB zt1 f [some S, R, some (.bl flat), some (.int m), some (sD t cs n), some (.int salt), some (zh0 l), x7, x8, x9] = some (.nx, [some S, R, some (.bl flat), some (.int m), some (sD (t ++ nlw c) cs n), some (.int salt), some (zh0 l), x7, x8, x9]) := fun l f c c0 c1 hf =>
    yh7 (yl8 (yg9 rfl (zn4 hf rfl ya3)) (ws2 c0 c1 (by omega)) rfl)
  have wrote : ∀ (l : Leaf) (x : Str), x.length <= 1000 -> f2 dIx (za0 6) (fC (.int 1)) [some S, R, some (.bl flat), some (.int m), some (sD t cs n), some (.int salt), some (zh0 l), x7, x8, x9] = some (.str x) -> wrB [some S, R, some (.bl flat), some (.int m), some (sD t cs n), some (.int salt), some (zh0 l), x7, x8, x9] = some (.nx, [some S, R, some (.bl flat), some (.int m), some (sD (t ++ x) cs n), some (.int salt), some (zh0 l), x7, x8, x9]) := fun l x hx h =>
    wg5 (zc5 (zc5 rfl rfl (zg6 _ _)) h (add x hx)) rfl
  cases l with
  | word x =>
    have hx : x.length <= 12 := hl.2.1
    refine ⟨true, t ++ x, ?_, fun _ => ⟨x, rfl, rfl⟩, (nomatch ·), by rw [zi1]; omega⟩
    exact (za4 ((zy9 rfl (by decide)).trans (wrote (.word x) x (by omega) (zc5 rfl rfl (zf4 _ _ _))))).trans ((za4 (zr6 rfl (by decide))).trans ((za4 (zr6 rfl (by decide))).trans ((za4 (zj2 rfl (by decide))).trans ((za4 (zj2 rfl (by decide))).trans ((za4 (zr6 rfl (by decide))).trans (xb0 rfl (by decide) (by decide) (by decide)))))))
  | gap x =>
    have hx : x.length <= 1 := by
      rcases (hl : x = "" \/ x = " ") with rfl | rfl
      . show (0 : Nat) <= 1; decide
      . show (1 : Nat) <= 1; decide
    cases flat with
    | true =>
      refine ⟨true, t ++ x, ?_, fun _ => ⟨x, rfl, rfl⟩, (nomatch ·), by rw [zi1]; omega⟩
      exact (za4 (zj2 rfl (by decide))).trans ((za4 ((yx8 rfl (by decide) rfl).trans (wrote (.gap x) x (by omega) (zc5 rfl rfl (zf4 _ _ _))))).trans ((za4 (yx9 rfl (by decide) rfl)).trans ((za4 (zj2 rfl (by decide))).trans ((za4 (zj2 rfl (by decide))).trans ((za4 (zr6 rfl (by decide))).trans (xb0 rfl (by decide) (by decide) (by decide)))))))
    | false =>
      refine ⟨true, t ++ nlw m, ?_, fun _ => ⟨_, rfl, rfl⟩, (nomatch ·), hnl m h0 h1⟩
      exact (za4 (zj2 rfl (by decide))).trans ((za4 (yx9 rfl (by decide) rfl)).trans ((za4 ((yx8 rfl (by decide) rfl).trans (line _ _ m h0 h1 rfl))).trans ((za4 (zj2 rfl (by decide))).trans ((za4 (zj2 rfl (by decide))).trans ((za4 (zr6 rfl (by decide))).trans (xb0 rfl (by decide) (by decide) (by decide)))))))
  | fin =>
    have z : ∀ {Z}, za9 (yy3 "end" (fT (za0 2)) noB) (za9 (kIf "group" (grB GN GS)) (za9 (kIf "hang" (haB GS)) (kIf "either" (eiB GN GS)))) [some S, R, some (.bl flat), some (.int m), some (sD (t ++ nlw m) cs n), some (.int salt), some (zh0 .fin), x7, x8, x9] = Z -> zz6 zt1 zt9 GN GS [some S, R, some (.bl flat), some (.int m), some (sD t cs n), some (.int salt), some (zh0 .fin), x7, x8, x9] = Z := fun h =>
      (za4 (zj2 rfl (by decide))).trans ((za4 (zr6 rfl (by decide))).trans ((za4 (zr6 rfl (by decide))).trans ((za4 ((zy9 rfl (by decide)).trans (line _ _ m h0 h1 rfl))).trans ((za4 (zj2 rfl (by decide))).trans h))))
    refine ⟨!flat, t ++ nlw m, ?_, fun h => ⟨nlw m, (by cases flat <;> first | rfl | cases h), rfl⟩, fun h => (by cases flat <;> first | exact ⟨rfl, rfl⟩ | cases h), hnl m h0 h1⟩
    cases flat with
    | true => exact z (zm5 (yx8 rfl (by decide) rfl))
    | false => exact z ((za4 (yx9 rfl (by decide) rfl)).trans (xb0 rfl (by decide) (by decide) (by decide)))
  | stop c =>
    have hc : 0 <= c /\ c <= 40 := hl
    have past : ∀ t' : Str, t'.length <= 1000000 -> yv2 zt9 [some S, R, some (.bl flat), some (.int m), some (sD t' cs n), some (.int salt), some (zh0 (.stop c)), x7, x8, x9] = some (decide (c < (col t' : Int))) := fun t' h => zt0 (zc5 (zh1 (zb2 rfl rfl) (xi7 h)) (zc5 rfl rfl (zf4 _ _ _)) rfl)
    have bl : ∀ t' : Str, t'.length <= 1000000 -> (col t' : Int) <= c -> blB zt9 [some S, R, some (.bl flat), some (.int m), some (sD t' cs n), some (.int salt), some (zh0 (.stop c)), x7, x8, x9] = some (.nx, [some S, R, some (.bl flat), some (.int m), some (sD (t' ++ Txt.mul " " (c - (col t' : Int))) cs n), some (.int salt), some (zh0 (.stop c)), x7, x8, x9]) := fun t' h hk =>
      wg5 (zc5 (zc5 rfl rfl (zg6 _ _)) (zc5 rfl (zc5 (zc5 rfl rfl (zf4 _ _ _)) (zh1 (zb2 rfl rfl) (xi7 h)) rfl) (xk2 _ (by omega) (by omega))) (by rw [zc6, if_pos]; rw [ya9]; omega)) rfl
    have z : ∀ {Z F t'}, F = za9 (fIf (za8 (zf6 (fT (za0 2)) (yv2 zt9))) noB zc1) (za9 (fIf (za8 (yv2 zt9)) (lnB zt1 (fC (.int 0))) zc1) (blB zt9)) -> (F [some S, R, some (.bl flat), some (.int m), some (sD t cs n), some (.int salt), some (zh0 (.stop c)), x7, x8, x9] = some (.nx, [some S, R, some (.bl flat), some (.int m), some (sD t' cs n), some (.int salt), some (zh0 (.stop c)), x7, x8, x9]) /\ Z = some (.nx, [some S, R, some (.bl flat), some (.int m), some (sD t' cs n), some (.int salt), some (zh0 (.stop c)), x7, x8, x9])) \/ (∃ d q, F [some S, R, some (.bl flat), some (.int m), some (sD t cs n), some (.int salt), some (zh0 (.stop c)), x7, x8, x9] = some (.ret d, q) /\ Z = some (.ret d, q)) ->
        zz6 zt1 zt9 GN GS [some S, R, some (.bl flat), some (.int m), some (sD t cs n), some (.int salt), some (zh0 (.stop c)), x7, x8, x9] = Z := fun hF h => by
      subst hF
      refine (za4 (zj2 rfl (by decide))).trans ((za4 (zr6 rfl (by decide))).trans ((za4 (zr6 rfl (by decide))).trans ((za4 (zj2 rfl (by decide))).trans ?_)))
      rcases h with ⟨h, rfl⟩ | ⟨d, q, h, rfl⟩
      . exact (za4 ((zy9 rfl (by decide)).trans h)).trans ((za4 (zr6 rfl (by decide))).trans (xb0 rfl (by decide) (by decide) (by decide)))
      . exact zm5 ((zy9 rfl (by decide)).trans h)
    have p0 := past t (by omega)
    by_cases hk : (col t : Int) <= c
    . rw [decide_eq_false (by omega)] at p0
      refine ⟨true, t ++ Txt.mul " " (c - (col t : Int)), ?_, fun _ => ⟨_, if_pos hk, rfl⟩, (nomatch ·), by rw [zi1, ya9]; omega⟩
      have pa : zf6 (fT (za0 2)) (yv2 zt9) [some S, R, some (.bl flat), some (.int m), some (sD t cs n), some (.int salt), some (zh0 (.stop c)), x7, x8, x9] = some false := by
        cases flat with
        | true => exact zu2 rfl p0
        | false => exact zx1 rfl
      exact z rfl (.inl ⟨(za4 (zf9 pa)).trans ((za4 (zf9 p0)).trans (bl t (by omega) hk)), rfl⟩)
    . rw [decide_eq_true (by omega)] at p0
      cases flat with
      | true => exact ⟨false, t, z (t' := t) rfl (.inr ⟨_, _, zm5 (zi5 (zu2 rfl p0)), rfl⟩), (nomatch ·), fun _ => ⟨(if_neg hk).trans rfl, rfl⟩, by omega⟩
      | false =>
        have l0 := hnl 0 (by omega) (by omega)
        have c0 : col (t ++ nlw 0) = 0 := by
          unfold nlw
          rw [xo2 (xo1 0), ya9]; rfl
        have q := bl (t ++ nlw 0) (by omega) (by rw [c0]; exact hc.1)
        have e : t ++ nlw c = (t ++ nlw 0) ++ Txt.mul " " (c - ((0 : Nat) : Int)) := by
          refine zx2 ?_
          unfold nlw
          simp only [zg0, yn9]
          simp [gP, gE, za9, zc1, zb4, za5, fIf, za8, fB, f2, za0, fC, zb7, zd3, zc3, zc9, zb6, ze0, ze6, za1, za3, zd7, fKs, za7, dEq, eqB, dB, dIx, ze3, zc7, D.imm, D.imms, zc6, zm1, fT, ze7, zd0, zg6, zf4, zj7, zh5, zi3, zf6, zc4, zl6, zc8, fMt, yg4, zh7, zm2, xa6, xj9, zh6, zh9, fIO, zi7, fE2, fTE, zz5, dGt, yb8, zi6]
        rw [c0, <- e] at q
        exact ⟨true, t ++ nlw c, z rfl (.inl ⟨(za4 (zf9 (zx1 rfl))).trans ((za4 ((zi5 p0).trans (line _ _ 0 (Int.le_refl _) (by decide) rfl))).trans q), rfl⟩), fun _ => ⟨nlw c, (if_neg hk).trans rfl, rfl⟩, (nomatch ·), hnl c hc.1 (by omega)⟩
end
end My
namespace My
open PySem PySem.Spec PyProof.Rows L2 L3
section
variable {GM GC : List D -> Option D} {S : D}
noncomputable def Fit (n c l w : Nat) : Prop := n + w <= 900 /\ c + w <= 900 /\ l + 101 * w <= 900000
noncomputable def zw1 (n n' l l' d w : Nat) : Prop := n' <= n + w /\ l' <= l + 101 * w /\ d <= w
theorem xb2 {n c l w w' : Nat} (h : Fit n c l w) (hw : w' <= w) : Fit n c l w' := by unfold Fit at *; omega
theorem yu3 {n n' l l' d w w' : Nat} (h : zw1 n n' l l' d w) (hw : w <= w') : zw1 n n' l l' d w' := by unfold zw1 at *; omega
theorem ws4 {n l w : Nat} {cs : List Int} (h : Fit n cs.length l (w + 2)) (d : Int) : Fit n (cs ++ [d]).length l w := by
  rw [List.length_append]
  unfold Fit at *
  show _ /\ _ + 1 + _ <= _ /\ _
  omega
theorem xo7 {n l w : Nat} {cs : List Int} (h : Fit n cs.length l (w + 2)) (d : Int) : Fit (n + 1) (cs ++ [d]).length l w := by
  rw [List.length_append]
  unfold Fit at *
  show _ /\ _ + 1 + _ <= _ /\ _
  omega
theorem xb3 {n c l w : Nat} (h : Fit n c l w) : n <= 900 /\ c <= 900 := by unfold Fit at h; omega
theorem wm3 {n n' l l' w : Nat} {ds : List Int} (g : zw1 n n' l l' ds.length w) (d : Int) : zw1 n n' l l' (d :: ds).length (w + 2) := by rw [List.length_cons]; unfold zw1 at *; omega
theorem xi8 {n n' l l' w : Nat} {ds : List Int} (g : zw1 (n + 1) n' l l' ds.length w) (d : Int) : zw1 n n' l l' (d :: ds).length (w + 2) := by rw [List.length_cons]; unfold zw1 at *; omega
theorem wm4 {n n1 l l1 a b : Nat} {cs ds : List Int} (h : Fit n cs.length l (a + b)) (g : zw1 n n1 l l1 ds.length a) : Fit n1 (cs ++ ds).length l1 b := by
  rw [List.length_append]
  unfold Fit zw1 at *
  omega
theorem xy9 {n n1 n2 l l1 l2 a b : Nat} {ds es : List Int} (g : zw1 n n1 l l1 ds.length a) (h : zw1 n1 n2 l1 l2 es.length b) : zw1 n n2 l l2 (ds ++ es).length (a + b) := by
  rw [List.length_append]
  unfold zw1 at *
  omega
theorem xk3 {m : Int} {x : Nat} (h : m + 12 * ((x + 1 : Nat) : Int) <= 100) : m + 12 * (x : Int) <= 100 := by omega
theorem xo8 {m : Int} {x y : Nat} (h : m + 12 * (y : Int) <= 100) (hx : x <= y) : m + 12 * (x : Int) <= 100 := by omega
noncomputable def yy4 (S : D) (GS : List D -> Option (D × List D)) (r : List Pc) : Prop := ∀ (flat : Bool) (m : Int) (t : Str) (cs : List Int) (n : Nat) (salt : Int), 0 <= m -> m + 12 * zh8 r <= 100 -> 0 <= salt -> salt <= 900 -> Fit n cs.length t.length (zd6 r).length ->
  ∃ ok t' ds n', GS [S, .tup (zb8 r), .bl flat, .int m, sD t cs n, .int salt] = some (.bl ok, [S, .tup (zb8 r), .bl flat, .int m, sD t' (cs ++ ds) n', .int salt]) /\ (ok = true -> ∀ x, zk6 (!flat) m r (ds ++ x) t = some (x, t')) /\ (ok = false -> ∀ x, zk6 (!flat) m r (ds ++ x) t = none) /\ (salt = 0 -> flat = false -> ok = true) /\ zw1 n n' t.length t'.length ds.length (zd6 r).length
noncomputable def xq3 (S : D) (GN GS : List D -> Option (D × List D)) (p : Pc) : Prop := ∀ (R : Option D) (flat : Bool) (m : Int) (t : Str) (cs : List Int) (n : Nat) (salt : Int) (x7 x8 x9 : Option D), 0 <= m -> m + 12 * zn0 p <= 100 -> 0 <= salt -> salt <= 900 -> Fit n cs.length t.length (zh2 p).length ->
  ∃ ok t' ds n' y7 y8 y9, zz6 zt1 zt9 GN GS [some S, R, some (.bl flat), some (.int m), some (sD t cs n), some (.int salt), some (pcD p), x7, x8, x9] = some (if ok = true then .nx else .ret (.bl false), [some S, R, some (.bl flat), some (.int m), some (sD t' (cs ++ ds) n'), some (.int salt), some (pcD p), y7, y8, y9]) /\
    (ok = true -> ∀ x, zq3 (!flat) m p (ds ++ x) t = some (x, t')) /\ (ok = false -> ∀ x, zq3 (!flat) m p (ds ++ x) t = none) /\ (salt = 0 -> flat = false -> ok = true) /\ zw1 n n' t.length t'.length ds.length (zh2 p).length
noncomputable def yv3 (S : D) (GN : List D -> Option (D × List D)) : Prop := ∀ (t : Str) (cs : List Int) (n many : Nat) (salt : Int), n <= 900 -> 0 <= salt -> salt < 1000 -> 0 < many -> cs.length <= 900 -> ∃ d : Int, GN [S, sD t cs n, .int salt, .int many] = some (.int d, [S, sD t (cs ++ [d]) (n + 1), .int salt, .int many]) /\ 0 <= d /\ d < many
theorem wm5 (cs ds : List Int) (d : Int) : cs ++ [d] ++ ds = cs ++ (d :: ds) := by simp
theorem ym0 {GS : List D -> Option (D × List D)} {r : List Pc} {b flat ok : Bool} {m m' salt : Int} {s0 s1 d6 : D} {R x7 x8 x9 : Option D} {f1 f2 f3 : PSt -> Option D} (hS : S.imm = true) (e1 : f1 [some S, R, some (.bl flat), some (.int m), some s0, some (.int salt), some d6, x7, x8, x9] = some (.tup (zb8 r))) (e2 : f2 [some S, R, some (.bl flat), some (.int m), some s0, some (.int salt), some d6, x7, x8, x9] = some (.bl b)) (e3 : f3 [some S, R, some (.bl flat), some (.int m), some s0, some (.int salt), some d6, x7, x8, x9] = some (.int m'))
    (q : GS [S, .tup (zb8 r), .bl b, .int m', s0, .int salt] = some (.bl ok, [S, .tup (zb8 r), .bl b, .int m', s1, .int salt])) :
    wa2 f1 f2 f3 GS [some S, R, some (.bl flat), some (.int m), some s0, some (.int salt), some d6, x7, x8, x9] = some (if ok = true then .nx else .ret (.bl false), [some S, R, some (.bl flat), some (.int m), some s1, some (.int salt), some d6, x7, x8, x9]) := by
  have c := wl1 (wx1 (yl8 (zn4 (f := za0 0) rfl hS (zn4 e1 (zj3 r) (zn4 e2 rfl (zn4 e3 rfl (yg9 (j := 4) rfl (zn4 (f := za0 5) rfl rfl ya3)))))) q rfl))
  cases ok with
  | true => exact (yb5 c).trans rfl
  | false => exact (xa7 c).trans rfl
theorem xb4 {F G : PSt -> Option (Fl × PSt)} {ok : Bool} {p q : PSt} (h : F p = some (if ok = true then .nx else .ret (.bl false), q)) (hG : G q = some (.nx, q)) : za9 F G p = some (if ok = true then .nx else .ret (.bl false), q) := by
  cases ok with
  | true => exact (za4 h).trans hG
  | false => exact zm5 h
theorem bit {d : Int} (h0 : 0 <= d) (h1 : d < ((2 : Nat) : Int)) : d = 0 \/ d = 1 := by omega
theorem wg6 {GN GS : List D -> Option (D × List D)} {r : List Pc} (hS : S.imm = true) (hN : yv3 S GN) (hr : yy4 S GS r) : xq3 S GN GS (.group r) := by
  intro R flat m t cs n salt x7 x8 x9 h0 h1 hs0 hs1 hft
  have hd : zn0 (.group r) = zh8 r + 1 := by rw [zn0]
  have htk : (zh2 (.group r)).length = (zd6 r).length + 2 := by simp [zh2]
  have pi := zj3 r
  rw [hd] at h1
  rw [htk] at hft |-
  have set_eq : ∀ cs' t0, zq3 true m (.group r) cs' t0 = (match cs' with | [] => none | c :: cs => if c = 0 then zk6 false m r cs t0 else if c = 1 then zk6 true m r cs t0 else none) := fun cs' t0 => by rw [zq3.eq_def]; cases cs' <;> simp
  cases flat with
  | true =>
    obtain ⟨ok, t', ds, n', q, e1, e2, e3, e4⟩ := hr true m t cs n salt h0 (xk3 h1) hs0 hs1 (xb2 hft (Nat.le_add_right _ 2))
    have se : ∀ cs' t0, zq3 (!true) m (.group r) cs' t0 = zk6 (!true) m r cs' t0 := fun cs' t0 => by rw [zq3.eq_def]; simp
    refine ⟨ok, t', ds, n', some (.bl true), x8, x9, ?_, fun h x => by rw [se]; exact e1 h x, fun h x => by rw [se]; exact e2 h x, fun _ h => (by cases h), yu3 e4 (Nat.le_add_right _ 2)⟩
    refine (xb1 rfl (by decide) (by decide) (by decide) (by decide)).trans (xb4 ((zy9 rfl (by decide)).trans ?_) ((za4 (zj2 rfl (by decide))).trans (zj2 rfl (by decide))))
    exact (za4 (zh3 (zk8 rfl rfl))).trans ((za4 ((yb5 (zx0 (zx1 rfl))).trans (zf9 rfl))).trans (ym0 hS (zc5 rfl rfl (zf4 _ _ _)) rfl rfl q))
  | false =>
    by_cases hz : salt = 0
    . subst hz
      obtain ⟨ok, t', ds, n', q, e1, e2, e3, e4⟩ := hr false m t (cs ++ [1]) n 0 h0 (xk3 h1) hs0 hs1 (ws4 hft 1)
      have hok := e3 rfl rfl
      subst hok
      refine ⟨true, t', 1 :: ds, n', some (.bl false), x8, x9, ?_, fun _ x => by rw [show (!false) = true from rfl, set_eq]; simpa using e1 rfl x, (nomatch ·), fun _ _ => rfl, wm3 e4 1⟩
      rw [wm5] at q
      have hl : (zd2 cs).length < sizeLine := by rw [xi5]; exact sz1 (Nat.le_trans (xb3 hft).2 (by decide))
      have ei : zd2 (cs ++ [1]) = zd2 cs ++ [.int 1] := by rw [xi4]; rfl
      have ap : zc3 (zc9 4 (zh5 4 zb6 (fC (.int 1))) (za1 (fC (.int 1)) za3) zc7) [some S, R, some (.bl false), some (.int m), some (sD t cs n), some (.int 0), some (pcD (.group r)), some (.bl false), x8, x9] = some (.nx, [some S, R, some (.bl false), some (.int m), some (sD t (cs ++ [1]) n), some (.int 0), some (pcD (.group r)), some (.bl false), x8, x9]) := by
        unfold sD
        rw [ei]
        simp [zc3, zc9, zh5, zb6, fC, ze6, xa6, za1, za3, ze0, zc7, hl]
      refine (xb1 rfl (by decide) (by decide) (by decide) (by decide)).trans (xb4 (ok := true) ((zy9 rfl (by decide)).trans ?_) ((za4 (zj2 rfl (by decide))).trans (zj2 rfl (by decide))))
      exact (za4 (zh3 (zk8 rfl rfl))).trans ((za4 ((yb5 (zx0 (zu2 rfl rfl))).trans ((zi5 rfl).trans ap))).trans (ym0 hS (zc5 rfl rfl (zf4 _ _ _)) rfl rfl q))
    . have hp : 0 < salt := by omega
      obtain ⟨d, qd, d0, d1⟩ := hN t cs n 2 salt (xb3 hft).1 hs0 (Int.lt_of_le_of_lt hs1 (by decide)) (by decide) (xb3 hft).2
      obtain ⟨ok, t', ds, n', q, e1, e2, e3, e4⟩ := hr (decide (d = 0)) m t (cs ++ [d]) (n + 1) salt h0 (xk3 h1) hs0 hs1 (xo7 hft d)
      have se : ∀ x, zq3 (!false) m (.group r) (d :: ds ++ x) t = zk6 (!decide (d = 0)) m r (ds ++ x) t := fun x => by
        rw [show (!false) = true from rfl, set_eq]
        rcases (bit d0 d1) with rfl | rfl <;> simp
      refine ⟨ok, t', d :: ds, n', some (.bl (decide (d = 0))), x8, x9, ?_, fun h x => by rw [se]; exact e1 h x, fun h x => by rw [se]; exact e2 h x, fun h => absurd h hz, xi8 e4 d⟩
      rw [wm5] at q
      have qd' : GN [S, sD t cs n, .int salt, .int 2] = some (.int d, [S, sD t (cs ++ [d]) (n + 1), .int salt, .int 2]) := qd
      have dr : zb4 7 (fE2 dEq (fIO [.im (za0 0), .io 4, .im (za0 5), .im (fC (.int 2))] GN) (fC (.int 0))) [some S, R, some (.bl false), some (.int m), some (sD t cs n), some (.int salt), some (pcD (.group r)), some (.bl false), x8, x9] = some (.nx, [some S, R, some (.bl false), some (.int m), some (sD t (cs ++ [d]) (n + 1)), some (.int salt), some (pcD (.group r)), some (.bl (decide (d = 0))), x8, x9]) := by
        unfold zb4 fE2
        rw [yl8 (zn4 (f := za0 0) rfl hS (yg9 (j := 4) rfl (zn4 (f := za0 5) rfl rfl (zn4 (f := fC (.int 2)) rfl rfl ya3)))) qd' rfl]
        rfl
      have gt : zf6 (zi3 (fT (za0 2))) (fB (f2 dGt (za0 5) (fC (.int 0)))) [some S, R, some (.bl false), some (.int m), some (sD t cs n), some (.int salt), some (pcD (.group r)), some (.bl false), x8, x9] = some true := zu2 rfl (zt0 (zc5 rfl rfl (show some (D.bl (decide (0 < salt))) = _ by rw [decide_eq_true hp])))
      refine (xb1 rfl (by decide) (by decide) (by decide) (by decide)).trans (xb4 ((zy9 rfl (by decide)).trans ?_) ((za4 (zj2 rfl (by decide))).trans (zj2 rfl (by decide))))
      exact (za4 (zh3 (zk8 rfl rfl))).trans ((za4 ((zi5 gt).trans dr)).trans (ym0 hS (zc5 rfl rfl (zf4 _ _ _)) rfl rfl q))
theorem ka8 {m k : Int} {x : Nat} (h : m + 12 * ((x + 1 : Nat) : Int) <= 100) (hk : k <= 12) : m + k + 12 * (x : Int) <= 100 := by omega
theorem wm6 {GN GS : List D -> Option (D × List D)} {k : Int} {r : List Pc} (hS : S.imm = true) (hk : 0 <= k /\ k <= 12) (hr : yy4 S GS r) : xq3 S GN GS (.hang k r) := by
  intro R flat m t cs n salt x7 x8 x9 h0 h1 hs0 hs1 hft
  have hd : zn0 (.hang k r) = zh8 r + 1 := by rw [zn0]
  have htk : (zh2 (.hang k r)).length = (zd6 r).length + 2 := by simp [zh2]
  have pi := zj3 r
  rw [hd] at h1
  rw [htk] at hft |-
  obtain ⟨ok, t', ds, n', q, e1, e2, e3, e4⟩ := hr flat (m + k) t cs n salt (Int.add_nonneg h0 hk.1) (ka8 h1 hk.2) hs0 hs1 (xb2 hft (Nat.le_add_right _ 2))
  have se : ∀ cs' t0, zq3 (!flat) m (.hang k r) cs' t0 = zk6 (!flat) (m + k) r cs' t0 := fun cs' t0 => by rw [zq3]
  refine ⟨ok, t', ds, n', x7, some (.int (m + k)), x9, ?_, fun h x => by rw [se]; exact e1 h x, fun h x => by rw [se]; exact e2 h x, e3, yu3 e4 (Nat.le_add_right _ 2)⟩
  refine (xb1 rfl (by decide) (by decide) (by decide) (by decide)).trans ((za4 (zj2 rfl (by decide))).trans (xb4 ((zy9 rfl (by decide)).trans ?_) (zj2 rfl (by decide))))
  exact (za4 (zh3 (zc5 rfl (zc5 rfl rfl (zf4 _ _ _)) rfl))).trans (ym0 hS (zc5 rfl rfl (zj7 _ _ _ _)) rfl rfl q)
theorem yy0 : ∀ {rs : List (List Pc)} {i : Nat} {r : List Pc}, rs[i]? = some r -> (zf3 rs)[i]? = some (.tup (zb8 r))
  | [], i, _, h => by simp at h
  | q :: rs, 0, _, h => by simp at h; subst h; rfl
  | q :: rs, i + 1, _, h => by show (zf3 rs)[i]? = _; exact yy0 (by simpa using h)
theorem xz0 {GN GS : List D -> Option (D × List D)} {rs : List (List Pc)} (hS : S.imm = true) (hN : yv3 S GN) (hl : 0 < rs.length /\ rs.length <= 4) (hr : ∀ r ∈ rs, yy4 S GS r) : xq3 S GN GS (.either rs) := by
  intro R flat m t cs n salt x7 x8 x9 h0 h1 hs0 hs1 hft
  have hd : zn0 (.either rs) = zw5 rs + 1 := by rw [zn0]
  have htk : (zh2 (.either rs)).length = (yd8 rs).length + 2 := by simp [zh2]
  rw [hd] at h1
  rw [htk] at hft |-
  obtain ⟨s', hs', hs2, hs3⟩ : ∃ s' : Int, salt + 9 * (if decide (salt = 0) = true then 1 else 0) = s' /\ 0 <= s' /\ s' < 1000 := by
    refine ⟨_, rfl, ?_, ?_⟩ <;> by_cases h : salt = 0 <;> simp [h] <;> omega
  obtain ⟨d, qd, d0, d1⟩ := hN t cs n rs.length s' (xb3 hft).1 hs2 hs3 hl.1 (xb3 hft).2
  obtain ⟨r, hg⟩ : ∃ r, rs[d.toNat]? = some r := ⟨_, List.getElem?_eq_getElem (by omega)⟩
  have hdr := yf0 hg
  have htr := yk2 (List.mem_of_getElem? hg)
  have pi := zj3 r
  obtain ⟨ok, t', ds, n', q, e1, e2, e3, e4⟩ := hr r (List.mem_of_getElem? hg) flat m t (cs ++ [d]) (n + 1) salt h0 (xo8 (xk3 h1) hdr) hs0 hs1 (xb2 (xo7 hft d) htr)
  have se : ∀ x, zq3 (!flat) m (.either rs) (d :: ds ++ x) t = zk6 (!flat) m r (ds ++ x) t := fun x => by
    rw [zq3.eq_def]
    simp only [List.cons_append]
    rw [if_pos d0, yi9 hg]
  refine ⟨ok, t', d :: ds, n', x7, x8, some (.int d), ?_, fun h x => by rw [se]; exact e1 h x, fun h x => by rw [se]; exact e2 h x, e3, xi8 (yu3 e4 htr) d⟩
  rw [wm5] at q
  have qx : atI (zf3 rs) d = some (.tup (zb8 r)) := by
    have := ya6 (yy0 hg)
    rwa [Int.toNat_of_nonneg d0] at this
  have hrl : (zf3 rs).length = rs.length := zu5 rs
  have hmul : zx5 9 (if decide (salt = 0) = true then 1 else 0) = true := by by_cases h : salt = 0 <;> simp [h] <;> decide
  have hmul' : zp3 (.int 9) (.int (if decide (salt = 0) = true then 1 else 0)) = some (.int (9 * (if decide (salt = 0) = true then 1 else 0))) := by rw [zp3, if_pos hmul]
  have hm2 : f2 zc6 (za0 5) (f2 zp3 (fC (.int 9)) (za7 yb8 (za1 (f2 dEq (za0 5) (fC (.int 0))) za3))) [some S, R, some (.bl flat), some (.int m), some (sD t cs n), some (.int salt), some (.tup [.str "either", .tup (zf3 rs)]), x7, x8, x9] = some (.int s') := by
    rw [<- hs']
    refine zc5 rfl (zc5 rfl (d := .int (9 * (if decide (salt = 0) = true then 1 else 0))) ?_ hmul') rfl
    exact zh1 (zb2 (zc5 rfl rfl rfl) rfl) rfl
  have ln : za7 ze3 (za1 (f2 dIx (za0 6) (fC (.int 1))) za3) [some S, R, some (.bl flat), some (.int m), some (sD t cs n), some (.int salt), some (.tup [.str "either", .tup (zf3 rs)]), x7, x8, x9] = some (.int rs.length) := by
    rw [<- hrl]
    exact zh1 (zb2 (zc5 rfl rfl (zf4 _ _ _)) rfl) rfl
  have dr : zb4 9 (fIO [.im (za0 0), .io 4, .im (f2 zc6 (za0 5) (f2 zp3 (fC (.int 9)) (za7 yb8 (za1 (f2 dEq (za0 5) (fC (.int 0))) za3)))), .im (za7 ze3 (za1 (f2 dIx (za0 6) (fC (.int 1))) za3))] GN) [some S, R, some (.bl flat), some (.int m), some (sD t cs n), some (.int salt), some (.tup [.str "either", .tup (zf3 rs)]), x7, x8, x9] = some (.nx, [some S, R, some (.bl flat), some (.int m), some (sD t (cs ++ [d]) (n + 1)), some (.int salt), some (.tup [.str "either", .tup (zf3 rs)]), x7, x8, some (.int d)]) := by
    unfold zb4
    rw [yl8 (zn4 (f := za0 0) rfl hS (yg9 (j := 4) rfl (zn4 hm2 rfl (zn4 ln rfl ya3)))) qd rfl]
    rfl
  refine (xb1 (ds := [.tup (zf3 rs)]) rfl (by decide) (by decide) (by decide) (by decide)).trans ((za4 (zj2 (ds := [.tup (zf3 rs)]) rfl (by decide))).trans ((za4 (zj2 (ds := [.tup (zf3 rs)]) rfl (by decide))).trans ((zy9 (ds := [.tup (zf3 rs)]) rfl (by decide)).trans ?_)))
  exact (za4 dr).trans (ym0 hS (zc5 (zc5 rfl rfl (zf4 _ _ _)) rfl qx) rfl rfl q)
theorem wg7 {GN GS : List D -> Option (D × List D)} {l : Leaf} (hl : zs1 l) : xq3 S GN GS (.leaf l) := by
  intro R flat m t cs n salt x7 x8 x9 h0 h1 hs0 hs1 hft
  have hd : zn0 (.leaf l) = 0 := by rw [zn0]
  have htk : (zh2 (.leaf l)).length = 1 := by simp [zh2]
  rw [hd] at h1
  rw [htk] at hft |-
  obtain ⟨ok, t', q, e1, e2, e3⟩ := wm2 (GN := GN) (GS := GS) (S := S) (R := R) (cs := cs) (n := n) (salt := salt) (flat := flat) x7 x8 x9 hl h0 (by omega) (Nat.le_trans (Nat.le_add_right _ _) hft.2.2)
  refine ⟨ok, t', [], n, x7, x8, x9, by rw [List.append_nil]; exact q, fun h x => ?_, fun h x => ?_, fun _ hf => ?_, ⟨Nat.le_add_right _ _, e3, Nat.zero_le _⟩⟩
  . obtain ⟨w, hw, rfl⟩ := e1 h
    rw [zq3, hw]; rfl
  . rw [zq3, (e2 h).1]; rfl
  . cases ok with
    | true => rfl
    | false => have := (e2 rfl).2; rw [hf] at this; cases this
theorem wg8 {GN GS : List D -> Option (D × List D)} {k : Nat} (hS : S.imm = true) (hN : yv3 S GN) (hG : ∀ r, zh8 r < k -> okR r -> yy4 S GS r) {p : Pc} (hd : zn0 p <= k) (ho : okP p) : xq3 S GN GS p := by
  cases p with
  | leaf l => exact wg7 ho
  | group r => rw [zn0] at hd; exact wg6 hS hN (hG r (by omega) ho)
  | hang n r => rw [zn0] at hd; exact wm6 hS ho.1 (hG r (by omega) ho.2)
  | either rs =>
    rw [zn0] at hd
    have ho' : (2 <= rs.length /\ rs.length <= 4) /\ zw0 rs := ho
    refine xz0 hS hN ⟨by omega, ho'.1.2⟩ fun r hr => ?_
    obtain ⟨i, hi⟩ := List.getElem?_of_mem hr
    have := yf0 hi
    exact hG r (by omega) (yo3 ho'.2 hi)
theorem xo9 {GN GS : List D -> Option (D × List D)} {k : Nat} {R : Option D} {flat : Bool} {m salt : Int} (hS : S.imm = true) (hN : yv3 S GN) (hG : ∀ r, zh8 r < k -> okR r -> yy4 S GS r) (h0 : 0 <= m) (hs0 : 0 <= salt) (hs1 : salt <= 900) : ∀ (r : List Pc) (t : Str) (cs : List Int) (n : Nat) (x6 x7 x8 x9 : Option D), zh8 r <= k -> okR r ->
    m + 12 * zh8 r <= 100 -> Fit n cs.length t.length (zd6 r).length ->
    ∃ ok t' ds n' y6 y7 y8 y9, zk9 6 (zz6 zt1 zt9 GN GS) (zb8 r) [some S, R, some (.bl flat), some (.int m), some (sD t cs n), some (.int salt), x6, x7, x8, x9] = some (if ok = true then .nx else .ret (.bl false), [some S, R, some (.bl flat), some (.int m), some (sD t' (cs ++ ds) n'), some (.int salt), y6, y7, y8, y9]) /\
      (ok = true -> ∀ x, zk6 (!flat) m r (ds ++ x) t = some (x, t')) /\ (ok = false -> ∀ x, zk6 (!flat) m r (ds ++ x) t = none) /\ (salt = 0 -> flat = false -> ok = true) /\ zw1 n n' t.length t'.length ds.length (zd6 r).length
  | [], t, cs, n, x6, x7, x8, x9, _, _, _, _ => ⟨true, t, [], n, x6, x7, x8, x9, by rw [List.append_nil]; rfl, fun _ x => by rw [zk6]; rfl, (nomatch ·), fun _ _ => rfl, ⟨Nat.le_refl _, Nat.le_refl _, Nat.le_refl _⟩⟩
  | p :: r, t, cs, n, x6, x7, x8, x9, hd, ho, h1, hft => by
    rw [okR] at ho
    rw [zh8] at hd h1
    have htk : (zd6 (p :: r)).length = (zh2 p).length + (zd6 r).length := by rw [zd6, List.length_append]
    rw [htk] at hft |-
    obtain ⟨ok, t1, d1, n1, y7, y8, y9, q, e1, e2, e3, e4⟩ := wg8 hS hN hG (p := p) (Nat.le_trans (Nat.le_max_left _ _) hd) ho.1 R flat m t cs n salt x7 x8 x9 h0 (xo8 h1 (Nat.le_max_left _ _)) hs0 hs1 (xb2 hft (Nat.le_add_right _ _))
    have st : ∀ (Y : Fl × PSt), zz6 zt1 zt9 GN GS [some S, R, some (.bl flat), some (.int m), some (sD t cs n), some (.int salt), some (pcD p), x7, x8, x9] = some Y -> zk9 6 (zz6 zt1 zt9 GN GS) (zb8 (p :: r)) [some S, R, some (.bl flat), some (.int m), some (sD t cs n), some (.int salt), x6, x7, x8, x9] = (match Y with
        | (.nx, p) => zk9 6 (zz6 zt1 zt9 GN GS) (zb8 r) p
        | (.ct, p) => zk9 6 (zz6 zt1 zt9 GN GS) (zb8 r) p
        | (.bk, p) => some (.nx, p)
        | (.ret d, p) => some (.ret d, p)) := fun Y hY => by
      show zk9 6 _ (pcD p :: zb8 r) _ = _
      rw [zk9]
      show ((zz6 zt1 zt9 GN GS [some S, R, some (.bl flat), some (.int m), some (sD t cs n), some (.int salt), some (pcD p), x7, x8, x9]).bind _) = _
      rw [hY]; rfl
    cases ok with
    | false =>
      refine ⟨false, t1, d1, n1, _, y7, y8, y9, st _ q, (nomatch ·), fun _ x => by rw [zk6, e2 rfl x]; rfl, fun a b => (by have := e3 a b; cases this), yu3 e4 (Nat.le_add_right _ _)⟩
    | true =>
      obtain ⟨ok, t2, d2, n2, z6, z7, z8, z9, q2, f1, f2, f3, f4⟩ := xo9 (R := R) (flat := flat) hS hN hG h0 hs0 hs1 r t1 (cs ++ d1) n1 (some (pcD p)) y7 y8 y9 (Nat.le_trans (Nat.le_max_right _ _) hd) ho.2 (xo8 h1 (Nat.le_max_right _ _)) (wm4 hft e4)
      rw [List.append_assoc] at q2
      refine ⟨ok, t2, d1 ++ d2, n2, z6, z7, z8, z9, (st _ q).trans q2, fun h x => ?_, fun h x => ?_, f3, xy9 e4 f4⟩
      . rw [zk6, List.append_assoc, e1 rfl]; exact f1 h x
      . rw [zk6, List.append_assoc, e1 rfl]; exact f2 h x
noncomputable def zz7 (GN : List D -> Option (D × List D)) : Nat -> List D -> Option (D × List D)
  | 0 => fun _ => none
  | n + 1 => gE 6 4 (zc8 [false, false, false, false, true, false]) (yp6 zt1 zt9 GN (zz7 GN n))
theorem xt9 {GN : List D -> Option (D × List D)} (hS : S.imm = true) (hN : yv3 S GN) : ∀ (k : Nat) (r : List Pc), zh8 r < k -> okR r -> yy4 S (zz7 GN k) r
  | 0, _, h, _ => absurd h (Nat.not_lt_zero _)
  | k + 1, r, hd, ho => fun flat m t cs n salt h0 h1 hs0 hs1 hft => by
    obtain ⟨ok, t', ds, n', y6, y7, y8, y9, q, e⟩ := xo9 (GS := zz7 GN k) (k := k) (R := some (.tup (zb8 r))) (flat := flat) hS hN (fun s hs hk => xt9 hS hN k s hs hk) h0 hs0 hs1 r t cs n none none none none (Nat.le_of_lt_succ hd) ho h1 hft
    refine ⟨ok, t', ds, n', ?_, e⟩
    show gE 6 4 _ (yp6 zt1 zt9 GN (zz7 GN k)) _ = _
    have s1 : zq1 6 (zo7 (za0 1)) (zz6 zt1 zt9 GN (zz7 GN k)) [some S, some (.tup (zb8 r)), some (.bl flat), some (.int m), some (sD t cs n), some (.int salt), none, none, none, none] = _ := q
    have z : yp6 zt1 zt9 GN (zz7 GN k) ([S, .tup (zb8 r), .bl flat, .int m, sD t cs n, .int salt].map some ++ List.replicate 4 none) = some (.ret (.bl ok), [some S, some (.tup (zb8 r)), some (.bl flat), some (.int m), some (sD t' (cs ++ ds) n'), some (.int salt), y6, y7, y8, y9]) := by
      cases ok with
      | true => exact (za4 s1).trans rfl
      | false => exact zm5 s1
    unfold gE
    refine (if_pos rfl).trans ?_
    rw [z]; rfl
end
end My
namespace My
open PySem PySem.Spec PyProof.Rows L2 L3
section
variable {S : D} {GN : List D -> Option (D × List D)}
noncomputable abbrev ym6 (GS : List D -> Option (D × List D)) : List D -> Option D := gP 3 1 (xc3 GS)
theorem wm7 {GS : List D -> Option (D × List D)} {r : List Pc} {salt : Int} (hS : S.imm = true) (hL : yy4 S GS r) (hd : zh8 r <= 8) (hl : (zd6 r).length <= 800) (h0 : 0 <= salt) (h1 : salt <= 900) :
    ∃ C t, ym6 GS [S, .tup (zb8 r), .int salt] = some (.tup [.str t, .tup (zd2 C)]) /\ zk6 true 0 r C ⟨#[]⟩ = some ([], t) /\ C.length <= (zd6 r).length /\ t.length <= 900000 := by
  have pi := zj3 r
  have run : ∀ s : Int, 0 <= s -> s <= 900 -> ∃ ok t' ds n', GS [S, .tup (zb8 r), .bl false, .int 0, sD ⟨#[]⟩ [] 0, .int s] = some (.bl ok, [S, .tup (zb8 r), .bl false, .int 0, sD t' ds n', .int s]) /\ (ok = true -> zk6 true 0 r ds ⟨#[]⟩ = some ([], t')) /\ (s = 0 -> ok = true) /\ ds.length <= (zd6 r).length /\ t'.length <= 900000 := fun s s0 s1 => by
    obtain ⟨ok, t', ds, n', q, e1, e2, e3, _, e5, e6⟩ := hL false 0 ⟨#[]⟩ [] 0 s (Int.le_refl _) (by omega) s0 s1 ⟨by omega, by show 0 + _ <= _; omega, by show 0 + _ <= _; omega⟩
    exact ⟨ok, t', ds, n', q, fun h => by have := e1 h []; rwa [List.append_nil] at this, fun h => e3 h rfl, e6, (by have e5' : t'.length <= 0 + 101 * (zd6 r).length := e5; omega)⟩
  have st0 : zd7 (za1 (fC (.str "")) (za1 (zd7 za3) (za1 (fC (.int 0)) za3))) = fun _ => some (sD ⟨#[]⟩ [] 0) := by
    funext p
    refine zp7 (zb2 rfl (zb2 (d := .lst true []) rfl (zb2 rfl rfl))) (by simp) |>.trans ?_
    rw [xo0]; rfl
  have fin : ∀ (t' : Str) (ds : List Int) (n' : Nat), zd3 (za5 (zg7 (za1 (zb7 (f2 dIx (za0 3) (fC (.int 0)))) (za1 (za7 zg1 (za1 (f2 dIx (za0 3) (fC (.int 1))) za3)) za3)))) [some S, some (.tup (zb8 r)), some (.int salt), some (sD t' ds n')] = some (.ret (.tup [.str t', .tup (zd2 ds)]), [some S, some (.tup (zb8 r)), some (.int salt), some (sD t' ds n')]) := fun t' ds n' => by
    have hi := ye9 ds
    refine zl3 ?_
    simp [zg7, za1, za3, zb7, f2, dIx, za0, fC, sD, zg6, zf4, za7, zg1, hi, D.imm, D.imms]
  have call : ∀ (s : Int) (f5 : PSt -> Option D) (ok : Bool) (t' : Str) (ds : List Int) (n' : Nat), f5 [some S, some (.tup (zb8 r)), some (.int salt), some (sD ⟨#[]⟩ [] 0)] = some (.int s) -> GS [S, .tup (zb8 r), .bl false, .int 0, sD ⟨#[]⟩ [] 0, .int s] = some (.bl ok, [S, .tup (zb8 r), .bl false, .int 0, sD t' ds n', .int s]) ->
      fIO [.im (za0 0), .im (za0 1), .im (fC (.bl false)), .im (fC (.int 0)), .io 3, .im f5] GS [some S, some (.tup (zb8 r)), some (.int salt), some (sD ⟨#[]⟩ [] 0)] = some (.bl ok, [some S, some (.tup (zb8 r)), some (.int salt), some (sD t' ds n')]) := fun s f5 ok t' ds n' h5 q => by
    generalize sD ⟨#[]⟩ [] 0 = s0 at h5 q |-
    generalize sD t' ds n' = s1 at q |-
    simp [fIO, zc4, zb7, za0, fC, hS, pi, D.imm, D.imms, h5, q, zi7]
  obtain ⟨ok, t', ds, n', q, e1, _, e6⟩ := run salt h0 h1
  have s0 : ∀ x, zb4 3 (za5 (zd7 (za1 (fC (.str "")) (za1 (zd7 za3) (za1 (fC (.int 0)) za3))))) [some S, some (.tup (zb8 r)), some (.int salt), x] = some (.nx, [some S, some (.tup (zb8 r)), some (.int salt), some (sD ⟨#[]⟩ [] 0)]) := fun x => by rw [st0]; rfl
  have c1 : fTE (fIO [.im (za0 0), .im (za0 1), .im (fC (.bl false)), .im (fC (.int 0)), .io 3, .im (za0 2)] GS) [some S, some (.tup (zb8 r)), some (.int salt), some (sD ⟨#[]⟩ [] 0)] = some (ok, [some S, some (.tup (zb8 r)), some (.int salt), some (sD t' ds n')]) := by
    unfold fTE
    rw [call salt (za0 2) ok t' ds n' rfl q]; rfl
  cases ok with
  | true => exact ⟨ds, t', zw9 rfl ((za4 (s0 _)).trans (zm5 ((xa7 c1).trans (fin t' ds n')))), e1 rfl, e6⟩
  | false =>
    obtain ⟨ok2, t2, d2, n2, q2, f1, f2, f6⟩ := run 0 (Int.le_refl _) (by decide)
    have hok := f2 rfl
    subst hok
    have c2 : zc3 (fIO [.im (za0 0), .im (za0 1), .im (fC (.bl false)), .im (fC (.int 0)), .io 3, .im (fC (.int 0))] GS) [some S, some (.tup (zb8 r)), some (.int salt), some (sD ⟨#[]⟩ [] 0)] = some (.nx, [some S, some (.tup (zb8 r)), some (.int salt), some (sD t2 d2 n2)]) := by
      unfold zc3
      rw [call 0 (fC (.int 0)) true t2 d2 n2 rfl q2]; rfl
    exact ⟨d2, t2, zw9 rfl ((za4 (s0 _)).trans ((za4 ((yb5 c1).trans rfl)).trans ((za4 (s0 _)).trans ((za4 c2).trans (fin t2 d2 n2))))), f1 rfl, f6⟩
end
end My
namespace My
open PySem PySem.Spec PyProof.Rows L2 L3
noncomputable def ifR (GM : List D -> Option D) (GS : List D -> Option (D × List D)) (GL : List D -> Option D) : PSt -> Option (Fl × PSt) :=
  (fIf (za8 (zf6 (fB (f2 dLt (za0 7) (fC (.int 4)))) (fB (f2 dLe (za7 ze3 (za1 (za0 4) za3)) (za0 3)))))
   (za9 (zb4 9 (za5 (f2 dIx (zd7 (fKs [.str "group", .str "group", .str "hang", .str "either"])) (za0 7))))
  (zc3 (zc9 4 zb6 (za1 (zd7 (za1 (zb7 (za0 9)) (za1 (f2 dIx (zd7 (za1 (fC (.int 1)) (za1 (fC (.int 2)) (za1 (fC (.int 4)) (za1 (f2 zl4 (f2 zt3 (za0 6) (fC (.int 13))) (fC (.int 13))) za3))))) (f2 zl4 (f2 zt3 (za0 6) (fC (.int 169))) (fC (.int 4)))) (za1 (zd7 za3) (za1 (zd7 za3) za3))))) za3) zc7)))
   (fIf (za8 (zf6 (fB (f2 dEq (za0 7) (fC (.int 4)))) (fB (f2 dGt (za7 ze3 (za1 (za0 4) za3)) (fC (.int 1))))))
   (zc3 (fIO [.io 4] GS))
   (fIf (za8 (zf6 (fB (f2 dLt (za0 7) (fC (.int 7)))) (zf6 (fB (f2 dEq (za0 8) (fC (.str "either")))) (fB (f2 dLt (za7 ze3 (za1 (f2 dIx (f2 dIx (za0 4) (zk2 (fC (.int 1)))) (fC (.int 2))) za3)) (fC (.int 3)))))))
   (za9 (zc3 (zc9 4 (zh5 4 (zh5 4 zb6 (zk2 (fC (.int 1)))) (fC (.int 2))) (za1 (za7 zg1 (za1 (f2 dIx (f2 dIx (za0 4) (zk2 (fC (.int 1)))) (fC (.int 3))) za3)) za3) zc7))
  (zh7 4 (zh5 4 zb6 (zk2 (fC (.int 1)))) (fC (.int 3)) (zd7 za3)))
   (zc3 (zc9 4 (zh5 4 (zh5 4 zb6 (zk2 (fC (.int 1)))) (fC (.int 3))) (za1 (za7 GL (za1 (za7 GM (za1 (za0 0) (za1 (za0 5) (za1 (fC (.int 32)) za3)))) za3)) za3) zc7)))))
noncomputable def yp9 (GM : List D -> Option D) (GS : List D -> Option (D × List D)) (GL : List D -> Option D) : PSt -> Option (Fl × PSt) :=
   (za9 (zb4 6 (za5 (za7 GM (za1 (za0 0) (za1 (za0 5) (za1 (fC (.int 31)) za3))))))
  (za9 (zb4 7 (za5 (f2 zl4 (za0 6) (fC (.int 13)))))
  (za9 (zb4 8 (za5 (zb7 (f2 dIx (f2 dIx (za0 4) (zk2 (fC (.int 1)))) (fC (.int 0))))))
  (ifR GM GS GL))))
section
variable {GM : List D -> Option D} {GS : List D -> Option (D × List D)} {GL : List D -> Option D} {S : D} {x1 x2 x6 x7 x8 x9 : Option D} {nest : Nat} {f : Gm} {fs : List Gm} {i m : Int}
theorem wg9 (hm : GM [S, .int i, .int 31] = some (.int m)) : yp9 GM GS GL [some S, x1, x2, some (.int nest), some (.lst true (zf5 (f :: fs))), some (.int i), x6, x7, x8, x9]
    = ifR GM GS GL [some S, x1, x2, some (.int nest), some (.lst true (zf5 (f :: fs))), some (.int i), some (.int m), some (.int (m % 13)), some (.str (kdS f.kd)), x9] := by
  unfold yp9
  refine (za4 (zh3 (zh1 rfl hm))).trans ?_
  refine (za4 (zh3 (d := .int (m % 13)) (by simp [za9, zc1, zb4, za5, fIf, za8, fB, f2, za0, fC, zb7, zd3, zc3, zc9, zb6, ze0, ze6, za1, za3, zd7, zg7, fKs, za7, dEq, dNe, eqB, dB, dIx, ze3, zc7, D.imm, D.imms, zg1, zc6, fT, ze7, zd0, zg6, zf4, zj7, zh5, zh7, zm2, zk2, zf6, zk4, zi3, dLt, dLe, dGt, dGe, fIO, zc4, zi7, zh6, zh9, zo2, zo3, yf5, L2.zq0, yb6, yb7, zs4]))).trans ?_
  exact za4 (zh3 (d := .str (kdS f.kd)) (by simp [za9, zc1, zb4, za5, fIf, za8, fB, f2, za0, fC, zb7, zd3, zc3, zc9, zb6, ze0, ze6, za1, za3, zd7, zg7, fKs, za7, dEq, dNe, eqB, dB, dIx, ze3, zc7, D.imm, D.imms, zg1, zc6, fT, ze7, zd0, zg6, zf4, zj7, zh5, zh7, zm2, zk2, zf6, zk4, zi3, dLt, dLe, dGt, dGe, fIO, zc4, zi7, zh6, zh9, zo2, zo3, yf5, L2.zq0, yb6, yb7, zs4, zf5, gmD]))
theorem wx6 (a k : Int) (ha : 0 <= a /\ a <= 12) : ∃ n : Int, atI [D.int 1, .int 2, .int 4, .int a] (k % 4) = some (.int n) /\ 0 <= n /\ n <= 12 := by
  have h0 := Int.emod_nonneg k (show (4 : Int) ≠ 0 by decide)
  have h1 := Int.emod_lt_of_pos k (show (0 : Int) < 4 by decide)
  obtain ⟨d, hd, e⟩ := yd1 [D.int 1, .int 2, .int 4, .int a] (k % 4) h0 (by simpa using h1)
  simp only [List.mem_cons, List.not_mem_nil, or_false] at hd
  rcases hd with rfl | rfl | rfl | rfl
  . exact ⟨_, e, by decide, by decide⟩
  . exact ⟨_, e, by decide, by decide⟩
  . exact ⟨_, e, by decide, by decide⟩
  . exact ⟨_, e, ha⟩
theorem ws5 (m : Int) (h0 : 0 <= m % 13) (h : m % 13 < 4) : ∃ kd : Nat, atI [D.str (Str.ofString "group"), .str (Str.ofString "group"), .str (Str.ofString "hang"), .str (Str.ofString "either")] (m % 13) = some (.str (kdS kd)) /\ 1 <= kd /\ kd <= 3 := by
  have hn : m % 13 = 0 \/ m % 13 = 1 \/ m % 13 = 2 \/ m % 13 = 3 := by omega
  rcases hn with e | e | e | e <;> rw [e]
  . exact ⟨1, rfl, by decide, by decide⟩
  . exact ⟨1, rfl, by decide, by decide⟩
  . exact ⟨2, rfl, by decide, by decide⟩
  . exact ⟨3, rfl, by decide, by decide⟩
theorem xb5 {a b : Prop} [Decidable a] [Decidable b] (h : ¬ (a /\ b)) : (decide a && decide b) = false := by
  by_cases ha : a
  . rw [decide_eq_false (fun hb => h ⟨ha, hb⟩), Bool.and_false]
  . rw [decide_eq_false ha, Bool.false_and]
theorem xu0 {a b : Prop} [Decidable a] [Decidable b] (ha : a) (hb : b) : (decide a && decide b) = true := by rw [decide_eq_true ha, decide_eq_true hb]; rfl
theorem xb6 {f g : PSt -> Option Bool} {p : PSt} {a b : Bool} (h1 : f p = some a) (h2 : g p = some b) : zf6 f g p = some (a && b) := by
  cases a with
  | true => exact zu2 h1 h2
  | false => exact zx1 h1
theorem xz1 {N : List D} {w : Int} {x0 x5 x6 : Option D} : zf6 (fB (f2 dLt (za0 7) (fC (.int 4)))) (fB (f2 dLe (za7 ze3 (za1 (za0 4) za3)) (za0 3))) [x0, x1, x2, some (.int nest), some (.lst true N), x5, x6, some (.int w), x8, x9] = some (decide (w < 4) && decide ((N.length : Int) <= (nest : Int))) :=
  xb6 (zt0 (zc5 rfl rfl rfl)) (zt0 (zc5 (zh1 (zb2 rfl rfl) rfl) rfl rfl))
theorem wo5 {N : List D} {w : Int} {x0 x3 x5 x6 : Option D} : zf6 (fB (f2 dEq (za0 7) (fC (.int 4)))) (fB (f2 dGt (za7 ze3 (za1 (za0 4) za3)) (fC (.int 1)))) [x0, x1, x2, x3, some (.lst true N), x5, x6, some (.int w), x8, x9] = some (decide (w = 4) && decide ((1 : Int) < (N.length : Int))) :=
  xb6 (zt0 (zc5 rfl rfl rfl)) (zt0 (zc5 (zh1 (zb2 rfl rfl) rfl) rfl rfl))
theorem xu1 {p : PSt} {j : Nat} {M : List D} {d : D} (hp : p[j]? = some (some (.lst true (M ++ [d])))) : f2 dIx (za0 j) (zk2 (fC (.int 1))) p = some d := zc5 (yl7 hp) rfl (show atI (M ++ [d]) (-1) = _ from L2.zq0 _ _)
theorem wo6 {M R : List D} {w : Int} {k : String} {a b c : D} {x0 x3 x5 x6 : Option D} : zf6 (fB (f2 dLt (za0 7) (fC (.int 7)))) (zf6 (fB (f2 dEq (za0 8) (fC (.str "either")))) (fB (f2 dLt (za7 ze3 (za1 (f2 dIx (f2 dIx (za0 4) (zk2 (fC (.int 1)))) (fC (.int 2))) za3)) (fC (.int 3))))) [x0, x1, x2, x3, some (.lst true (M ++ [.lst true [a, b, .lst true R, c]])), x5, x6, some (.int w), some (.str k), x9] = some (decide (w < 7) && (decide (k = "either") && decide ((R.length : Int) < 3))) := by
  refine xb6 (zt0 (zc5 rfl rfl rfl)) (xb6 (zt0 (zc5 rfl rfl ?_)) (zt0 (zc5 (zh1 (zb2 (zc5 (xu1 (j := 4) rfl) rfl (zj7 _ _ _ _)) rfl) rfl) rfl rfl)))
  show some (D.bl (decide ((k : Str) = (("either" : String) : Str)))) = _
  congr 2
  exact decide_eq_decide.mpr (by rw [zd0])
theorem wh0 {p : PSt} {j : Nat} {M : List D} {k n : Nat} {l : List D} (hp : p[j]? = some (some (.lst true (M ++ [.lst true l])))) (hk : ixN l.length (k : Int) = some n) : zh5 j (zh5 j zb6 (zk2 (fC (.int 1)))) (fC (.int (k : Int))) p = some [.ix M.length, .ix n] := by
  have e1 : ixN (M ++ [D.lst true l]).length (-1) = some M.length := by rw [List.length_append]; exact zo2 _
  have e2 : (M ++ [D.lst true l])[M.length]? = some (.lst true l) := by simp [za9, zc1, zb4, za5, fIf, za8, fB, f2, za0, fC, zb7, zd3, zc3, zc9, zb6, ze0, ze6, za1, za3, zd7, zg7, fKs, za7, dEq, dNe, eqB, dB, dIx, ze3, zc7, D.imm, D.imms, zg1, zc6, fT, ze7, zd0, zg6, zf4, zj7, zh5, zh7, zm2, zk2, zf6, zk4, zi3, dLt, dLe, dGt, dGe, fIO, zc4, zi7, zh6, zh9, zo2, zo3, yf5, L2.zq0, yb6, yb7, zs4]
  simp [za9, zc1, zb4, za5, fIf, za8, fB, f2, za0, fC, zb7, zd3, zc3, zc9, zb6, ze0, ze6, za1, za3, zd7, zg7, fKs, za7, dEq, dNe, eqB, dB, dIx, ze3, zc7, D.imm, D.imms, zg1, zc6, fT, ze7, zd0, zg6, zf4, zj7, zh5, zh7, zm2, zk2, zf6, zk4, zi3, dLt, dLe, dGt, dGe, fIO, zc4, zi7, zh6, zh9, zo2, zo3, yf5, L2.zq0, yb6, yb7, zs4, zh5, zb6, hp, ze6, e1, e2, hk, zk2, fC]
theorem wm8 {α : Type} {h : D -> Option (α × D)} {M l : List D} {n : Nat} {d d' : D} {r : α} (hl : l[n]? = some d) (e : h d = some (r, d')) : ze0 h (.lst true (M ++ [.lst true l])) [.ix M.length, .ix n] = some (r, .lst true (M ++ [.lst true (l.set n d')])) := by
  have e2 : (M ++ [D.lst true l])[M.length]? = some (.lst true l) := by simp [za9, zc1, zb4, za5, fIf, za8, fB, f2, za0, fC, zb7, zd3, zc3, zc9, zb6, ze0, ze6, za1, za3, zd7, zg7, fKs, za7, dEq, dNe, eqB, dB, dIx, ze3, zc7, D.imm, D.imms, zg1, zc6, fT, ze7, zd0, zg6, zf4, zj7, zh5, zh7, zm2, zk2, zf6, zk4, zi3, dLt, dLe, dGt, dGe, fIO, zc4, zi7, zh6, zh9, zo2, zo3, yf5, L2.zq0, yb6, yb7, zs4]
  show (((M ++ [D.lst true l])[M.length]?).bind _) = _
  rw [e2, Option.bind_some]
  show (((l[n]?).bind _).bind _) = _
  rw [hl, Option.bind_some]
  show (((h d).bind _).bind _) = _
  rw [e]
  show some (r, D.lst true ((M ++ [D.lst true l]).set M.length _)) = _
  rw [zo3]
theorem xp0 {p : PSt} {j k n : Nat} {M l xs : List D} {fe : PSt -> Option D} {y : D} (hp : p[j]? = some (some (.lst true (M ++ [.lst true l])))) (hk : ixN l.length (k : Int) = some n) (hl : l[n]? = some (.lst true xs)) (h : fe p = some y) (hz : xs.length < sizeLine) : zc3 (zc9 j (zh5 j (zh5 j zb6 (zk2 (fC (.int 1)))) (fC (.int (k : Int)))) (za1 fe za3) zc7) p = some (.nx, p.set j (some (.lst true (M ++ [.lst true (l.set n (.lst true (xs ++ [y])))])))) := by
  refine yh7 (d := .non) ?_
  unfold zc9
  rw [hp, Option.join_some, Option.bind_some, wh0 hp hk, Option.bind_some, zb2 h rfl, Option.bind_some, wm8 hl (show zc7 [y] (.lst true xs) = _ from if_pos hz)]
  rfl
theorem xz2 {p : PSt} {j k n : Nat} {M l : List D} {fe : PSt -> Option D} {y : D} (hp : p[j]? = some (some (.lst true (M ++ [.lst true l])))) (hk : ixN l.length (k : Int) = some n) (h : fe p = some y) : zh7 j (zh5 j zb6 (zk2 (fC (.int 1)))) (fC (.int (k : Int))) fe p = some (.nx, p.set j (some (.lst true (M ++ [.lst true (l.set n y)])))) := by
  have e1 : ixN (M ++ [D.lst true l]).length (-1) = some M.length := by rw [List.length_append]; exact zo2 _
  have e2 : (M ++ [D.lst true l])[M.length]? = some (.lst true l) := by simp [za9, zc1, zb4, za5, fIf, za8, fB, f2, za0, fC, zb7, zd3, zc3, zc9, zb6, ze0, ze6, za1, za3, zd7, zg7, fKs, za7, dEq, dNe, eqB, dB, dIx, ze3, zc7, D.imm, D.imms, zg1, zc6, fT, ze7, zd0, zg6, zf4, zj7, zh5, zh7, zm2, zk2, zf6, zk4, zi3, dLt, dLe, dGt, dGe, fIO, zc4, zi7, zh6, zh9, zo2, zo3, yf5, L2.zq0, yb6, yb7, zs4]
  have ep : zh5 j zb6 (zk2 (fC (.int 1))) p = some [.ix M.length] := by simp [za9, zc1, zb4, za5, fIf, za8, fB, f2, za0, fC, zb7, zd3, zc3, zc9, zb6, ze0, ze6, za1, za3, zd7, zg7, fKs, za7, dEq, dNe, eqB, dB, dIx, ze3, zc7, D.imm, D.imms, zg1, zc6, fT, ze7, zd0, zg6, zf4, zj7, zh5, zh7, zm2, zk2, zf6, zk4, zi3, dLt, dLe, dGt, dGe, fIO, zc4, zi7, zh6, zh9, zo2, zo3, yf5, L2.zq0, yb6, yb7, zs4, zh5, zb6, hp, ze6, e1, zk2, fC]
  unfold zh7
  rw [h, Option.bind_some, hp, Option.join_some, Option.bind_some, ep, Option.bind_some]
  show ((ze0 (zm2 (.int (k : Int)) y) (.lst true (M ++ [.lst true l])) [.ix M.length]).bind _) = _
  have em : ze0 (zm2 (.int (k : Int)) y) (.lst true (M ++ [.lst true l])) [.ix M.length] = some ((), .lst true (M ++ [.lst true (l.set n y)])) := by
    show (((M ++ [D.lst true l])[M.length]?).bind _) = _
    rw [e2, Option.bind_some]
    show (((ixN l.length (k : Int)).bind _).bind _) = _
    rw [hk]
    show some ((), D.lst true ((M ++ [D.lst true l]).set M.length _)) = _
    rw [zo3]
  rw [em]; rfl
theorem wh1 (hw : m % 13 < 4) (hl : (f :: fs).length <= nest) (hz : (f :: fs).length <= 900) : ∃ kd n y9, ifR GM GS GL [some S, x1, x2, some (.int nest), some (.lst true (zf5 (f :: fs))), some (.int i), some (.int m), some (.int (m % 13)), x8, x9]
    = some (.nx, [some S, x1, x2, some (.int nest), some (.lst true (zf5 (⟨kd, n, [], []⟩ :: f :: fs))), some (.int i), some (.int m), some (.int (m % 13)), x8, y9]) /\ (1 <= kd /\ kd <= 3) /\ 0 <= n /\ n <= 12 := by
  have h0 := Int.emod_nonneg m (show (13 : Int) ≠ 0 by decide)
  have d0 := Int.emod_nonneg (m / 13) (show (13 : Int) ≠ 0 by decide)
  have d1 := Int.emod_lt_of_pos (m / 13) (show (0 : Int) < 13 by decide)
  obtain ⟨kd, q1, hk1, hk2⟩ := ws5 m h0 hw
  obtain ⟨n, q2, hn1, hn2⟩ := wx6 (m / 13 % 13) (m / 169) ⟨d0, Int.le_of_lt_add_one d1⟩
  have hz' : (zf5 (f :: fs)).length < sizeLine := by rw [yd3]; exact sz1 (by omega)
  have hl' : ((zf5 (f :: fs)).length : Int) <= (nest : Int) := by rw [yd3]; exact Int.ofNat_le.mpr hl
  refine ⟨kd, n, some (.str (kdS kd)), ?_, ⟨hk1, hk2⟩, hn1, hn2⟩
  have e : zf5 (⟨kd, n, [], []⟩ :: f :: fs) = zf5 (f :: fs) ++ [.lst true [.str (kdS kd), .int n, .lst true [], .lst true []]] := rfl
  rw [e]
  generalize zf5 (f :: fs) = N at hz' hl' |-
  unfold ifR
  refine (zi5 (xz1.trans (by rw [xu0 hw hl']))).trans ((za4 (zh3 (zc5 (zp7 rfl (Nat.le_of_ble_eq_true rfl)) rfl q1))).trans ?_)
  refine yh7 (d := .non) ?_
  unfold zc9
  rw [zb2 (zp7 (zb2 (zk8 (d := .str (kdS kd)) rfl rfl) (zb2 (zc5 (zp7 (zb2 rfl (zb2 rfl (zb2 rfl (zb2 (zc5 (zc5 rfl rfl ((zh9 _ _).trans (if_pos (by decide)))) rfl ((zh6 _ _).trans (if_pos (by decide)))) rfl)))) (Nat.le_of_ble_eq_true rfl)) (zc5 (zc5 rfl rfl ((zh9 _ _).trans (if_pos (by decide)))) rfl ((zh6 _ _).trans (if_pos (by decide)))) q2) (zb2 (zp7 rfl (Nat.le_of_ble_eq_true rfl)) (zb2 (zp7 rfl (Nat.le_of_ble_eq_true rfl)) rfl)))) (Nat.le_of_ble_eq_true rfl)) rfl]
  show ((zc7 [.lst true [.str (kdS kd), .int n, .lst true [], .lst true []]] (.lst true N)).bind _) = _
  rw [show zc7 [.lst true [.str (kdS kd), .int n, .lst true [], .lst true []]] (.lst true N) = _ from if_pos hz']
  rfl
theorem wh2 {g : Gm} (q : GS [.lst true (zf5 (f :: g :: fs))] = some (.non, [.lst true (zf5 (zv9 g (zo9 f) :: fs))])) (hw : m % 13 = 4) :
    ifR GM GS GL [some S, x1, x2, some (.int nest), some (.lst true (zf5 (f :: g :: fs))), some (.int i), some (.int m), some (.int (m % 13)), x8, x9]
    = some (.nx, [some S, x1, x2, some (.int nest), some (.lst true (zf5 (zv9 g (zo9 f) :: fs))), some (.int i), some (.int m), some (.int (m % 13)), x8, x9]) := by
  have hl : (1 : Int) < ((zf5 (f :: g :: fs)).length : Int) := by rw [yd3]; simp; omega
  unfold ifR
  exact (yb5 (zx0 (xz1.trans (by rw [xb5 (fun z => by omega)])))).trans ((zi5 (wo5.trans (by rw [xu0 hw hl]))).trans (yh7 (yl8 (yg9 rfl ya3) q rfl)))
theorem xu2 (hw : ¬ (m % 13 < 4 /\ (f :: fs).length <= nest)) (hw4 : ¬ (m % 13 = 4 /\ fs ≠ [])) {F1 F2 F3 : PSt -> Option (Fl × PSt)} : fIf (za8 (zf6 (fB (f2 dLt (za0 7) (fC (.int 4)))) (fB (f2 dLe (za7 ze3 (za1 (za0 4) za3)) (za0 3))))) F1 (fIf (za8 (zf6 (fB (f2 dEq (za0 7) (fC (.int 4)))) (fB (f2 dGt (za7 ze3 (za1 (za0 4) za3)) (fC (.int 1)))))) F2 F3) [some S, x1, x2, some (.int nest), some (.lst true (zf5 (f :: fs))), some (.int i), some (.int m), some (.int (m % 13)), x8, x9]
    = F3 [some S, x1, x2, some (.int nest), some (.lst true (zf5 (f :: fs))), some (.int i), some (.int m), some (.int (m % 13)), x8, x9] := by
  have hl : (zf5 (f :: fs)).length = (f :: fs).length := yd3 _
  have hn : ¬ (m % 13 = 4 /\ (1 : Int) < ((f :: fs).length : Int)) := fun z => hw4 ⟨z.1, fun e => by rw [e] at z; exact absurd z.2 (Int.lt_irrefl 1)⟩
  exact (yb5 (zx0 (xz1.trans (by rw [hl, xb5 (fun z => hw ⟨z.1, Int.ofNat_le.mp z.2⟩)])))).trans (yb5 (zx0 (wo5.trans (by rw [hl, xb5 hn]))))
theorem ws6 (hw : ¬ (m % 13 < 4 /\ (f :: fs).length <= nest)) (hw4 : ¬ (m % 13 = 4 /\ fs ≠ [])) (hw7 : m % 13 < 7) (hk : f.kd = 3) (hf : f.full.length < 3) :
    ifR GM GS GL [some S, x1, x2, some (.int nest), some (.lst true (zf5 (f :: fs))), some (.int i), some (.int m), some (.int (m % 13)), some (.str (kdS f.kd)), x9]
    = some (.nx, [some S, x1, x2, some (.int nest), some (.lst true (zf5 ({ f with full := f.full ++ [f.parts], parts := [] } :: fs))), some (.int i), some (.int m), some (.int (m % 13)), some (.str (kdS f.kd)), x9]) := by
  unfold ifR
  refine (xu2 hw hw4).trans ?_
  obtain ⟨kd, n, full, parts⟩ := f
  have hk' : kd = 3 := hk
  subst hk'
  have hz : (zf3 full).length < sizeLine := by rw [zu5]; exact sz1 (by have : full.length < 3 := hf; omega)
  have hf' : ((zf3 full).length : Int) < 3 := by rw [zu5]; exact Int.ofNat_lt.mpr hf
  have er : zf3 (full ++ [parts]) = zf3 full ++ [.tup (zb8 parts)] := by rw [ys3]; rfl
  have b3 : (decide (m % 13 < 7) && (decide (kdS 3 = "either") && decide (((zf3 full).length : Int) < 3))) = true := by rw [decide_eq_true hw7, decide_eq_true hf']; rfl
  have s1 := xp0 (p := [some S, x1, x2, some (.int nest), some (.lst true (zf5 (⟨3, n, full, parts⟩ :: fs))), some (.int i), some (.int m), some (.int (m % 13)), some (.str (kdS 3)), x9]) (j := 4) (k := 2) (n := 2) (M := zf5 fs) (fe := za7 zg1 (za1 (f2 dIx (f2 dIx (za0 4) (zk2 (fC (.int 1)))) (fC (.int 3))) za3)) rfl rfl rfl (zh1 (zb2 (zc5 (xu1 (M := zf5 fs) rfl) rfl (kc3 _ _ _ _)) rfl) (if_pos (zj3 parts))) hz
  rw [<- er] at s1
  have s2 := xz2 (p := [some S, x1, x2, some (.int nest), some (.lst true (zf5 fs ++ [.lst true [.str (kdS 3), .int n, .lst true (zf3 (full ++ [parts])), .lst true (zb8 parts)]])), some (.int i), some (.int m), some (.int (m % 13)), some (.str (kdS 3)), x9]) (j := 4) (k := 3) (n := 3) (M := zf5 fs) (fe := zd7 za3) (y := .lst true []) rfl rfl (zp7 rfl (Nat.le_of_ble_eq_true rfl))
  exact (zi5 (wo6.trans (congrArg some b3))).trans ((za4 s1).trans s2)
theorem wh3 {l : Leaf} {m2 : Int} (hm2 : GM [S, .int i, .int 32] = some (.int m2)) (hL : GL [.int m2] = some (zh0 l)) (hz : f.parts.length <= 900)
    (hw : ¬ (m % 13 < 4 /\ (f :: fs).length <= nest)) (hw4 : ¬ (m % 13 = 4 /\ fs ≠ [])) (h3 : ¬ (m % 13 < 7 /\ f.kd = 3 /\ f.full.length < 3)) (hkd : f.kd <= 3) :
    ifR GM GS GL [some S, x1, x2, some (.int nest), some (.lst true (zf5 (f :: fs))), some (.int i), some (.int m), some (.int (m % 13)), some (.str (kdS f.kd)), x9]
    = some (.nx, [some S, x1, x2, some (.int nest), some (.lst true (zf5 (zv9 f (.leaf l) :: fs))), some (.int i), some (.int m), some (.int (m % 13)), some (.str (kdS f.kd)), x9]) := by
  have hz' : (zb8 f.parts).length < sizeLine := by rw [yx5]; exact sz1 (by omega)
  have ep : zb8 (f.parts ++ [.leaf l]) = zb8 f.parts ++ [zh0 l] := by rw [yx4]; rfl
  have b3 : (decide (m % 13 < 7) && (decide (kdS f.kd = "either") && decide (((zf3 f.full).length : Int) < 3))) = false := by
    by_cases a1 : m % 13 < 7
    . rw [xb5, Bool.and_false]
      intro ⟨z1, z2⟩
      rw [zu5] at z2
      have hk : f.kd = 0 \/ f.kd = 1 \/ f.kd = 2 \/ f.kd = 3 := by omega
      rcases hk with e | e | e | e
      . rw [e] at z1; exact absurd z1 (by decide)
      . rw [e] at z1; exact absurd z1 (by decide)
      . rw [e] at z1; exact absurd z1 (by decide)
      . exact h3 ⟨a1, e, Int.ofNat_lt.mp z2⟩
    . rw [decide_eq_false a1, Bool.false_and]
  unfold ifR
  refine (xu2 hw hw4).trans ((yb5 (zx0 (wo6.trans (by rw [b3])))).trans ?_)
  have e : zf5 (zv9 f (.leaf l) :: fs) = zf5 fs ++ [.lst true [.str (kdS f.kd), .int f.n, .lst true (zf3 f.full), .lst true (zb8 f.parts ++ [zh0 l])]] := by rw [<- ep]; rfl
  rw [e]
  have s1 := xp0 (p := [some S, x1, x2, some (.int nest), some (.lst true (zf5 (f :: fs))), some (.int i), some (.int m), some (.int (m % 13)), some (.str (kdS f.kd)), x9]) (j := 4) (k := 3) (n := 3) (M := zf5 fs) (fe := za7 GL (za1 (za7 GM (za1 (za0 0) (za1 (za0 5) (za1 (fC (.int 32)) za3)))) za3)) rfl rfl rfl (zh1 (zb2 (zh1 (zb2 rfl (zb2 rfl (zb2 rfl rfl))) hm2) rfl) hL) hz'
  exact s1
end
end My
namespace My
open PySem PySem.Spec PyProof.Rows L2 L3
section
variable {GM : List D -> Option D} {GS : List D -> Option (D × List D)} {GL : List D -> Option D} {S : D} {x1 x2 x6 x7 x8 x9 : Option D} {nest k : Nat} {fs : List Gm} {i : Int}
theorem xz3 {f : Gm} {fs : List Gm} (h : xq2 (f :: fs)) : f.kd <= 3 := by
  cases fs with
  | nil => have : f.kd = 0 := h; omega
  | cons g fs => exact h.1.2
theorem ws7 (hS : ∀ (f g : Gm) (fs : List Gm), (1 <= f.kd /\ f.kd <= 3) -> (f.kd ≠ 3 -> f.full = []) -> f.full.length <= 3 -> g.parts.length <= 900 -> GS [.lst true (zf5 (f :: g :: fs))] = some (.non, [.lst true (zf5 (zv9 g (zo9 f) :: fs))]))
    (hL : ∀ m, 0 <= m -> ∃ l, GL [.int m] = some (zh0 l) /\ zs1 l) (hM : ∀ s : Int, s = 31 \/ s = 32 -> ∃ m, GM [S, .int i, .int s] = some (.int m) /\ 0 <= m) (h : GInv nest k fs) (hk : 4 * k + 4 <= 800) (hn : nest <= 100) :
    ∃ fs' y6 y7 y8 y9, yp9 GM GS GL [some S, x1, x2, some (.int nest), some (.lst true (zf5 fs)), some (.int i), x6, x7, x8, x9] = some (.nx, [some S, x1, x2, some (.int nest), some (.lst true (zf5 fs')), some (.int i), y6, y7, y8, y9]) /\ GInv nest (k + 1) fs' := by
  obtain ⟨m, hm, hm0⟩ := hM 31 (.inl rfl)
  obtain ⟨m2, hm2, hm20⟩ := hM 32 (.inr rfl)
  have hln := h.len
  cases fs with
  | nil => exact h.kinds.elim
  | cons f fs =>
    have hd := wg9 (GS := GS) (GL := GL) (x1 := x1) (x2 := x2) (x6 := x6) (x7 := x7) (x8 := x8) (x9 := x9) (nest := nest) (f := f) (fs := fs) hm
    by_cases c1 : m % 13 < 4 /\ (f :: fs).length <= nest
    . obtain ⟨kd, n, y9, q, h1, h2⟩ := wh1 (GM := GM) (GS := GS) (GL := GL) (S := S) (x1 := x1) (x2 := x2) (x8 := some (.str (kdS f.kd))) (x9 := x9) (i := i) c1.1 c1.2 (by omega)
      exact ⟨_, _, _, _, y9, hd.trans q, h.opener h1 h2 c1.2⟩
    . by_cases c2 : m % 13 = 4 /\ fs ≠ []
      . cases fs with
        | nil => exact absurd rfl c2.2
        | cons g fs =>
          have hf := h.each f List.mem_cons_self
          have hg := h.parts (f := g) (List.mem_cons_of_mem _ List.mem_cons_self)
          have q := wh2 (GM := GM) (GL := GL) (S := S) (x1 := x1) (x2 := x2) (x8 := some (.str (kdS f.kd))) (x9 := x9) (nest := nest) (i := i) (hS f g fs h.kinds.1 hf.2.2.2.1 hf.2.2.1 (by omega)) c2.1
          exact ⟨_, _, _, _, _, hd.trans q, h.shut.more (by omega)⟩
      . by_cases c3 : m % 13 < 7 /\ f.kd = 3 /\ f.full.length < 3
        . have q := ws6 (GM := GM) (GS := GS) (GL := GL) (S := S) (x1 := x1) (x2 := x2) (x9 := x9) (i := i) c1 c2 c3.1 c3.2.1 c3.2.2
          exact ⟨_, _, _, _, _, hd.trans q, h.orr c3.2.2 c3.2.1⟩
        . obtain ⟨l, hl, hlk⟩ := hL m2 hm20
          have q := wh3 (GM := GM) (GS := GS) (GL := GL) (S := S) (x1 := x1) (x2 := x2) (x9 := x9) (i := i) hm2 hl (by have := h.parts (f := f) List.mem_cons_self; omega) c1 c2 c3 (xz3 h.kinds)
          exact ⟨_, _, _, _, _, hd.trans q, h.leaf hlk⟩
theorem xu3 (hS : ∀ (f g : Gm) (fs : List Gm), (1 <= f.kd /\ f.kd <= 3) -> (f.kd ≠ 3 -> f.full = []) -> f.full.length <= 3 -> g.parts.length <= 900 -> GS [.lst true (zf5 (f :: g :: fs))] = some (.non, [.lst true (zf5 (zv9 g (zo9 f) :: fs))]))
    (hL : ∀ m, 0 <= m -> ∃ l, GL [.int m] = some (zh0 l) /\ zs1 l) (hn : nest <= 100) : ∀ (l : List Int) (fs : List Gm) (k : Nat) (x5 x6 x7 x8 x9 : Option D), (∀ j ∈ l, ∀ s : Int, s = 31 \/ s = 32 -> ∃ m, GM [S, .int j, .int s] = some (.int m) /\ 0 <= m) -> GInv nest k fs -> 4 * (k + l.length) + 4 <= 800 ->
    ∃ fs' y5 y6 y7 y8 y9, zk9 5 (yp9 GM GS GL) (l.map .int) [some S, x1, x2, some (.int nest), some (.lst true (zf5 fs)), x5, x6, x7, x8, x9] = some (.nx, [some S, x1, x2, some (.int nest), some (.lst true (zf5 fs')), y5, y6, y7, y8, y9]) /\ GInv nest (k + l.length) fs'
  | [], fs, k, x5, x6, x7, x8, x9, _, h, _ => ⟨fs, x5, x6, x7, x8, x9, by simp [za9, zc1, zb4, za5, fIf, za8, fB, f2, za0, fC, zb7, zd3, zc3, za1, za3, zd7, za7, dB, dIx, ze3, dGt, D.imm, D.imms, zg1, zc6, fT, ze7, zg6, zf4, zj7, fIO, zc4, zi7, zs4, zk9], h⟩
  | j :: l, fs, k, x5, x6, x7, x8, x9, hM, h, hk => by
    rw [List.length_cons] at hk
    obtain ⟨fs1, y6, y7, y8, y9, q, h1⟩ := ws7 (x1 := x1) (x2 := x2) (x6 := x6) (x7 := x7) (x8 := x8) (x9 := x9) hS hL (hM j List.mem_cons_self) h (by omega) hn
    obtain ⟨fs2, z5, z6, z7, z8, z9, q2, h2⟩ := xu3 hS hL hn l fs1 (k + 1) (some (.int j)) y6 y7 y8 y9 (fun i hi => hM i (List.mem_cons_of_mem _ hi)) h1 (by omega)
    refine ⟨fs2, z5, z6, z7, z8, z9, ?_, (show k + 1 + l.length = k + (j :: l).length by rw [List.length_cons]; omega) ▸ h2⟩
    rw [<- q2]
    show (yp9 GM GS GL [some S, x1, x2, some (.int nest), some (.lst true (zf5 fs)), some (.int j), x6, x7, x8, x9]).bind _ = _
    rw [q]; rfl
noncomputable def xd2 (GS : List D -> Option (D × List D)) (n : Nat) : PSt -> Option (Fl × PSt) := zv7 (za8 (fB (f2 dGt (za7 ze3 (za1 (za0 4) za3)) (fC (.int 1))))) (zc3 (fIO [.io 4] GS)) n
theorem xu4 {x0 x3 x5 : Option D} (hS : ∀ (f g : Gm) (fs : List Gm), (1 <= f.kd /\ f.kd <= 3) -> (f.kd ≠ 3 -> f.full = []) -> f.full.length <= 3 -> g.parts.length <= 900 -> GS [.lst true (zf5 (f :: g :: fs))] = some (.non, [.lst true (zf5 (zv9 g (zo9 f) :: fs))])) (hk : 4 * k + 4 <= 800) :
    ∀ (n : Nat) (fs : List Gm), fs.length <= n -> GInv nest k fs -> ∃ f, xd2 GS n [x0, x1, x2, x3, some (.lst true (zf5 fs)), x5, x6, x7, x8, x9] = some (.nx, [x0, x1, x2, x3, some (.lst true (zf5 [f])), x5, x6, x7, x8, x9]) /\ GInv nest k [f]
  | 0, [], _, h => h.kinds.elim
  | 0, _ :: _, hl, _ => by simp [za9, zc1, zb4, za5, fIf, za8, fB, f2, za0, fC, zb7, zd3, zc3, za1, za3, zd7, za7, dB, dIx, ze3, dGt, D.imm, D.imms, zg1, zc6, fT, ze7, zg6, zf4, zj7, fIO, zc4, zi7, zs4] at hl
  | n + 1, [], _, h => h.kinds.elim
  | n + 1, [f], _, h => by
    refine ⟨f, ?_, h⟩
    unfold xd2
    rw [zv7]
    have hl : (zf5 [f]).length = 1 := rfl
    generalize zf5 [f] = N at hl |-
    simp [za9, zc1, zb4, za5, fIf, za8, fB, f2, za0, fC, zb7, zd3, zc3, za1, za3, zd7, za7, dB, dIx, ze3, dGt, D.imm, D.imms, zg1, zc6, fT, ze7, zg6, zf4, zj7, fIO, zc4, zi7, zs4, hl]
  | n + 1, f :: g :: fs, hl, h => by
    have hf := h.each f List.mem_cons_self
    have hg := h.parts (f := g) (List.mem_cons_of_mem _ List.mem_cons_self)
    have q := hS f g fs h.kinds.1 hf.2.2.2.1 hf.2.2.1 (by omega)
    obtain ⟨f', w, h'⟩ := xu4 (x0 := x0) (x3 := x3) (x5 := x5) hS hk n (zv9 g (zo9 f) :: fs) (by simp [za9, zc1, zb4, za5, fIf, za8, fB, f2, za0, fC, zb7, zd3, zc3, za1, za3, zd7, za7, dB, dIx, ze3, dGt, D.imm, D.imms, zg1, zc6, fT, ze7, zg6, zf4, zj7, fIO, zc4, zi7, zs4] at hl |-; omega) h.shut
    refine ⟨f', ?_, h'⟩
    rw [<- w]
    have hl2 : (zf5 (f :: g :: fs)).length = fs.length + 1 + 1 := by rw [yd3]; rfl
    have hpos : (1 : Int) < ((fs.length : Int) + 1 + 1) := by omega
    show zv7 _ _ (n + 1) _ = _
    rw [zv7]
    generalize zf5 (f :: g :: fs) = N at q hl2 |-
    generalize zf5 (zv9 g (zo9 f) :: fs) = M at q |-
    simp [za9, zc1, zb4, za5, fIf, za8, fB, f2, za0, fC, zb7, zd3, zc3, za1, za3, zd7, za7, dB, dIx, ze3, dGt, D.imm, D.imms, zg1, zc6, fT, ze7, zg6, zf4, zj7, fIO, zc4, zi7, zs4, hl2, hpos, q, xd2]
noncomputable def kf3 (n : Nat) (GM : List D -> Option D) (GS : List D -> Option (D × List D)) (GL : List D -> Option D) : PSt -> Option (Fl × PSt) :=
  za9 (zb4 4 (za5 (zd7 (za1 (zd7 (za1 (fC (.str "top")) (za1 (fC (.int 0)) (za1 (zd7 za3) (za1 (zd7 za3) za3))))) za3)))) (za9 (zq1 5 (yu8 (za1 (za0 1) (za1 (f2 zc6 (za0 1) (za0 2)) za3))) (yp9 GM GS GL)) (za9 (xd2 GS n) (zd3 (za5 (za7 zg1 (za1 (f2 dIx (f2 dIx (za0 4) (fC (.int 0))) (fC (.int 3))) za3))))))
structure RowOk (nest w : Nat) (r : List Pc) : Prop where
  ok : okR r
  dep : zh8 r <= nest
  len : (zd6 r).length <= w
theorem ka9 {a many n : Nat} (hS : ∀ (f g : Gm) (fs : List Gm), (1 <= f.kd /\ f.kd <= 3) -> (f.kd ≠ 3 -> f.full = []) -> f.full.length <= 3 -> g.parts.length <= 900 -> GS [.lst true (zf5 (f :: g :: fs))] = some (.non, [.lst true (zf5 (zv9 g (zo9 f) :: fs))]))
    (hL : ∀ m, 0 <= m -> ∃ l, GL [.int m] = some (zh0 l) /\ zs1 l) (hM : ∀ j s : Int, (a : Int) <= j /\ j < a + many -> s = 31 \/ s = 32 -> ∃ m, GM [S, .int j, .int s] = some (.int m) /\ 0 <= m) (hn : nest <= 100) (hmany : many <= 90) (ha : a <= 1000) (hnn : nest < n) :
    ∃ r, gP 4 6 (kf3 n GM GS GL) [S, .int a, .int many, .int nest] = some (.tup (zb8 r)) /\ RowOk nest (4 * many) r := by
  have i0 : GInv nest 0 [⟨0, 0, [], []⟩] := ⟨by simp [za9, zc1, zb4, za5, fIf, za8, fB, f2, za0, fC, zb7, zd3, zc3, za1, za3, zd7, za7, dB, dIx, ze3, dGt, D.imm, D.imms, zg1, zc6, fT, ze7, zg6, zf4, zj7, fIO, zc4, zi7, zs4], by decide, fun f hf => by rw [List.mem_singleton.mp hf]; exact ⟨trivial, trivial, Nat.zero_le _, fun _ => rfl, Int.le_refl _, by decide⟩, rfl, ⟨Nat.zero_le _, Nat.zero_le _, trivial⟩⟩
  obtain ⟨fs1, y5, y6, y7, y8, y9, q, h1⟩ := xu3 (GM := GM) (GS := GS) (GL := GL) (S := S) (x1 := some (.int a)) (x2 := some (.int many)) hS hL hn ((List.range many).map fun (k : Nat) => (a : Int) + (k : Int)) [⟨0, 0, [], []⟩] 0 none none none none none
    (fun j hj s hs => by obtain ⟨k, hk, rfl⟩ := List.mem_map.mp hj; have := List.mem_range.mp hk; exact hM _ s (by omega) hs) i0 (by simp; omega)
  rw [<- wx0] at q
  rw [List.length_map, List.length_range, Nat.zero_add] at h1
  have hln := h1.len
  obtain ⟨f, w, h2⟩ := xu4 (GS := GS) (x0 := some S) (x1 := some (.int a)) (x2 := some (.int many)) (x3 := some (.int nest)) (x5 := y5) (x6 := y6) (x7 := y7) (x8 := y8) (x9 := y9) hS (by omega) n fs1 (by omega) h1
  have hf := h2.each f List.mem_cons_self
  have hd := h2.deep.1
  have hwt : wF f + 0 <= 4 * many + 4 := h2.wt
  refine ⟨f.parts, ?_, hf.2.1, by simpa using hd, by unfold wF at hwt; omega⟩
  have e : ((a : Int) + (many : Int) - (a : Int)).toNat = many := by omega
  have s0 : zb4 4 (za5 (zd7 (za1 (zd7 (za1 (fC (.str "top")) (za1 (fC (.int 0)) (za1 (zd7 za3) (za1 (zd7 za3) za3))))) za3))) [some S, some (.int a), some (.int many), some (.int nest), none, none, none, none, none, none] = some (.nx, [some S, some (.int a), some (.int many), some (.int nest), some (.lst true (zf5 [⟨0, 0, [], []⟩])), none, none, none, none, none]) := zh3 rfl
  have s1 : zq1 5 (yu8 (za1 (za0 1) (za1 (f2 zc6 (za0 1) (za0 2)) za3))) (yp9 GM GS GL) [some S, some (.int a), some (.int many), some (.int nest), some (.lst true (zf5 [⟨0, 0, [], []⟩])), none, none, none, none, none] = some (.nx, [some S, some (.int a), some (.int many), some (.int nest), some (.lst true (zf5 fs1)), y5, y6, y7, y8, y9]) := by
    have e1 : za1 (za0 1) (za1 (f2 zc6 (za0 1) (za0 2)) za3) [some S, some (.int a), some (.int many), some (.int nest), some (.lst true (zf5 [⟨0, 0, [], []⟩])), none, none, none, none, none] = some [.int a, .int ((a : Int) + (many : Int))] := rfl
    unfold zq1 yu8
    rw [e1, Option.bind_some, wr8 (by omega) (by omega) (by omega) (by omega), e]
    exact q
  have s3 : za7 zg1 (za1 (f2 dIx (f2 dIx (za0 4) (fC (.int 0))) (fC (.int 3))) za3) [some S, some (.int a), some (.int many), some (.int nest), some (.lst true (zf5 [f])), y5, y6, y7, y8, y9] = some (.tup (zb8 f.parts)) := by
    show za7 zg1 (za1 (f2 dIx (f2 dIx (za0 4) (fC (.int 0))) (fC (.int 3))) za3) [some S, some (.int a), some (.int many), some (.int nest), some (.lst true [.lst true [.str (kdS f.kd), .int f.n, .lst true (zf3 f.full), .lst true (zb8 f.parts)]]), y5, y6, y7, y8, y9] = _
    simp [za9, zc1, zb4, za5, fIf, za8, fB, f2, za0, fC, zb7, zd3, zc3, za1, za3, zd7, za7, dB, dIx, ze3, dGt, D.imm, D.imms, zg1, zc6, fT, ze7, zg6, zf4, zj7, fIO, zc4, zi7, zs4, zj3]
  have z := (za4 s0).trans ((za4 s1).trans ((za4 w).trans (zl3 s3)))
  exact zw9 rfl z
end
noncomputable abbrev xq4 (GM GL : List D -> Option D) : List D -> Option D := gP 4 6 (xq0 GM xc9 GL)
theorem wx7 {GM GL : List D -> Option D} {S : D} {nest a many : Nat} (hL : ∀ m, 0 <= m -> ∃ l, GL [.int m] = some (zh0 l) /\ zs1 l) (hM : ∀ j s : Int, (a : Int) <= j /\ j < a + many -> s = 31 \/ s = 32 -> ∃ m, GM [S, .int j, .int s] = some (.int m) /\ 0 <= m) (hn : nest <= 100) (hmany : many <= 90) (ha : a <= 1000) :
    ∃ r, xq4 GM GL [S, .int a, .int many, .int nest] = some (.tup (zb8 r)) /\ RowOk nest (4 * many) r := by
  obtain ⟨r, h1, h2⟩ := ka9 (n := 400) (GS := xc9) (fun f g fs h1 h2 h3 h4 => wl7 h1 h2 h3 h4) hL hM hn hmany ha (Nat.lt_of_le_of_lt hn (by decide))
  exact ⟨r, h1, h2⟩
end My
namespace My
open PySem PySem.Spec PyProof.Rows L2 L3
theorem xp1 {m : Int} : ∀ (l : List Int) (w : Str) (x2 x4 x5 : Option D), (∀ j ∈ l, 0 <= j /\ j < 100) -> w.length + l.length <= 100 -> w.cps.toList.all yp4 = true ->
    ∃ w' x4' x5', zk9 4 (za9 (zb4 5 (za5 (f2 zc6 (f2 zt3 (za0 0) (fC (.int 12))) (f2 zp3 (za0 4) (f2 zl4 (f2 zt3 (za0 0) (fC (.int 9000))) (fC (.int 93))))))) (zb4 3 (za5 (f2 zc6 (za0 3) (f2 dIx (za0 1) (f2 zl4 (za0 5) (fC (.int 93)))))))) (l.map .int) [some (.int m), some (.str sg), x2, some (.str w), x4, x5]
      = some (.nx, [some (.int m), some (.str sg), x2, some (.str w'), x4', x5']) /\ w'.length = w.length + l.length /\ w'.cps.toList.all yp4 = true
  | [], w, x2, x4, x5, _, _, hw => ⟨w, x4, x5, by simp [gP, za9, zc1, zb4, za5, fIf, za8, fB, f2, za0, fC, zb7, zd3, zi6, za1, za3, zd7, zg7, fKs, za7, dEq, dNe, eqB, dB, dIx, ze3, zq1, zv2, D.imm, D.imms, zg1, zc6, zp3, fT, ze7, zd0, zg6, zf4, zj7, dLt, dLe, dGt, dGe, zh6, zh9, zw4, ye3, D.flat, zx5, zk9], rfl, hw⟩
  | j :: l, w, x2, x4, x5, hj, hl, hw => by
    rw [List.length_cons] at hl
    have hj0 := hj j List.mem_cons_self
    obtain ⟨c, hc, hg⟩ := ka5 ((m / 12 + j * (m / 9000 % 93)) % 93) (Int.emod_nonneg _ (by decide)) (Int.emod_lt_of_pos _ (by decide))
    have hw1 : (w ++ (⟨#[c]⟩ : Str)).length = w.length + 1 := by rw [zi1]; rfl
    obtain ⟨w', x4', x5', q1, q2, q3⟩ := xp1 (m := m) l (w ++ ⟨#[c]⟩) x2 (some (.int j)) (some (.int (m / 12 + j * (m / 9000 % 93)))) (fun i hi => hj i (List.mem_cons_of_mem _ hi)) (by rw [hw1]; omega) (by rw [zg0, List.all_append, hw]; simp [gP, za9, zc1, zb4, za5, fIf, za8, fB, f2, za0, fC, zb7, zd3, zi6, za1, za3, zd7, zg7, fKs, za7, dEq, dNe, eqB, dB, dIx, ze3, zq1, zv2, D.imm, D.imms, zg1, zc6, zp3, fT, ze7, zd0, zg6, zf4, zj7, dLt, dLe, dGt, dGe, zh6, zh9, zw4, ye3, D.flat, zx5, hg])
    refine ⟨w', x4', x5', ?_, by rw [q2, hw1, List.length_cons]; omega, q3⟩
    rw [<- q1]
    have hz : w.length + (⟨#[c]⟩ : Str).length <= sizeLine := sz (by show w.length + 1 <= 1000; omega)
    have b1 : (-18446744073709551616 < j /\ j < 18446744073709551616) := by omega
    simp [gP, za9, zc1, zb4, za5, fIf, za8, fB, f2, za0, fC, zb7, zd3, zi6, za1, za3, zd7, zg7, fKs, za7, dEq, dNe, eqB, dB, dIx, ze3, zq1, zv2, D.imm, D.imms, zg1, zc6, zp3, fT, ze7, zd0, zg6, zf4, zj7, dLt, dLe, dGt, dGe, zh6, zh9, zw4, ye3, D.flat, zx5, zk9, hc, wr5, hz, b1]
noncomputable abbrev xk7 : List D -> Option D := gP 1 5 ys7
theorem ws8 {m : Int} (hm : 0 <= m) : ∃ z, xk7 [.int m] = some (.str z) /\ xc1 z := by
  obtain ⟨s, hs, h1, h2⟩ := wr6 m
  obtain ⟨w, x4, x5, q1, q2, q3⟩ := xp1 (m := m) ((List.range s.toNat).map fun (k : Nat) => (k : Int)) "" (some (.int s)) none none
    (fun j hj => by obtain ⟨k, hk, rfl⟩ := List.mem_map.mp hj; have := List.mem_range.mp hk; omega) (by rw [List.length_map, List.length_range]; show 0 + _ <= 100; omega) (by decide +kernel)
  rw [<- ww8] at q1
  rw [List.length_map, List.length_range] at q2
  have q2' : w.length = s.toNat := by rw [q2]; show 0 + _ = _; omega
  refine ⟨w, ?_, by omega, by omega, q3⟩
  have hz : (Str.ofString "abcdefghijklmnopqrstuvwxyzABCDEFGHIJKLMNOPQRSTUVWXYZ0123456789").length + (Str.ofString "!\"#$&'()*+,-./:;<=>?\x40[\\]^_`{|}~").length <= sizeLine := by decide +kernel
  have e1 : Str.ofString "abcdefghijklmnopqrstuvwxyzABCDEFGHIJKLMNOPQRSTUVWXYZ0123456789" ++ Str.ofString "!\"#$&'()*+,-./:;<=>?\x40[\\]^_`{|}~" = sg := rfl
  have b1 : (-4611686018427387904 <= s /\ s < 4611686018427387904) := by omega
  simp [gP, za9, zc1, zb4, za5, fIf, za8, fB, f2, za0, fC, zb7, zd3, zi6, za1, za3, zd7, zg7, fKs, za7, dEq, dNe, eqB, dB, dIx, ze3, zq1, zv2, D.imm, D.imms, zg1, zc6, zp3, fT, ze7, zd0, zg6, zf4, zj7, dLt, dLe, dGt, dGe, zh6, zh9, zw4, ye3, D.flat, zx5, ys7, hz, e1, hs, q1, b1]
noncomputable abbrev yv4 : List D -> Option D := gP 1 1 (zx9 xk7)
theorem ws9 {m : Int} (hm : 0 <= m) : ∃ l, yv4 [.int m] = some (zh0 l) /\ zs1 l := by
  have hd : 0 <= m / 16 := Int.ediv_nonneg hm (by decide)
  by_cases c1 : m % 16 < 8
  . obtain ⟨z, q, hz⟩ := ws8 hd
    refine ⟨.word z, ?_, hz⟩
    show gP 1 1 (zx9 xk7) _ = _
    generalize xk7 = G at q
    simp [gP, za9, zc1, zb4, za5, fIf, za8, fB, f2, za0, fC, zb7, zd3, zi6, za1, za3, zd7, zg7, fKs, za7, dEq, dNe, eqB, dB, dIx, ze3, zq1, zv2, D.imm, D.imms, zg1, zc6, zp3, fT, ze7, zd0, zg6, zf4, zj7, dLt, dLe, dGt, dGe, zh6, zh9, zw4, ye3, D.flat, zx5, zx9, c1, q, zh0]
  . by_cases c2 : m % 16 < 13
    . obtain ⟨x, q, hx⟩ := ww9 (m / 16)
      exact ⟨.gap x, by simp [gP, za9, zc1, zb4, za5, fIf, za8, fB, f2, za0, fC, zb7, zd3, zi6, za1, za3, zd7, zg7, fKs, za7, dEq, dNe, eqB, dB, dIx, ze3, zq1, zv2, D.imm, D.imms, zg1, zc6, zp3, fT, ze7, zd0, zg6, zf4, zj7, dLt, dLe, dGt, dGe, zh6, zh9, zw4, ye3, D.flat, zx5, zx9, c1, c2, q, zh0], hx⟩
    . by_cases c3 : m % 16 = 13
      . exact ⟨.fin, by simp [gP, za9, zc1, zb4, za5, fIf, za8, fB, f2, za0, fC, zb7, zd3, zi6, za1, za3, zd7, zg7, fKs, za7, dEq, dNe, eqB, dB, dIx, ze3, zq1, zv2, D.imm, D.imms, zg1, zc6, zp3, fT, ze7, zd0, zg6, zf4, zj7, dLt, dLe, dGt, dGe, zh6, zh9, zw4, ye3, D.flat, zx5, zx9, c1, c2, c3, zh0], trivial⟩
      . have ha := Int.emod_nonneg (m / 16 / 2) (show (10 : Int) ≠ 0 by decide)
        have hb := Int.emod_lt_of_pos (m / 16 / 2) (show (0 : Int) < 10 by decide)
        have hc := Int.emod_nonneg (m / 16 / 2) (show (41 : Int) ≠ 0 by decide)
        have hd := Int.emod_lt_of_pos (m / 16 / 2) (show (0 : Int) < 41 by decide)
        obtain ⟨c, q, h1, h2⟩ := wr7 (m / 16 / 2 % 10) (m / 16 / 2 % 41) (m / 16) (by omega) (by omega)
        exact ⟨.stop c, by simp [gP, za9, zc1, zb4, za5, fIf, za8, fB, f2, za0, fC, zb7, zd3, zi6, za1, za3, zd7, zg7, fKs, za7, dEq, dNe, eqB, dB, dIx, ze3, zq1, zv2, D.imm, D.imms, zg1, zc6, zp3, fT, ze7, zd0, zg6, zf4, zj7, dLt, dLe, dGt, dGe, zh6, zh9, zw4, ye3, D.flat, zx5, zx9, c1, c2, c3, q, zh0], h1, h2⟩
end My
namespace My
open PySem PySem.Spec PyProof.Rows L2 L3
theorem wh4 {GM GC : List D -> Option D} {S : D} {k1 k2 nest a many : Nat} (h1 : nest < k1) (h2 : nest < k2) (hn : nest <= 8) (hmany : many <= 90) (ha : a + many <= 1000) (hS : S.imm = true) (hM : ∀ j s : Int, 0 <= j -> j < 1000 -> 0 <= s -> s < 1000 -> ∃ a, GM [S, .int j, .int s] = some (.int a) /\ 0 <= a) (hC : ∀ j : Int, 0 <= j -> j < 1000 -> ∃ a, GC [S, .int j] = some (.int a)) :
    ∃ r, xq4 GM yv4 [S, .int a, .int many, .int nest] = some (.tup (zb8 r)) /\ RowOk nest (4 * many) r /\ ∀ salt : Int, 0 <= salt -> salt <= 900 ->
      ∃ C t, ym6 (zz7 (ye6 GM GC) k1) [S, .tup (zb8 r), .int salt] = some (.tup [.str t, .tup (zd2 C)]) /\ zk6 true 0 r C ⟨#[]⟩ = some ([], t) /\ C.length <= 360 /\ ym5 k2 [.tup (zb8 r), .tup (zd2 C)] = some (.str t) /\ t.length <= 900000 := by
  obtain ⟨r, qr, hr⟩ := wx7 (GM := GM) (GL := yv4) (S := S) (nest := nest) (a := a) (many := many) (fun m hm => ws9 hm) (fun j s hj hs => hM j s (by omega) (by omega) (by omega) (by omega)) (Nat.le_trans hn (by decide)) hmany (by omega)
  have hdr : yv3 S (ye6 GM GC) := fun t cs n many salt h1 h2 h3 h4 h5 => ws3 hM hC h1 h2 h3 h4 h5
  have hLR := xt9 hS hdr k1 r (Nat.lt_of_le_of_lt hr.dep h1) hr.ok
  have h8 := Nat.le_trans hr.dep hn
  have hl : (zd6 r).length <= 360 := Nat.le_trans hr.len (by omega)
  have hl8 : (zd6 r).length <= 800 := Nat.le_trans hl (by decide)
  refine ⟨r, qr, hr, fun salt s0 s1 => ?_⟩
  obtain ⟨C, t, d, g, len, ht⟩ := wm7 (S := S) hS hLR h8 hl8 s0 s1
  exact ⟨C, t, d, g, Nat.le_trans len hl, wg4 (n := k2) (Nat.lt_of_le_of_lt hr.dep h2) (Nat.le_trans h8 (by decide)) hr.ok hl8 g, ht⟩
end My
namespace My
open PySem PySem.Spec PyProof.Rows L2 L3
noncomputable def ink (l : List Nat) : List Nat := l.filter fun c => c != 10 && c != 32
theorem xf7 (a b : List Nat) : ink (a ++ b) = ink a ++ ink b := List.filter_append ..
theorem wh5 {l : List Nat} (h1 : (10 : Nat) ∉ l) (h2 : (32 : Nat) ∉ l) : ink l = l := List.filter_eq_self.mpr fun a ha => by
  simp only [Bool.and_eq_true, bne_iff_ne, ne_eq]
  exact ⟨fun e => h1 (e ▸ ha), fun e => h2 (e ▸ ha)⟩
theorem yo4 {c : Nat} (hc : c = 10 \/ c = 32) : ∀ ys : List Str, ink (Str.join ⟨#[c]⟩ ys).cps.toList = (ys.map fun y => ink y.cps.toList).flatten
  | [] => rfl
  | [x] => by show ink x.cps.toList = _; simp
  | x :: y :: r => by
    rw [yn8, xf7, List.map_cons, List.flatten_cons, <- yo4 hc (y :: r)]
    congr 1
    rcases hc with rfl | rfl <;> rfl
theorem xp2 : ∀ ys : List Str, (Str.join ⟨#[]⟩ ys).cps.toList = (ys.map fun y => y.cps.toList).flatten
  | [] => rfl
  | [x] => by show x.cps.toList = _; simp
  | x :: y :: r => by
    show ((x ++ ⟨#[]⟩) ++ Str.join ⟨#[]⟩ (y :: r)).cps.toList = _
    rw [zg0, zg0, xp2 (y :: r), List.map_cons (l := y :: r), List.flatten_cons]
    simp
theorem yo5 {c : Nat} : ∀ ys : List Str, ys ≠ [] -> (Str.join ⟨#[c]⟩ ys).length + 1 = (ys.map (·.length)).sum + ys.length
  | [], h => absurd rfl h
  | [x], _ => by show x.length + 1 = _; simp
  | x :: y :: r, _ => by
    have e := yo5 (c := c) (y :: r) (by simp)
    have j := congrArg List.length (yn8 (c := c) x y r)
    rw [List.length_append, List.length_cons, <- zt2, <- zt2, <- zt2] at j
    rw [List.map_cons, List.sum_cons, List.length_cons, j]
    omega
theorem xp3 {c d : Nat} (hd : d ≠ c) : ∀ {ys : List Str} {p : Str}, p ∈ ys -> d ∈ p.cps.toList -> d ∈ (Str.join ⟨#[c]⟩ ys).cps.toList
  | [x], p, hp, h => by rw [List.mem_singleton.mp hp] at h; exact h
  | x :: y :: r, p, hp, h => by
    rw [yn8]
    rcases List.mem_cons.mp hp with e | hp
    . exact List.mem_append_left _ (e ▸ h)
    . exact List.mem_append_right _ (List.mem_cons_of_mem _ (xp3 hd hp h))
theorem xi9 {c d : Nat} (hd : d ≠ c) : ∀ {ys : List Str}, d ∈ (Str.join ⟨#[c]⟩ ys).cps.toList -> ∃ p ∈ ys, d ∈ p.cps.toList
  | [], h => absurd h (by simp [Str.join, Str.empty])
  | [x], h => ⟨x, List.mem_singleton_self x, h⟩
  | x :: y :: r, h => by
    rw [yn8] at h
    rcases List.mem_append.mp h with h | h
    . exact ⟨x, List.mem_cons_self, h⟩
    . rcases List.mem_cons.mp h with h | h
      . exact absurd h hd
      . obtain ⟨p, h1, h2⟩ := xi9 hd h
        exact ⟨p, List.mem_cons_of_mem _ h1, h2⟩
theorem wm9 (x : Str) : 1 <= Builtin.Str.strKind x := by
  unfold Builtin.Str.strKind
  split
  . exact Nat.le_refl _
  . split <;> decide
theorem xp4 (x y : Str) : Txt.split x y ≠ [] := fun z => by
  have := split_pos x y
  rw [z] at this
  exact absurd this (by decide)
theorem wt0 (t : Str) : Txt.replace t ⟨#[10]⟩ ⟨#[32]⟩ = Str.join ⟨#[32]⟩ (Txt.split t ⟨#[10]⟩) := by
  have hk : Builtin.Str.strKind ⟨#[10]⟩ = 1 := by decide +kernel
  have k1 := wm9 t
  have r1 : Txt.replace t ⟨#[10]⟩ ⟨#[32]⟩ = if (Builtin.Str.occurrences t ⟨#[10]⟩ 0 t.length (t.length + 1)).isEmpty = true then t else Builtin.Str.glued ⟨#[32]⟩ (Builtin.Str.partsBetween t (Builtin.Str.occurrences t ⟨#[10]⟩ 0 t.length (t.length + 1)) (⟨#[10]⟩ : Str).length) := by
    unfold Txt.replace
    rw [show ((⟨#[10]⟩ : Str).length == 0 && (⟨#[32]⟩ : Str).length == 0) = false from rfl, Bool.or_false]
  rw [r1]
  by_cases h0 : t.length < 1
  . have e0 : t.length = 0 := by omega
    have hn : (Builtin.Str.occurrences t ⟨#[10]⟩ 0 t.length (t.length + 1)).isEmpty = true := by
      have := StrLaws.found_iff t ⟨#[10]⟩
      rw [e0, Nat.zero_add] at *
      cases q : (Builtin.Str.occurrences t ⟨#[10]⟩ 0 0 1).isEmpty with
      | true => rfl
      | false =>
        rw [q] at this
        obtain ⟨i, h, _⟩ := this.mp rfl
        exact absurd h (by show ¬ (i + 1 <= 0); omega)
    have c : (decide (t.length < (⟨#[10]⟩ : Str).length) || decide (Builtin.Str.strKind t < Builtin.Str.strKind ⟨#[10]⟩)) = true := by
      rw [decide_eq_true (show t.length < (⟨#[10]⟩ : Str).length from h0)]; rfl
    unfold Txt.split
    rw [if_pos hn, if_pos c]; rfl
  . have c : (decide (t.length < (⟨#[10]⟩ : Str).length) || decide (Builtin.Str.strKind t < Builtin.Str.strKind ⟨#[10]⟩)) = false := by
      rw [decide_eq_false (show ¬ t.length < (⟨#[10]⟩ : Str).length from h0), hk, decide_eq_false (by omega)]; rfl
    have s1 : Txt.split t ⟨#[10]⟩ = if (Builtin.Str.occurrences t ⟨#[10]⟩ 0 t.length (t.length + 1)).isEmpty = true then [t] else Builtin.Str.partsBetween t (Builtin.Str.occurrences t ⟨#[10]⟩ 0 t.length (t.length + 1)) (⟨#[10]⟩ : Str).length := by
      unfold Txt.split
      rw [c]; rfl
    rw [s1]
    split
    . rfl
    . exact StrLaws.glued_eq_join _ _
theorem wo7 (t : Str) : (Txt.join "" (Txt.split (Txt.replace t "\n" " ") " ")).cps.toList = ink t.cps.toList /\ ((Txt.split (Txt.replace t "\n" " ") " ").map (·.length)).sum + (Txt.split (Txt.replace t "\n" " ") " ").length = t.length + 1 /\ (Txt.replace t "\n" " ").length = t.length := by
  rw [xa8, xk0, wt0]
  have hY := StrLaws.join_split t ⟨#[10]⟩
  have fY := StrLaws.split_free t 10
  have nY := xp4 t ⟨#[10]⟩
  generalize Txt.split t ⟨#[10]⟩ = Y at *
  have l1 := yo5 (c := 10) Y nY
  have l2 := yo5 (c := 32) Y nY
  have i1 := yo4 (c := 10) (.inl rfl) Y
  have i2 := yo4 (c := 32) (.inr rfl) Y
  have no : (10 : Nat) ∉ (Str.join ⟨#[32]⟩ Y).cps.toList := fun h => by
    obtain ⟨p, h1, h2⟩ := xi9 (by decide) h
    exact fY p h1 h2
  rw [hY] at l1 i1
  generalize Str.join ⟨#[32]⟩ Y = R at *
  have hZ := StrLaws.join_split R ⟨#[32]⟩
  have fZ := StrLaws.split_free R 32
  have nZ := xp4 R ⟨#[32]⟩
  generalize Txt.split R ⟨#[32]⟩ = Z at *
  have l3 := yo5 (c := 32) Z nZ
  have i3 := yo4 (c := 32) (.inr rfl) Z
  have m3 : ∀ p ∈ Z, (10 : Nat) ∉ p.cps.toList := fun p hp h => by
    have := xp3 (c := 32) (by decide) hp h
    rw [hZ] at this
    exact no this
  rw [hZ] at l3 i3
  refine ⟨?_, by omega, by omega⟩
  have e : Txt.join "" Z = Str.join ⟨#[]⟩ Z := by
    rw [show ("" : Str) = ⟨#[]⟩ from by decide +kernel]
    exact StrLaws.glued_eq_join _ _
  rw [e, xp2, i1, <- i2, i3]
  congr 1
  exact List.map_congr_left fun p hp => (wh5 (m3 p hp) (fZ p hp)).symm
theorem xu5 (n : Int) : ink (Txt.mul " " n).cps.toList = [] := by
  rw [yn9]
  exact List.filter_eq_nil_iff.mpr fun a ha => by rw [(List.mem_replicate.mp ha).2]; decide
theorem xf8 (m : Int) : ink (nlw m).cps.toList = [] := by
  unfold nlw
  rw [zg0, xf7, xu5]; rfl
theorem wn0 {x : Str} (h : xc1 x) : ink x.cps.toList = x.cps.toList := wh5 (xt3 h) fun hm => by
  have := List.all_eq_true.mp h.2.2 _ hm
  simp [yp4] at this
noncomputable def xq5 : Leaf -> Str
  | .word x => x
  | _ => ⟨#[]⟩
theorem wx8 {b : Bool} {m : Int} {k : Nat} {l : Leaf} {w : Str} (hl : zs1 l) (h : wr b m k l = some w) : ink w.cps.toList = (xq5 l).cps.toList := by
  cases l with
  | word x => cases h; exact wn0 hl
  | gap x =>
    cases b with
    | true => cases h; exact xf8 m
    | false =>
      have e : x = w := by simpa [wr] using h
      subst e
      rcases (hl : x = "" \/ x = " ") with rfl | rfl
      . rw [show ("" : Str) = ⟨#[]⟩ from by decide +kernel]; rfl
      . rw [xk0]; rfl
  | stop c =>
    change (if (k : Int) <= c then some (Txt.mul " " (c - k)) else if b = true then some (nlw c) else none) = some w at h
    by_cases hk : (k : Int) <= c
    . rw [if_pos hk] at h; cases h; exact xu5 _
    . rw [if_neg hk] at h
      cases b with
      | true => cases h; exact xf8 c
      | false => cases h
  | fin =>
    cases b with
    | true => cases h; exact xf8 m
    | false => cases h
end My
namespace My
open PySem PySem.Spec PyProof.Rows L2 L3
noncomputable abbrev tIf (w : String) (F : PSt -> Option (Fl × PSt)) : PSt -> Option (Fl × PSt) := fIf (za8 (kdT 4 w)) F zc1
noncomputable abbrev adB (f1 f2 : PSt -> Option D) (GT : List D -> Option (D × List D)) : PSt -> Option (Fl × PSt) := zb4 3 (yy2 zc6 (za0 3) (fIO [.im f1, .im f2, .io 2] GT))
noncomputable abbrev wa3 : PSt -> Option (D × PSt) := zc9 2 zb6 (za1 (fC (.int 0)) za3) yp2
noncomputable def yv5 (GT : List D -> Option (D × List D)) : PSt -> Option (Fl × PSt) :=
  za9 (tIf "word" (zb4 3 (za5 (f2 zc6 (za0 3) (f2 dIx (za0 4) (fC (.int 1)))))))
  (za9 (tIf "hang" (adB (f2 dIx (za0 4) (fC (.int 2))) (za0 1) GT))
  (za9 (tIf "group" (za9 (zb4 5 (xg1 (zb7 (za0 1)) (fE2 dEq wa3 (fC (.int 0))))) (adB (f2 dIx (za0 4) (fC (.int 1))) (za0 5) GT)))
  (tIf "either" (za9 (zb4 6 wa3) (adB (f2 dIx (f2 dIx (za0 4) (fC (.int 1))) (za0 6)) (za0 1) GT)))))
section
variable {w k : String} {F : PSt -> Option (Fl × PSt)} {p : PSt} {ds : List D}
theorem zq6 (hp : p[4]? = some (some (.tup (.str k :: ds)))) (h : decide (k = w) = false) : tIf w F p = some (.nx, p) := zf9 (yh6 hp h)
theorem yu4 (hp : p[4]? = some (some (.tup (.str k :: ds)))) (h : decide (k = w) = true) : tIf w F p = F p := zi5 (yh6 hp h)
end
noncomputable def xg2 (GT : List D -> Option (D × List D)) (r : List Pc) : Prop := 12 * (zd6 r).length <= 900000 -> ∀ (b : Bool) (m : Int) (cs zc2 : List Int) (t t' : Str), zk6 b m r cs t = some (zc2, t') ->
  ∃ w : Str, GT [.tup (zb8 r), .bl (!b), .lst true (zd2 cs)] = some (.str w, [.tup (zb8 r), .bl (!b), .lst true (zd2 zc2)]) /\ ink t'.cps.toList = ink t.cps.toList ++ w.cps.toList /\ w.length <= 12 * (zd6 r).length
noncomputable def xq6 (GT : List D -> Option (D × List D)) (p : Pc) : Prop := ∀ (R : Option D) (b : Bool) (m : Int) (cs zc2 : List Int) (t t' x : Str) (x5 x6 : Option D), x.length + 12 * (zh2 p).length <= 900000 -> zq3 b m p cs t = some (zc2, t') ->
  ∃ (w : Str) (y5 y6 : Option D), yv5 GT [R, some (.bl (!b)), some (.lst true (zd2 cs)), some (.str x), some (pcD p), x5, x6] = some (.nx, [R, some (.bl (!b)), some (.lst true (zd2 zc2)), some (.str (x ++ w)), some (pcD p), y5, y6]) /\ ink t'.cps.toList = ink t.cps.toList ++ w.cps.toList /\ w.length <= 12 * (zh2 p).length
section
variable {GT : List D -> Option (D × List D)} {R x5 x6 : Option D} {b fl : Bool} {cs zc2 : List Int} {x : Str} {d4 : D}
theorem xz4 {f1 f2 : PSt -> Option D} {r : List Pc} {w : Str} (h1 : f1 [R, some (.bl b), some (.lst true (zd2 cs)), some (.str x), some d4, x5, x6] = some (.tup (zb8 r))) (h2 : f2 [R, some (.bl b), some (.lst true (zd2 cs)), some (.str x), some d4, x5, x6] = some (.bl fl))
    (q : GT [.tup (zb8 r), .bl fl, .lst true (zd2 cs)] = some (.str w, [.tup (zb8 r), .bl fl, .lst true (zd2 zc2)])) (hl : x.length + w.length <= 1000000) :
    adB f1 f2 GT [R, some (.bl b), some (.lst true (zd2 cs)), some (.str x), some d4, x5, x6] = some (.nx, [R, some (.bl b), some (.lst true (zd2 zc2)), some (.str (x ++ w)), some d4, x5, x6]) := by
  have hs : sizeLine = 16777216 := sizeLine_eq
  have c := yl8 (as := [.im f1, .im f2, .io 2]) (zn4 h1 (zj3 r) (zn4 h2 rfl (yg9 (j := 2) rfl ya3))) q rfl
  have a : zc6 (.str x) (.str w) = some (.str (x ++ w)) := by rw [zc6, if_pos]; omega
  have v : zb7 (za0 3) [R, some (.bl b), some (.lst true (zd2 cs)), some (.str x), some d4, x5, x6] = some (.str x) := zk8 rfl rfl
  unfold adB zb4 yy2
  rw [v, Option.bind_some, c, Option.bind_some, a]; rfl
theorem xf9 {k : String} {ds : List D} (h1 : decide (k = "word") = false) (h2 : decide (k = "hang") = false) (h3 : decide (k = "group") = false) (h4 : decide (k = "either") = false) : yv5 GT [R, some (.bl b), some (.lst true (zd2 cs)), some (.str x), some (.tup (.str k :: ds)), x5, x6] = some (.nx, [R, some (.bl b), some (.lst true (zd2 cs)), some (.str x), some (.tup (.str k :: ds)), x5, x6]) :=
  (za4 (zq6 rfl h1)).trans ((za4 (zq6 rfl h2)).trans ((za4 (zq6 rfl h3)).trans (zq6 rfl h4)))
end
theorem wn1 {GT : List D -> Option (D × List D)} {l : Leaf} (hl : zs1 l) : xq6 GT (.leaf l) := by
  intro R b m cs zc2 t t' x x5 x6 hx h
  have htk : (zh2 (.leaf l)).length = 1 := by simp [zh2]
  rw [htk] at hx |-
  rw [zq3] at h
  cases e : wr b m (col t) l with
  | none => rw [e] at h; cases h
  | some w0 =>
    rw [e] at h; cases h
    refine ⟨xq5 l, x5, x6, ?_, by rw [zg0, xf7, wx8 hl e], ?_⟩
    . cases l with
      | word y =>
        have hy : y.length <= 12 := hl.2.1
        have hs : sizeLine = 16777216 := sizeLine_eq
        have a : zc6 (.str x) (.str y) = some (.str (x ++ y)) := by rw [zc6, if_pos]; omega
        exact (za4 ((yu4 rfl (by decide)).trans (zh3 (zc5 rfl (zc5 rfl rfl (zf4 _ _ _)) a)))).trans ((za4 (zq6 rfl (by decide))).trans ((za4 (zq6 rfl (by decide))).trans (zq6 rfl (by decide))))
      | gap y => rw [show xq5 (.gap y) = ⟨#[]⟩ from rfl, yd2]; exact xf9 (by decide) (by decide) (by decide) (by decide)
      | stop y => rw [show xq5 (.stop y) = ⟨#[]⟩ from rfl, yd2]; exact xf9 (by decide) (by decide) (by decide) (by decide)
      | fin => rw [show xq5 .fin = ⟨#[]⟩ from rfl, yd2]; exact xf9 (by decide) (by decide) (by decide) (by decide)
    . cases l with
      | word y => exact hl.2.1
      | _ => exact Nat.zero_le _
theorem wn2 {GT : List D -> Option (D × List D)} {k : Int} {r : List Pc} (hr : xg2 GT r) : xq6 GT (.hang k r) := by
  intro R b m cs zc2 t t' x x5 x6 hx h
  have htk : (zh2 (.hang k r)).length = (zd6 r).length + 2 := by simp [zh2]
  rw [htk] at hx |-
  rw [zq3] at h
  obtain ⟨w, q, e1, e2⟩ := hr (by omega) b (m + k) cs zc2 t t' h
  refine ⟨w, x5, x6, ?_, e1, by omega⟩
  exact (za4 (zq6 rfl (by decide))).trans ((za4 ((yu4 rfl (by decide)).trans (xz4 (zc5 rfl rfl (zj7 _ _ _ _)) rfl q (by omega)))).trans ((za4 (zq6 rfl (by decide))).trans (zq6 rfl (by decide))))
theorem wh6 {GT : List D -> Option (D × List D)} {r : List Pc} (hr : xg2 GT r) : xq6 GT (.group r) := by
  intro R b m cs zc2 t t' x x5 x6 hx h
  have htk : (zh2 (.group r)).length = (zd6 r).length + 2 := by simp [zh2]
  rw [htk] at hx |-
  have fin : ∀ (cs' : List Int) (i : Bool), zb4 5 (xg1 (zb7 (za0 1)) (fE2 dEq wa3 (fC (.int 0)))) [R, some (.bl (!b)), some (.lst true (zd2 cs)), some (.str x), some (pcD (.group r)), x5, x6] = some (.nx, [R, some (.bl (!b)), some (.lst true (zd2 cs')), some (.str x), some (pcD (.group r)), some (.bl (!i)), x6]) -> zk6 i m r cs' t = some (zc2, t') ->
      ∃ (w : Str) (y5 y6 : Option D), yv5 GT [R, some (.bl (!b)), some (.lst true (zd2 cs)), some (.str x), some (pcD (.group r)), x5, x6] = some (.nx, [R, some (.bl (!b)), some (.lst true (zd2 zc2)), some (.str (x ++ w)), some (pcD (.group r)), y5, y6]) /\ ink t'.cps.toList = ink t.cps.toList ++ w.cps.toList /\ w.length <= 12 * ((zd6 r).length + 2) := fun cs' i hs h => by
    obtain ⟨w, q, e1, e2⟩ := hr (by omega) i m cs' zc2 t t' h
    refine ⟨w, some (.bl (!i)), x6, ?_, e1, by omega⟩
    exact (za4 (zq6 rfl (by decide))).trans ((za4 (zq6 rfl (by decide))).trans ((za4 ((yu4 rfl (by decide)).trans ((za4 hs).trans (xz4 (zc5 rfl rfl (zf4 _ _ _)) rfl q (by omega))))).trans (zq6 rfl (by decide))))
  rw [zq3.eq_def] at h
  simp only at h
  cases b with
  | false =>
    simp only [Bool.false_eq_true, if_false] at h
    exact fin cs false rfl h
  | true =>
    cases cs with
    | nil => simp at h
    | cons c cs =>
      simp only [if_true] at h
      by_cases c0 : c = 0
      . subst c0
        simp only [if_true] at h
        exact fin cs false rfl h
      . rw [if_neg c0] at h
        by_cases c1 : c = 1
        . subst c1
          simp only [if_true] at h
          exact fin cs true rfl h
        . rw [if_neg c1] at h; cases h
theorem xz5 {GT : List D -> Option (D × List D)} {rs : List (List Pc)} (hr : ∀ r ∈ rs, xg2 GT r) : xq6 GT (.either rs) := by
  intro R b m cs zc2 t t' x x5 x6 hx h
  have htk : (zh2 (.either rs)).length = (yd8 rs).length + 2 := by simp [zh2]
  rw [htk] at hx |-
  rw [zq3.eq_def] at h
  cases cs with
  | nil => cases h
  | cons c cs =>
    simp only at h
    by_cases c0 : 0 <= c
    . rw [if_pos c0] at h
      cases hg : rs[c.toNat]? with
      | none => rw [yo0 hg] at h; cases h
      | some r =>
        rw [yi9 hg] at h
        have htr := yk2 (List.mem_of_getElem? hg)
        obtain ⟨w, q, e1, e2⟩ := hr r (List.mem_of_getElem? hg) (by omega) b m cs zc2 t t' h
        have qx : atI (zf3 rs) c = some (.tup (zb8 r)) := by
          have := ya6 (yy0 hg)
          rwa [Int.toNat_of_nonneg c0] at this
        refine ⟨w, x5, some (.int c), ?_, e1, by omega⟩
        have s6 : zb4 6 wa3 [R, some (.bl (!b)), some (.lst true (zd2 (c :: cs))), some (.str x), some (pcD (.either rs)), x5, x6] = some (.nx, [R, some (.bl (!b)), some (.lst true (zd2 cs)), some (.str x), some (pcD (.either rs)), x5, some (.int c)]) := rfl
        exact (za4 (zq6 (ds := [.tup (zf3 rs)]) rfl (by decide))).trans ((za4 (zq6 (ds := [.tup (zf3 rs)]) rfl (by decide))).trans ((za4 (zq6 (ds := [.tup (zf3 rs)]) rfl (by decide))).trans ((yu4 (ds := [.tup (zf3 rs)]) rfl (by decide)).trans ((za4 s6).trans (xz4 (zc5 (zc5 rfl rfl (zf4 _ _ _)) rfl qx) rfl q (by omega))))))
    . rw [if_neg c0] at h; cases h
theorem wh7 {GT : List D -> Option (D × List D)} {k : Nat} (hG : ∀ r, zh8 r < k -> okR r -> xg2 GT r) {p : Pc} (hd : zn0 p <= k) (ho : okP p) : xq6 GT p := by
  cases p with
  | leaf l => exact wn1 ho
  | group r => rw [zn0] at hd; exact wh6 (hG r (by omega) ho)
  | hang n r => rw [zn0] at hd; exact wn2 (hG r (by omega) ho.2)
  | either rs =>
    rw [zn0] at hd
    have ho' : (2 <= rs.length /\ rs.length <= 4) /\ zw0 rs := ho
    refine xz5 fun r hr => ?_
    obtain ⟨i, hi⟩ := List.getElem?_of_mem hr
    have := yf0 hi
    exact hG r (by omega) (yo3 ho'.2 hi)
theorem xp5 {GT : List D -> Option (D × List D)} {k : Nat} {R : Option D} {b : Bool} {m : Int} (hG : ∀ r, zh8 r < k -> okR r -> xg2 GT r) : ∀ (r : List Pc) (cs zc2 : List Int) (t t' x : Str) (x4 x5 x6 : Option D), zh8 r <= k -> okR r -> x.length + 12 * (zd6 r).length <= 900000 -> zk6 b m r cs t = some (zc2, t') ->
    ∃ (w : Str) (y4 y5 y6 : Option D), zk9 4 (yv5 GT) (zb8 r) [R, some (.bl (!b)), some (.lst true (zd2 cs)), some (.str x), x4, x5, x6] = some (.nx, [R, some (.bl (!b)), some (.lst true (zd2 zc2)), some (.str (x ++ w)), y4, y5, y6]) /\ ink t'.cps.toList = ink t.cps.toList ++ w.cps.toList /\ w.length <= 12 * (zd6 r).length
  | [], cs, zc2, t, t', x, x4, x5, x6, _, _, _, h => by
    rw [zk6] at h; cases h
    exact ⟨⟨#[]⟩, x4, x5, x6, by rw [yd2]; rfl, by simp, Nat.zero_le _⟩
  | p :: r, cs, zc2, t, t', x, x4, x5, x6, hd, ho, hx, h => by
    rw [okR] at ho
    rw [zh8] at hd
    have htk : (zd6 (p :: r)).length = (zh2 p).length + (zd6 r).length := by rw [zd6, List.length_append]
    rw [htk] at hx |-
    rw [zk6] at h
    obtain ⟨⟨c1, t1⟩, h1, h2⟩ := bind_some h
    obtain ⟨w1, y5, y6, q, e1, e2⟩ := wh7 hG (p := p) (by omega) ho.1 R b m cs c1 t t1 x x5 x6 (by omega) h1
    obtain ⟨w2, z4, z5, z6, q2, f1, f2⟩ := xp5 (R := R) hG r c1 zc2 t1 t' (x ++ w1) (some (pcD p)) y5 y6 (by omega) ho.2 (by rw [zi1]; omega) h2
    refine ⟨w1 ++ w2, z4, z5, z6, ?_, by rw [f1, e1, zg0, List.append_assoc], by rw [zi1]; omega⟩
    have ea : x ++ (w1 ++ w2) = (x ++ w1) ++ w2 := zx2 (by simp only [zg0, List.append_assoc])
    rw [ea]
    show zk9 4 _ (pcD p :: zb8 r) _ = _
    rw [zk9]
    show ((yv5 GT [R, some (.bl (!b)), some (.lst true (zd2 cs)), some (.str x), some (pcD p), x5, x6]).bind _) = _
    rw [q]; exact q2
noncomputable def zp9 : Nat -> List D -> Option (D × List D)
  | 0 => fun _ => none
  | n + 1 => gE 3 4 (zc8 [false, false, true]) (yg5 (zp9 n))
theorem xu6 : ∀ (k : Nat) (r : List Pc), zh8 r < k -> okR r -> xg2 (zp9 k) r
  | 0, _, h, _ => absurd h (Nat.not_lt_zero _)
  | k + 1, r, hd, ho => fun hl b m cs zc2 t t' h => by
    obtain ⟨w, y4, y5, y6, q, e⟩ := xp5 (GT := zp9 k) (k := k) (R := some (.tup (zb8 r))) (fun s hs hk => xu6 k s hs hk) r cs zc2 t t' ⟨#[]⟩ none none none (by omega) ho (by show 0 + _ <= _; omega) h
    refine ⟨w, ?_, e⟩
    show gE 3 4 _ (yg5 (zp9 k)) _ = _
    have s0 : zb4 3 (za5 (fC (.str ""))) [some (.tup (zb8 r)), some (.bl (!b)), some (.lst true (zd2 cs)), none, none, none, none] = some (.nx, [some (.tup (zb8 r)), some (.bl (!b)), some (.lst true (zd2 cs)), some (.str ⟨#[]⟩), none, none, none]) := by rw [xo0]; rfl
    have s1 : zq1 4 (zo7 (za0 0)) (yv5 (zp9 k)) [some (.tup (zb8 r)), some (.bl (!b)), some (.lst true (zd2 cs)), some (.str ⟨#[]⟩), none, none, none] = _ := q
    rw [xt4] at s1
    have z : yg5 (zp9 k) ([.tup (zb8 r), .bl (!b), .lst true (zd2 cs)].map some ++ List.replicate 4 none) = some (.ret (.str w), [some (.tup (zb8 r)), some (.bl (!b)), some (.lst true (zd2 zc2)), none, y4, y5, y6]) := (za4 s0).trans ((za4 s1).trans rfl)
    unfold gE
    refine (if_pos rfl).trans ?_
    rw [z]; rfl
end My
namespace My
open PySem PySem.Spec PyProof.Rows L2 L3
section
variable {GM GC : List D -> Option D} {S : D}
noncomputable abbrev yt0 (GD GB : List D -> Option D) (GT : List D -> Option (D × List D)) : PSt -> Option (Fl × PSt) :=
  (za9 (zb4 4 (za5 (za7 GD (za1 (za0 0) (za1 (za0 2) (za1 (f2 dIx (zd7 (za1 (fC (.int 1)) (za1 (fC (.int 50)) za3))) (za0 3)) za3))))))
  (za9 (zb4 5 (za5 (za7 GB (za1 (za0 2) (za1 (f2 dIx (za0 4) (fC (.int 1))) za3)))))
  (za9 (zb4 6 (za5 (ym4 GT (za1 (zb7 (za0 2)) (za1 (fC (.bl false)) (za1 (za7 yu6 (za1 (f2 dIx (za0 4) (fC (.int 1))) za3)) za3))))))
  (fIf (za8 (zk4 (zi3 (fT (za7 ys5 (za1 (za0 5) (za1 (fC (.ty "str")) za3))))) (fB (f2 dNe (fMt zv1 (fC (.str "")) (za1 (fMt yb9 (ye4 5 "\n" " ") (za1 (fC (.str " ")) za3)) za3)) (za0 6)))))
   (zd3 (za5 (fC (.bl false))))
   zc1))))
theorem wh8 {t : Str} {p : PSt} (hp : p[5]? = some (some (.str t))) (hl : t.length <= 900000) : fMt zv1 (fC (.str "")) (za1 (fMt yb9 (ye4 5 "\n" " ") (za1 (fC (.str " ")) za3)) za3) p = some (.str (Txt.join "" (Txt.split (Txt.replace t "\n" " ") " "))) := by
  obtain ⟨_, h2, h3⟩ := wo7 t
  have e1 : ye4 5 "\n" " " p = some (.str (Txt.replace t "\n" " ")) := by
    unfold ye4
    rw [hp, Option.join_some, Option.bind_some]
    show (if _ then _ else _) = _
    refine if_pos ⟨?_, by decide +kernel⟩
    rw [show (" " : Str).length = 1 from rfl]
    omega
  have e2 : fMt yb9 (ye4 5 "\n" " ") (za1 (fC (.str " ")) za3) p = some (.lst true (L2.zp8 (Txt.split (Txt.replace t "\n" " ") " "))) := by
    unfold fMt
    rw [e1, Option.bind_some, zb2 (f := fC (.str " ")) (g := za3) (d := .str " ") (ds := []) rfl rfl, Option.bind_some]
    rw [if_pos (show yg4 (.str (Txt.replace t "\n" " ")) = true from rfl)]
    exact if_pos ⟨by decide +kernel, by omega⟩
  have st : ∀ l : List Str, D.strs (L2.zp8 l) = some l := fun l => by
    induction l with
    | nil => rfl
    | cons a l ih => show D.strs (.str a :: L2.zp8 l) = _; rw [D.strs, ih]; rfl
  show ((fC (.str "") p).bind fun x => (za1 (fMt yb9 (ye4 5 "\n" " ") (za1 (fC (.str " ")) za3)) za3 p).bind fun ds => if yg4 x = true then zv1 x ds else none) = _
  rw [zb2 e2 (show za3 p = some [] from rfl)]
  show zv1 (.str "") [.lst true _] = _
  rw [zv1, st, Option.bind_some, if_pos]
  refine ⟨by show (0 : Nat) <= 16; decide, by omega⟩
theorem wx9 {k1 k2 k3 : Nat} {r : List Pc} {x1 x4 x5 x6 : Option D} {lap salt : Int} {C : List Int} {t : Str} {GD GB : List D -> Option D} (hx : atI [D.int 1, .int 50] lap = some (.int salt)) (ho : okR r) (hd : zh8 r < k3) (hl : (zd6 r).length <= 800)
    (d : GD [S, .tup (zb8 r), .int salt] = some (.tup [.str t, .tup (zd2 C)])) (g : zk6 true 0 r C ⟨#[]⟩ = some ([], t)) (b : GB [.tup (zb8 r), .tup (zd2 C)] = some (.str t)) (ht : t.length <= 900000) :
    ∃ y4 y5 y6, yt0 GD GB (zp9 k3) [some S, x1, some (.tup (zb8 r)), some (.int lap), x4, x5, x6] = some (.nx, [some S, x1, some (.tup (zb8 r)), some (.int lap), y4, y5, y6]) := by
  obtain ⟨w, q, e1, _⟩ := xu6 k3 r hd ho (by omega) true 0 C [] ⟨#[]⟩ t g
  have hw : Txt.join "" (Txt.split (Txt.replace t "\n" " ") " ") = w := zx2 (by rw [(wo7 t).1, e1]; rfl)
  have pi := zj3 r
  have s1 : zb4 4 (za5 (za7 GD (za1 (za0 0) (za1 (za0 2) (za1 (f2 dIx (zd7 (za1 (fC (.int 1)) (za1 (fC (.int 50)) za3))) (za0 3)) za3))))) [some S, x1, some (.tup (zb8 r)), some (.int lap), x4, x5, x6] = some (.nx, [some S, x1, some (.tup (zb8 r)), some (.int lap), some (.tup [.str t, .tup (zd2 C)]), x5, x6]) := zh3 (zh1 (zb2 rfl (zb2 rfl (zb2 (zc5 rfl rfl hx) rfl))) d)
  have v4 : ∀ y5 y6 : Option D, f2 dIx (za0 4) (fC (.int 1)) [some S, x1, some (.tup (zb8 r)), some (.int lap), some (.tup [.str t, .tup (zd2 C)]), y5, y6] = some (.tup (zd2 C)) := fun _ _ => zc5 rfl rfl (zf4 _ _ _)
  have s2 : zb4 5 (za5 (za7 GB (za1 (za0 2) (za1 (f2 dIx (za0 4) (fC (.int 1))) za3)))) [some S, x1, some (.tup (zb8 r)), some (.int lap), some (.tup [.str t, .tup (zd2 C)]), x5, x6] = some (.nx, [some S, x1, some (.tup (zb8 r)), some (.int lap), some (.tup [.str t, .tup (zd2 C)]), some (.str t), x6]) := zh3 (zh1 (zb2 rfl (zb2 (v4 _ _) rfl)) b)
  have s3 : zb4 6 (za5 (ym4 (zp9 k3) (za1 (zb7 (za0 2)) (za1 (fC (.bl false)) (za1 (za7 yu6 (za1 (f2 dIx (za0 4) (fC (.int 1))) za3)) za3))))) [some S, x1, some (.tup (zb8 r)), some (.int lap), some (.tup [.str t, .tup (zd2 C)]), some (.str t), x6] = some (.nx, [some S, x1, some (.tup (zb8 r)), some (.int lap), some (.tup [.str t, .tup (zd2 C)]), some (.str t), some (.str w)]) := by
    refine zh3 ?_
    unfold ym4
    rw [zb2 (zk8 (f := za0 2) (d := .tup (zb8 r)) rfl pi) (zb2 (f := fC (.bl false)) (d := .bl false) rfl (zb2 (zh1 (d := .lst true (zd2 C)) (zb2 (v4 _ _) rfl) rfl) (show za3 _ = some [] from rfl))), Option.bind_some]
    refine (if_pos ?_).trans ?_
    . show (D.imms (zb8 r) && _) = true
      rw [show D.imms (zb8 r) = true from pi]; rfl
    . rw [show zp9 k3 [.tup (zb8 r), .bl false, .lst true (zd2 C)] = _ from q]; rfl
  refine ⟨_, _, _, (za4 s1).trans ((za4 s2).trans ((za4 s3).trans (zf9 ?_)))⟩
  have i1 : zi3 (fT (za7 ys5 (za1 (za0 5) (za1 (fC (.ty "str")) za3)))) [some S, x1, some (.tup (zb8 r)), some (.int lap), some (.tup [.str t, .tup (zd2 C)]), some (.str t), some (.str w)] = some false := ya8 (b := true) (xy4 (zh1 (d := .bl true) (ds := [.str t, .ty "str"]) (zb2 rfl (zb2 rfl rfl)) (ka6 t)))
  have i2 : fB (f2 dNe (fMt zv1 (fC (.str "")) (za1 (fMt yb9 (ye4 5 "\n" " ") (za1 (fC (.str " ")) za3)) za3)) (za0 6)) [some S, x1, some (.tup (zb8 r)), some (.int lap), some (.tup [.str t, .tup (zd2 C)]), some (.str t), some (.str w)] = some false := by
    refine zt0 (zc5 (wh8 rfl ht) rfl ?_)
    rw [hw]
    show some (D.bl (!decide (w = w))) = _
    rw [decide_eq_true rfl]; rfl
  unfold zk4
  rw [i1, i2]; rfl
theorem wt1 (a : Int) : ∃ n : Nat, atI [D.int 3, .int 3, .int 6] (a % 3) = some (.int n) /\ n <= 6 := by
  have h0 := Int.emod_nonneg a (show (3 : Int) ≠ 0 by decide)
  have h1 := Int.emod_lt_of_pos a (show (0 : Int) < 3 by decide)
  obtain ⟨d, hd, e⟩ := yd1 [D.int 3, .int 3, .int 6] (a % 3) h0 (by simpa using h1)
  simp only [List.mem_cons, List.not_mem_nil, or_false] at hd
  rcases hd with rfl | rfl | rfl
  . exact ⟨3, e, by decide⟩
  . exact ⟨3, e, by decide⟩
  . exact ⟨6, e, by decide⟩
noncomputable abbrev wz7 (k1 k2 k3 : Nat) (GM GC : List D -> Option D) : List D -> Option D := gP 1 6 (xq1 GM (xq4 GM yv4) (ym6 (zz7 (ye6 GM GC) k1)) (ym5 k2) (zp9 k3))
theorem xz6 {k1 k2 k3 : Nat} (hk1 : 6 < k1) (hk2 : 6 < k2) (hk3 : 6 < k3) (hS : S.imm = true) (hM : ∀ j s : Int, 0 <= j -> j < 1000 -> 0 <= s -> s < 1000 -> ∃ a, GM [S, .int j, .int s] = some (.int a) /\ 0 <= a) (hC : ∀ j : Int, 0 <= j -> j < 1000 -> ∃ a, GC [S, .int j] = some (.int a)) : wz7 k1 k2 k3 GM GC [S] = some (.bl true) := by
  obtain ⟨a, qa, ha⟩ := hM 0 40 (by decide) (by decide) (by decide) (by decide)
  obtain ⟨mr, hmr0, mr1⟩ := wr9 a 3 38 (by decide)
  have hmr : 3 + a % 38 = (mr : Int) := hmr0
  obtain ⟨nest, hnest, n6⟩ := wt1 (a / 38)
  obtain ⟨r, qr, hr, hdr⟩ := wh4 (k1 := k1) (k2 := k2) (nest := nest) (a := 3) (many := mr) (Nat.lt_of_le_of_lt n6 hk1) (Nat.lt_of_le_of_lt n6 hk2) (Nat.le_trans n6 (by decide)) (Nat.le_trans (Nat.le_of_lt mr1) (by decide)) (Nat.le_trans (Nat.add_le_add_left (Nat.le_of_lt mr1) 3) (by decide)) hS hM hC
  have hdp := Nat.lt_of_le_of_lt hr.dep (Nat.lt_of_le_of_lt n6 hk3)
  have hlen : (zd6 r).length <= 800 := Nat.le_trans hr.len (by omega)
  have lap : ∀ (j salt : Int) (x1 x4 x5 x6 : Option D), atI [D.int 1, .int 50] j = some (.int salt) -> 0 <= salt -> salt <= 900 -> ∃ y4 y5 y6, yt0 (ym6 (zz7 (ye6 GM GC) k1)) (ym5 k2) (zp9 k3) [some S, x1, some (.tup (zb8 r)), some (.int j), x4, x5, x6] = some (.nx, [some S, x1, some (.tup (zb8 r)), some (.int j), y4, y5, y6]) := fun j salt x1 x4 x5 x6 hj s0 s1 => by
    obtain ⟨C, t, d, g, len, b, ht⟩ := hdr salt s0 s1
    exact wx9 (k1 := k1) (k2 := k2) hj hr.ok hdp hlen d g b ht
  obtain ⟨a4, a5, a6, l1⟩ := lap 0 1 (some (.int a)) none none none rfl (by decide) (by decide)
  obtain ⟨b4, b5, b6, l2⟩ := lap 1 50 (some (.int a)) a4 a5 a6 rfl (by decide) (by decide)
  have s1 : zb4 1 (za5 (za7 GM (za1 (za0 0) (za1 (fC (.int 0)) (za1 (fC (.int 40)) za3))))) [some S, none, none, none, none, none, none] = some (.nx, [some S, some (.int a), none, none, none, none, none]) := zh3 (zh1 (zb2 rfl (zb2 rfl (zb2 rfl rfl))) qa)
  have s2 : zb4 2 (za5 (za7 (xq4 GM yv4) (za1 (za0 0) (za1 (fC (.int 3)) (za1 (f2 zc6 (fC (.int 3)) (f2 zl4 (za0 1) (fC (.int 38)))) (za1 (f2 dIx (zd7 (fKs [.int 3, .int 3, .int 6])) (f2 zl4 (f2 zt3 (za0 1) (fC (.int 38))) (fC (.int 3)))) za3)))))) [some S, some (.int a), none, none, none, none, none] = some (.nx, [some S, some (.int a), some (.tup (zb8 r)), none, none, none, none]) := by
    refine zh3 (zh1 (ds := [S, .int ((3 : Nat) : Int), .int (mr : Int), .int (nest : Int)]) (zb2 rfl (zb2 rfl (zb2 ?_ (zb2 ?_ rfl)))) qr)
    . refine zc5 rfl (zc5 rfl rfl ((zh6 _ _).trans (if_pos (by decide)))) ?_
      rw [<- hmr]; rfl
    . exact zc5 (zp7 rfl (Nat.le_of_ble_eq_true rfl)) (zc5 (zc5 rfl rfl ((zh9 _ _).trans (if_pos (by decide)))) rfl ((zh6 _ _).trans (if_pos (by decide)))) hnest
  have s3 : zq1 3 (zw4 (za1 (fC (.int 2)) za3)) (yt0 (ym6 (zz7 (ye6 GM GC) k1)) (ym5 k2) (zp9 k3)) [some S, some (.int a), some (.tup (zb8 r)), none, none, none, none] = some (.nx, [some S, some (.int a), some (.tup (zb8 r)), some (.int 1), b4, b5, b6]) := by
    have e : zw4 (za1 (fC (.int 2)) za3) [some S, some (.int a), some (.tup (zb8 r)), none, none, none, none] = some [.int 0, .int 1] := rfl
    unfold zq1
    rw [e, Option.bind_some, zk9]
    show ((yt0 _ _ _ [some S, some (.int a), some (.tup (zb8 r)), some (.int 0), none, none, none]).bind _) = _
    rw [l1]
    show zk9 3 _ [.int 1] _ = _
    rw [zk9]
    show ((yt0 _ _ _ [some S, some (.int a), some (.tup (zb8 r)), some (.int 1), a4, a5, a6]).bind _) = _
    rw [l2]; rfl
  show gP 1 6 (xq1 GM (xq4 GM yv4) (ym6 (zz7 (ye6 GM GC) k1)) (ym5 k2) (zp9 k3)) _ = _
  exact zw9 rfl ((za4 s1).trans ((za4 s2).trans ((za4 s3).trans (zl3 rfl))))
end
end My
namespace My
open PySem PySem.Spec PyProof.Rows L2 L3
variable {P : Program} {w : World} {K : PySem.W.Frag} {mg : Str -> Option Value} {base : Heap} {κ : Str -> Addr}
noncomputable abbrev yt1 : List D -> Option (List Int) := D.ints
theorem yo6 : ∀ ns : List Int, yt1 (ns.map .int) = some ns
  | [] => rfl
  | n :: ns => by show (D.ints (ns.map .int)).map (n :: ·) = _; rw [show D.ints (ns.map .int) = some ns from yo6 ns]; rfl
noncomputable def wa4 : List D -> Option D
  | [.con xs, .int k, .int s] => match yt1 xs with
    | some ns => if ns.length <= 63 /\ (0 <= k /\ k < 1000000) /\ (0 <= s /\ s < 1000000) then some (.int (yp5 ns k s)) else none
    | none => none
  | _ => none
theorem wn3 {ns : List Int} (h : ns.length <= 63) (k s : Int) (hk : 0 <= k) (hk1 : k < 1000) (hs : 0 <= s) (hs1 : s < 1000) : ∃ m, wa4 [.con (ns.map .int), .int k, .int s] = some (.int m) /\ 0 <= m := by
  refine ⟨yp5 ns k s, ?_, (xq9 ns k s).1⟩
  show (match yt1 (ns.map .int) with | some ns => if ns.length <= 63 /\ (0 <= k /\ k < 1000000) /\ (0 <= s /\ s < 1000000) then some (D.int (yp5 ns k s)) else none | none => none) = _
  rw [yo6]
  exact if_pos ⟨h, ⟨hk, by omega⟩, hs, by omega⟩
theorem kc5 {k : Nat} {f : Addr} {fd : FuncData} {ps : List Str} (F : FnOk P w K mg base CX0 k f fd ps (xu7 K)) : FnOk P w K mg base CX0 k f fd ps (SpP 3 K κ wa4) := by
  refine F.imp fun vs H Q E ⟨_, ds, fp, d, r, e, q⟩ => ?_
  unfold wa4 at e
  split at e
  . rename_i xs k s
    split at e
    . rename_i ns hns
      obtain ⟨hc, e⟩ := zf8 e
      cases e
      obtain ⟨v1, us, f, g, rfl, r1, r2, rfl⟩ := r.split
      obtain ⟨v2, us2, f2, g2, rfl, r3, r4, rfl⟩ := r2.split
      obtain ⟨v3, rfl, r5⟩ := r4.one_inv
      rw [r3.is_int, r5.is_int]
      obtain ⟨a, vs, rfl, hS, hs⟩ := r1.con_inv
      rw [xd9 hs hns] at hS
      exact ⟨a, ns, k, s, rfl, hS.l, hc.1, hc.2.1, hc.2.2, q _ H [] (SameK.refl H) (fun _ ha => absurd ha (by simp)) List.nodup_nil (.int _)⟩
    . cases e
  . cases e
noncomputable def xk8 (K : PySem.W.Frag) : Sp := fun vs H Q _ => ∃ (a : Addr) (ns : List Int), vs = [.ref a] /\ SqF K H a (ns.map V.int) /\ ns.length <= 63 /\ ∀ H', Q (.bl true) H'
theorem xj0 {H : Hp} : ∀ ns : List Int, Reps K κ H (ns.map V.int) (ns.map .int) []
  | [] => .nil
  | n :: ns => .cons (f := []) (g := []) (.int n) (xj0 ns)
theorem kc6 {k : Nat} {f : Addr} {fd : FuncData} {ps : List Str} {g : List D -> Option D} (F : FnOk P w K mg base CX0 k f fd ps (SpP 1 K κ g)) (h : ∀ ns : List Int, ns.length <= 63 -> g [.con (ns.map .int)] = some (.bl true)) : FnOk P w K mg base CX0 k f fd ps (xk8 K) :=
  F.imp fun vs H Q E ⟨a, ns, e, hS, hl, q⟩ => e ▸ ⟨rfl, [.con (ns.map .int)], [], .bl true, .cons (f := []) (g := []) (.con hS (xj0 ns)) .nil, h ns hl, fun v H' fv _ _ _ r => by cases r; exact q H'⟩
noncomputable def Cur : Nat -> (List Value -> Prop) -> Prop
  | 0, P => P []
  | n + 1, P => ∀ a, Cur n fun us => P (a :: us)
theorem zi0 {n : Nat} : ∀ {P : List Value -> Prop}, Cur n P -> ∀ us : List Value, us.length = n -> P us := by
  induction n with
  | zero => intro P h us hl; cases List.eq_nil_of_length_eq_zero hl; exact h
  | succ n ih =>
    intro P h us hl
    cases us with
    | nil => cases hl
    | cons a us => exact ih (h a) us (Nat.succ.inj hl)
theorem zn7 {h : Heap} (X : K.In h) (G : h.Ns mainGlobals mg) {x : Str} {st : Stmt} {f : Addr} {od an : Option Addr} {sl : Array (Option Value)} {oc kV dc pm cd ct : Value} {ps : List Str}
    (a : PySem.W.nsIn K mainGlobals x = some (some (.ref f))) (l : K.lookup f = some ⟨oc, od, .func (PySem.W.fnOf x x (zg2 st) (zf2 st) (zb1 st) .none kV dc pm an cd ct), sl⟩) (c : PySem.W.codeIn K cd x = true) (k : PySem.W.keepIn K (.ref f) = true)
    (hb : ∀ (kV doc pm : Value) (an : Option Addr) (cdv ct : Value) (us : List Value), us.length = ps.length -> bindArgs (PySem.W.fnOf x x (zg2 st) (zf2 st) (zb1 st) .none kV doc pm an cdv ct) ⟨us, []⟩ = pure (ps.zip us)) :
    Dn K mg x st ps f (PySem.W.fnOf x x (zg2 st) (zf2 st) (zb1 st) .none kV dc pm an cd ct) :=
  ⟨zq4 l c k, (zq4 l c k).binds hb, PySem.W.mg_of X G a⟩
theorem kc7 {l : PySem.W.OpenLaw} {q : Program} {loose : List Str} {XP : (Str -> Option Value) -> Heap -> Prop} {YP : World -> Heap -> Prop} {d : DefRec} {K : Params -> PySem.W.Frag} {lev : Nat} (hn : l.most = some 63) (hdf : d.params.defaults = []) (hr : Room lev callerA)
    (hY : ∀ (w : World) (h : Heap), YP w h -> (K w.params).In h)
    (F : ∀ (w : World) (mg : Str -> Option Value) (fa : Addr) (h : Heap), (K w.params).In h -> h.Ns mainGlobals mg -> mg d.name = some (.ref fa) ->
      ∃ fd : FuncData, (∀ (s : Shared) (u : Value), BindsTo s fd ⟨[u], []⟩ [("_law_script", u)]) /\ ∀ base : Heap, (K w.params).In base -> base.Ns mainGlobals mg -> FnOk l.prog w (K w.params) mg base CX0 lev fa fd ["_law_script"] (xk8 (K w.params))) :
    PySem.W.WalkO q loose XP YP l.row.toRowW d [] (fun f vs => PySem.call f vs) :=
  L2.wq3 (n := 63) (k := lev) (x := "_law_script") (CX := fun _ => CX0) (sp := fun w => xk8 (K w.params)) hn (by decide) hdf hr hY F (fun _ H a ns hl hO hS => ⟨a, ns, rfl, by
    rcases hS with (h | h) | h
    . rcases hO a with z | ⟨o, xs, z⟩ <;> rw [h] at z <;> cases z
    . exact .inl h
    . exact .inr h, hl, fun _ => rfl⟩) fun _ _ _ _ _ z => z
end My
namespace My
open PySem PySem.Spec PyProof.Rows L2 L3
variable {P : Program} {w : World} {K : PySem.W.Frag} {mg : Str -> Option Value} {base : Heap} {κ : Str -> Addr}
noncomputable def xk9 : List D -> Option D
  | [.con xs, .int k] => match yt1 xs with
    | some ns => some (.int (yf2 ns k))
    | none => none
  | _ => none
theorem wh9 (ns : List Int) (k : Int) : xk9 [.con (ns.map .int), .int k] = some (.int (yf2 ns k)) := by
  show (match yt1 (ns.map .int) with | some ns => some (D.int (yf2 ns k)) | none => none) = _
  rw [yo6]
theorem kb0 {k : Nat} {f : Addr} {fd : FuncData} {ps : List Str} (F : FnOk P w K mg base CX0 k f fd ps (xp9 K)) : FnOk P w K mg base CX0 k f fd ps (SpP 2 K κ xk9) := by
  refine F.imp fun vs H Q E ⟨_, ds, fp, d, r, e, q⟩ => ?_
  unfold xk9 at e
  split at e
  . rename_i xs k
    split at e
    . rename_i ns hns
      cases e
      obtain ⟨v1, us, f, g, rfl, r1, r2, rfl⟩ := r.split
      obtain ⟨v3, rfl, r5⟩ := r2.one_inv
      rw [r5.is_int]
      obtain ⟨a, vs, rfl, hS, hs⟩ := r1.con_inv
      rw [xd9 hs hns] at hS
      exact ⟨a, ns, k, rfl, hS.l, q _ H [] (SameK.refl H) (fun _ ha => absurd ha (by simp)) List.nodup_nil (.int _)⟩
    . cases e
  . cases e
end My
namespace My
open PySem PySem.Spec PyProof.Rows L2 L3
theorem wy0 {l : PySem.W.OpenLaw} {w : World} {K : PySem.W.Frag} {h : Heap} {mg : Str -> Option Value} {fa f0 f1 f2 f3 f4 f5 f6 f7 f8 f9 f10 f11 f12 f13 f14 f15 f16 f17 f18 f19 f20 f21 : Addr} (X : K.In h) (G : h.Ns mainGlobals mg) (hfa : mg "law" = some (.ref fa))
    {od0 an0 od1 an1 od2 an2 od3 an3 od4 an4 od5 an5 od6 an6 od7 an7 od8 an8 od9 an9 od10 an10 od11 an11 od12 an12 od13 an13 od14 an14 od15 an15 od16 an16 od17 an17 od18 an18 od19 an19 od20 an20 od21 an21 : Option Addr} {sl0 sl1 sl2 sl3 sl4 sl5 sl6 sl7 sl8 sl9 sl10 sl11 sl12 sl13 sl14 sl15 sl16 sl17 sl18 sl19 sl20 sl21 : Array (Option Value)} {oc0 kV0 dc0 pm0 cd0 ct0 oc1 kV1 dc1 pm1 cd1 ct1 oc2 kV2 dc2 pm2 cd2 ct2 oc3 kV3 dc3 pm3 cd3 ct3 oc4 kV4 dc4 pm4 cd4 ct4 oc5 kV5 dc5 pm5 cd5 ct5 oc6 kV6 dc6 pm6 cd6 ct6 oc7 kV7 dc7 pm7 cd7 ct7 oc8 kV8 dc8 pm8 cd8 ct8 oc9 kV9 dc9 pm9 cd9 ct9 oc10 kV10 dc10 pm10 cd10 ct10 oc11 kV11 dc11 pm11 cd11 ct11 oc12 kV12 dc12 pm12 cd12 ct12 oc13 kV13 dc13 pm13 cd13 ct13 oc14 kV14 dc14 pm14 cd14 ct14 oc15 kV15 dc15 pm15 cd15 ct15 oc16 kV16 dc16 pm16 cd16 ct16 oc17 kV17 dc17 pm17 cd17 ct17 oc18 kV18 dc18 pm18 cd18 ct18 oc19 kV19 dc19 pm19 cd19 ct19 oc20 kV20 dc20 pm20 cd20 ct20 oc21 kV21 dc21 pm21 cd21 ct21 : Value}
    (a0 : PySem.W.nsIn K mainGlobals "first_place" = some (some (.ref f0))) (l0 : K.lookup f0 = some ⟨oc0, od0, .func (PySem.W.fnOf "first_place" "first_place" (zg2 zm6) (zf2 zm6) (zb1 zm6) .none kV0 dc0 pm0 an0 cd0 ct0), sl0⟩) (c0 : PySem.W.codeIn K cd0 "first_place" = true) (k0 : PySem.W.keepIn K (.ref f0) = true)
    (a1 : PySem.W.nsIn K mainGlobals "holds_rows" = some (some (.ref f1))) (l1 : K.lookup f1 = some ⟨oc1, od1, .func (PySem.W.fnOf "holds_rows" "holds_rows" (zg2 zn3) (zf2 zn3) (zb1 zn3) .none kV1 dc1 pm1 an1 cd1 ct1), sl1⟩) (c1 : PySem.W.codeIn K cd1 "holds_rows" = true) (k1 : PySem.W.keepIn K (.ref f1) = true)
    (a2 : PySem.W.nsIn K mainGlobals "takes_choice" = some (some (.ref f2))) (l2 : K.lookup f2 = some ⟨oc2, od2, .func (PySem.W.fnOf "takes_choice" "takes_choice" (zg2 zl7) (zf2 zl7) (zb1 zl7) .none kV2 dc2 pm2 an2 cd2 ct2), sl2⟩) (c2 : PySem.W.codeIn K cd2 "takes_choice" = true) (k2 : PySem.W.keepIn K (.ref f2) = true)
    (a3 : PySem.W.nsIn K mainGlobals "ways" = some (some (.ref f3))) (l3 : K.lookup f3 = some ⟨oc3, od3, .func (PySem.W.fnOf "ways" "ways" (zg2 zu6) (zf2 zu6) (zb1 zu6) .none kV3 dc3 pm3 an3 cd3 ct3), sl3⟩) (c3 : PySem.W.codeIn K cd3 "ways" = true) (k3 : PySem.W.keepIn K (.ref f3) = true)
    (a4 : PySem.W.nsIn K mainGlobals "new_line" = some (some (.ref f4))) (l4 : K.lookup f4 = some ⟨oc4, od4, .func (PySem.W.fnOf "new_line" "new_line" (zg2 zq2) (zf2 zq2) (zb1 zq2) .none kV4 dc4 pm4 an4 cd4 ct4), sl4⟩) (c4 : PySem.W.codeIn K cd4 "new_line" = true) (k4 : PySem.W.keepIn K (.ref f4) = true)
    (a5 : PySem.W.nsIn K mainGlobals "writing" = some (some (.ref f5))) (l5 : K.lookup f5 = some ⟨oc5, od5, .func (PySem.W.fnOf "writing" "writing" (zg2 zs2) (zf2 zs2) (zb1 zs2) .none kV5 dc5 pm5 an5 cd5 ct5), sl5⟩) (c5 : PySem.W.codeIn K cd5 "writing" = true) (k5 : PySem.W.keepIn K (.ref f5) = true)
    (a6 : PySem.W.nsIn K mainGlobals "ends_line" = some (some (.ref f6))) (l6 : K.lookup f6 = some ⟨oc6, od6, .func (PySem.W.fnOf "ends_line" "ends_line" (zg2 zo4) (zf2 zo4) (zb1 zo4) .none kV6 dc6 pm6 an6 cd6 ct6), sl6⟩) (c6 : PySem.W.codeIn K cd6 "ends_line" = true) (k6 : PySem.W.keepIn K (.ref f6) = true)
    (a7 : PySem.W.nsIn K mainGlobals "column_behind" = some (some (.ref f7))) (l7 : K.lookup f7 = some ⟨oc7, od7, .func (PySem.W.fnOf "column_behind" "column_behind" (zg2 zl0) (zf2 zl0) (zb1 zl0) .none kV7 dc7 pm7 an7 cd7 ct7), sl7⟩) (c7 : PySem.W.codeIn K cd7 "column_behind" = true) (k7 : PySem.W.keepIn K (.ref f7) = true)
    (a8 : PySem.W.nsIn K mainGlobals "set_by" = some (some (.ref f8))) (l8 : K.lookup f8 = some ⟨oc8, od8, .func (PySem.W.fnOf "set_by" "set_by" (zg2 zt5) (zf2 zt5) (zb1 zt5) .none kV8 dc8 pm8 an8 cd8 ct8), sl8⟩) (c8 : PySem.W.codeIn K cd8 "set_by" = true) (k8 : PySem.W.keepIn K (.ref f8) = true)
    (a9 : PySem.W.nsIn K mainGlobals "_law_cell_at" = some (some (.ref f9))) (l9 : K.lookup f9 = some ⟨oc9, od9, .func (PySem.W.fnOf "_law_cell_at" "_law_cell_at" (zg2 zp4) (zf2 zp4) (zb1 zp4) .none kV9 dc9 pm9 an9 cd9 ct9), sl9⟩) (c9 : PySem.W.codeIn K cd9 "_law_cell_at" = true) (k9 : PySem.W.keepIn K (.ref f9) = true)
    (a10 : PySem.W.nsIn K mainGlobals "_law_mixed" = some (some (.ref f10))) (l10 : K.lookup f10 = some ⟨oc10, od10, .func (PySem.W.fnOf "_law_mixed" "_law_mixed" (zg2 zq9) (zf2 zq9) (zb1 zq9) .none kV10 dc10 pm10 an10 cd10 ct10), sl10⟩) (c10 : PySem.W.codeIn K cd10 "_law_mixed" = true) (k10 : PySem.W.keepIn K (.ref f10) = true)
    (a11 : PySem.W.nsIn K mainGlobals "_law_word" = some (some (.ref f11))) (l11 : K.lookup f11 = some ⟨oc11, od11, .func (PySem.W.fnOf "_law_word" "_law_word" (zg2 zx8) (zf2 zx8) (zb1 zx8) .none kV11 dc11 pm11 an11 cd11 ct11), sl11⟩) (c11 : PySem.W.codeIn K cd11 "_law_word" = true) (k11 : PySem.W.keepIn K (.ref f11) = true)
    (a12 : PySem.W.nsIn K mainGlobals "_law_leaf" = some (some (.ref f12))) (l12 : K.lookup f12 = some ⟨oc12, od12, .func (PySem.W.fnOf "_law_leaf" "_law_leaf" (zg2 zy0) (zf2 zy0) (zb1 zy0) .none kV12 dc12 pm12 an12 cd12 ct12), sl12⟩) (c12 : PySem.W.codeIn K cd12 "_law_leaf" = true) (k12 : PySem.W.keepIn K (.ref f12) = true)
    (a13 : PySem.W.nsIn K mainGlobals "_law_shut" = some (some (.ref f13))) (l13 : K.lookup f13 = some ⟨oc13, od13, .func (PySem.W.fnOf "_law_shut" "_law_shut" (zg2 zy1) (zf2 zy1) (zb1 zy1) .none kV13 dc13 pm13 an13 cd13 ct13), sl13⟩) (c13 : PySem.W.codeIn K cd13 "_law_shut" = true) (k13 : PySem.W.keepIn K (.ref f13) = true)
    (a14 : PySem.W.nsIn K mainGlobals "_law_row" = some (some (.ref f14))) (l14 : K.lookup f14 = some ⟨oc14, od14, .func (PySem.W.fnOf "_law_row" "_law_row" (zg2 ya4) (zf2 ya4) (zb1 ya4) .none kV14 dc14 pm14 an14 cd14 ct14), sl14⟩) (c14 : PySem.W.codeIn K cd14 "_law_row" = true) (k14 : PySem.W.keepIn K (.ref f14) = true)
    (a15 : PySem.W.nsIn K mainGlobals "_law_next" = some (some (.ref f15))) (l15 : K.lookup f15 = some ⟨oc15, od15, .func (PySem.W.fnOf "_law_next" "_law_next" (zg2 zy2) (zf2 zy2) (zb1 zy2) .none kV15 dc15 pm15 an15 cd15 ct15), sl15⟩) (c15 : PySem.W.codeIn K cd15 "_law_next" = true) (k15 : PySem.W.keepIn K (.ref f15) = true)
    (a16 : PySem.W.nsIn K mainGlobals "_law_line" = some (some (.ref f16))) (l16 : K.lookup f16 = some ⟨oc16, od16, .func (PySem.W.fnOf "_law_line" "_law_line" (zg2 zy3) (zf2 zy3) (zb1 zy3) .none kV16 dc16 pm16 an16 cd16 ct16), sl16⟩) (c16 : PySem.W.codeIn K cd16 "_law_line" = true) (k16 : PySem.W.keepIn K (.ref f16) = true)
    (a17 : PySem.W.nsIn K mainGlobals "_law_column" = some (some (.ref f17))) (l17 : K.lookup f17 = some ⟨oc17, od17, .func (PySem.W.fnOf "_law_column" "_law_column" (zg2 zt6) (zf2 zt6) (zb1 zt6) .none kV17 dc17 pm17 an17 cd17 ct17), sl17⟩) (c17 : PySem.W.codeIn K cd17 "_law_column" = true) (k17 : PySem.W.keepIn K (.ref f17) = true)
    (a18 : PySem.W.nsIn K mainGlobals "_law_set" = some (some (.ref f18))) (l18 : K.lookup f18 = some ⟨oc18, od18, .func (PySem.W.fnOf "_law_set" "_law_set" (zg2 ya5) (zf2 ya5) (zb1 ya5) .none kV18 dc18 pm18 an18 cd18 ct18), sl18⟩) (c18 : PySem.W.codeIn K cd18 "_law_set" = true) (k18 : PySem.W.keepIn K (.ref f18) = true)
    (a19 : PySem.W.nsIn K mainGlobals "_law_drawn" = some (some (.ref f19))) (l19 : K.lookup f19 = some ⟨oc19, od19, .func (PySem.W.fnOf "_law_drawn" "_law_drawn" (zg2 zv3) (zf2 zv3) (zb1 zv3) .none kV19 dc19 pm19 an19 cd19 ct19), sl19⟩) (c19 : PySem.W.codeIn K cd19 "_law_drawn" = true) (k19 : PySem.W.keepIn K (.ref f19) = true)
    (a20 : PySem.W.nsIn K mainGlobals "_law_taken" = some (some (.ref f20))) (l20 : K.lookup f20 = some ⟨oc20, od20, .func (PySem.W.fnOf "_law_taken" "_law_taken" (zg2 zv4) (zf2 zv4) (zb1 zv4) .none kV20 dc20 pm20 an20 cd20 ct20), sl20⟩) (c20 : PySem.W.codeIn K cd20 "_law_taken" = true) (k20 : PySem.W.keepIn K (.ref f20) = true)
    (a21 : PySem.W.nsIn K mainGlobals "law" = some (some (.ref f21))) (l21 : K.lookup f21 = some ⟨oc21, od21, .func (PySem.W.fnOf "law" "law" (zg2 yc3) (zf2 yc3) (zb1 yc3) .none kV21 dc21 pm21 an21 cd21 ct21), sl21⟩) (c21 : PySem.W.codeIn K cd21 "law" = true) (k21 : PySem.W.keepIn K (.ref f21) = true)
    (z0 : PySem.W.nsIn K mainGlobals "len" = some none)
    (z1 : PySem.W.nsIn K mainGlobals "max" = some none)
    (z2 : PySem.W.nsIn K mainGlobals "range" = some none)
    (z3 : PySem.W.nsIn K mainGlobals "tuple" = some none)
    (z4 : PySem.W.nsIn K mainGlobals "int" = some none)
    (z5 : PySem.W.nsIn K mainGlobals "list" = some none)
    (z6 : PySem.W.nsIn K mainGlobals "isinstance" = some none)
    (z7 : PySem.W.nsIn K mainGlobals "str" = some none)
    {aHOLDERS : Addr} {odHOLDERS : Option Addr} {nHOLDERS : Nat} {slHOLDERS : Array (Option Value)} {uHOLDERS_0 uHOLDERS_1 uHOLDERS_2 : Tok}
    (g0 : PySem.W.nsIn K mainGlobals "HOLDERS" = some (some (.ref aHOLDERS)))
    (dtHOLDERS : K.lookup aHOLDERS = some ⟨.type "tuple", odHOLDERS, .seq #[.str "group" uHOLDERS_0, .str "hang" uHOLDERS_1, .str "either" uHOLDERS_2] nHOLDERS, slHOLDERS⟩)
    {C_Place : Addr} {f_Place_init : Addr} {od_Place_init an_Place_init : Option Addr} {sl_Place_init : Array (Option Value)} {oc_Place_init kV_Place_init dc_Place_init pm_Place_init cd_Place_init ct_Place_init : Value}
    (gC_Place : PySem.W.nsIn K mainGlobals "Place" = some (some (.ref C_Place)))
    (pg_Place : PySem.W.plainGet K C_Place Str.empty = true)
    (hd_Place : PySem.W.hasDictIn K C_Place = true)
    (po_Place : PySem.W.plainOver K C_Place = true)
    (sa_Place : PySem.W.findIn K (.ref C_Place) "__setattr__" = some (some (.builtin "object.__setattr__")))
    (mk_Place : PySem.W.makesIn K C_Place = true)
    (kc_Place : PySem.W.keepIn K (.ref C_Place) = true)
    (fi_Place_init : PySem.W.findIn K (.ref C_Place) "__init__" = some (some (.ref f_Place_init)))
    (is_Place_init : PySem.W.isFn K (.ref f_Place_init) = true)
    (lo_Place_init : K.lookup f_Place_init = some ⟨oc_Place_init, od_Place_init, .func (PySem.W.fnOf "__init__" "Place.__init__" (zg2 zn5) (zf2 zn5) (zb1 zn5) .none kV_Place_init dc_Place_init pm_Place_init an_Place_init cd_Place_init ct_Place_init), sl_Place_init⟩)
    (co_Place_init : PySem.W.codeIn K cd_Place_init "Place.__init__" = true)
    (ke_Place_init : PySem.W.keepIn K (.ref f_Place_init) = true)
    (nf_broken : PySem.W.findIn K (.ref C_Place) "broken" = some none)
    (nf_margin : PySem.W.findIn K (.ref C_Place) "margin" = some none)
    {C_Setter : Addr} {f_Setter_init f_Setter_choice_below f_Setter_set_plain f_Setter_set_holder f_Setter_set_row f_Setter_whole_text : Addr} {od_Setter_init an_Setter_init od_Setter_choice_below an_Setter_choice_below od_Setter_set_plain an_Setter_set_plain od_Setter_set_holder an_Setter_set_holder od_Setter_set_row an_Setter_set_row od_Setter_whole_text an_Setter_whole_text : Option Addr} {sl_Setter_init sl_Setter_choice_below sl_Setter_set_plain sl_Setter_set_holder sl_Setter_set_row sl_Setter_whole_text : Array (Option Value)} {oc_Setter_init kV_Setter_init dc_Setter_init pm_Setter_init cd_Setter_init ct_Setter_init oc_Setter_choice_below kV_Setter_choice_below dc_Setter_choice_below pm_Setter_choice_below cd_Setter_choice_below ct_Setter_choice_below oc_Setter_set_plain kV_Setter_set_plain dc_Setter_set_plain pm_Setter_set_plain cd_Setter_set_plain ct_Setter_set_plain oc_Setter_set_holder kV_Setter_set_holder dc_Setter_set_holder pm_Setter_set_holder cd_Setter_set_holder ct_Setter_set_holder oc_Setter_set_row kV_Setter_set_row dc_Setter_set_row pm_Setter_set_row cd_Setter_set_row ct_Setter_set_row oc_Setter_whole_text kV_Setter_whole_text dc_Setter_whole_text pm_Setter_whole_text cd_Setter_whole_text ct_Setter_whole_text : Value}
    (gC_Setter : PySem.W.nsIn K mainGlobals "Setter" = some (some (.ref C_Setter)))
    (pg_Setter : PySem.W.plainGet K C_Setter Str.empty = true)
    (hd_Setter : PySem.W.hasDictIn K C_Setter = true)
    (po_Setter : PySem.W.plainOver K C_Setter = true)
    (sa_Setter : PySem.W.findIn K (.ref C_Setter) "__setattr__" = some (some (.builtin "object.__setattr__")))
    (mk_Setter : PySem.W.makesIn K C_Setter = true)
    (kc_Setter : PySem.W.keepIn K (.ref C_Setter) = true)
    (fi_Setter_init : PySem.W.findIn K (.ref C_Setter) "__init__" = some (some (.ref f_Setter_init)))
    (is_Setter_init : PySem.W.isFn K (.ref f_Setter_init) = true)
    (lo_Setter_init : K.lookup f_Setter_init = some ⟨oc_Setter_init, od_Setter_init, .func (PySem.W.fnOf "__init__" "Setter.__init__" (zg2 zo5) (zf2 zo5) (zb1 zo5) .none kV_Setter_init dc_Setter_init pm_Setter_init an_Setter_init cd_Setter_init ct_Setter_init), sl_Setter_init⟩)
    (co_Setter_init : PySem.W.codeIn K cd_Setter_init "Setter.__init__" = true)
    (ke_Setter_init : PySem.W.keepIn K (.ref f_Setter_init) = true)
    (fi_Setter_choice_below : PySem.W.findIn K (.ref C_Setter) "choice_below" = some (some (.ref f_Setter_choice_below)))
    (is_Setter_choice_below : PySem.W.isFn K (.ref f_Setter_choice_below) = true)
    (lo_Setter_choice_below : K.lookup f_Setter_choice_below = some ⟨oc_Setter_choice_below, od_Setter_choice_below, .func (PySem.W.fnOf "choice_below" "Setter.choice_below" (zg2 zj0) (zf2 zj0) (zb1 zj0) .none kV_Setter_choice_below dc_Setter_choice_below pm_Setter_choice_below an_Setter_choice_below cd_Setter_choice_below ct_Setter_choice_below), sl_Setter_choice_below⟩)
    (co_Setter_choice_below : PySem.W.codeIn K cd_Setter_choice_below "Setter.choice_below" = true)
    (ke_Setter_choice_below : PySem.W.keepIn K (.ref f_Setter_choice_below) = true)
    (fi_Setter_set_plain : PySem.W.findIn K (.ref C_Setter) "set_plain" = some (some (.ref f_Setter_set_plain)))
    (is_Setter_set_plain : PySem.W.isFn K (.ref f_Setter_set_plain) = true)
    (lo_Setter_set_plain : K.lookup f_Setter_set_plain = some ⟨oc_Setter_set_plain, od_Setter_set_plain, .func (PySem.W.fnOf "set_plain" "Setter.set_plain" (zg2 zk5) (zf2 zk5) (zb1 zk5) .none kV_Setter_set_plain dc_Setter_set_plain pm_Setter_set_plain an_Setter_set_plain cd_Setter_set_plain ct_Setter_set_plain), sl_Setter_set_plain⟩)
    (co_Setter_set_plain : PySem.W.codeIn K cd_Setter_set_plain "Setter.set_plain" = true)
    (ke_Setter_set_plain : PySem.W.keepIn K (.ref f_Setter_set_plain) = true)
    (fi_Setter_set_holder : PySem.W.findIn K (.ref C_Setter) "set_holder" = some (some (.ref f_Setter_set_holder)))
    (is_Setter_set_holder : PySem.W.isFn K (.ref f_Setter_set_holder) = true)
    (lo_Setter_set_holder : K.lookup f_Setter_set_holder = some ⟨oc_Setter_set_holder, od_Setter_set_holder, .func (PySem.W.fnOf "set_holder" "Setter.set_holder" (zg2 zk0) (zf2 zk0) (zb1 zk0) .none kV_Setter_set_holder dc_Setter_set_holder pm_Setter_set_holder an_Setter_set_holder cd_Setter_set_holder ct_Setter_set_holder), sl_Setter_set_holder⟩)
    (co_Setter_set_holder : PySem.W.codeIn K cd_Setter_set_holder "Setter.set_holder" = true)
    (ke_Setter_set_holder : PySem.W.keepIn K (.ref f_Setter_set_holder) = true)
    (fi_Setter_set_row : PySem.W.findIn K (.ref C_Setter) "set_row" = some (some (.ref f_Setter_set_row)))
    (is_Setter_set_row : PySem.W.isFn K (.ref f_Setter_set_row) = true)
    (lo_Setter_set_row : K.lookup f_Setter_set_row = some ⟨oc_Setter_set_row, od_Setter_set_row, .func (PySem.W.fnOf "set_row" "Setter.set_row" (zg2 zk3) (zf2 zk3) (zb1 zk3) .none kV_Setter_set_row dc_Setter_set_row pm_Setter_set_row an_Setter_set_row cd_Setter_set_row ct_Setter_set_row), sl_Setter_set_row⟩)
    (co_Setter_set_row : PySem.W.codeIn K cd_Setter_set_row "Setter.set_row" = true)
    (ke_Setter_set_row : PySem.W.keepIn K (.ref f_Setter_set_row) = true)
    (fi_Setter_whole_text : PySem.W.findIn K (.ref C_Setter) "whole_text" = some (some (.ref f_Setter_whole_text)))
    (is_Setter_whole_text : PySem.W.isFn K (.ref f_Setter_whole_text) = true)
    (lo_Setter_whole_text : K.lookup f_Setter_whole_text = some ⟨oc_Setter_whole_text, od_Setter_whole_text, .func (PySem.W.fnOf "whole_text" "Setter.whole_text" (zg2 zk1) (zf2 zk1) (zb1 zk1) .none kV_Setter_whole_text dc_Setter_whole_text pm_Setter_whole_text an_Setter_whole_text cd_Setter_whole_text ct_Setter_whole_text), sl_Setter_whole_text⟩)
    (co_Setter_whole_text : PySem.W.codeIn K cd_Setter_whole_text "Setter.whole_text" = true)
    (ke_Setter_whole_text : PySem.W.keepIn K (.ref f_Setter_whole_text) = true)
    (nf_choices : PySem.W.findIn K (.ref C_Setter) "choices" = some none)
    (nf_used : PySem.W.findIn K (.ref C_Setter) "used" = some none)
    (nf_column : PySem.W.findIn K (.ref C_Setter) "column" = some none)
    (nf_parts : PySem.W.findIn K (.ref C_Setter) "parts" = some none)
    : ∃ fd : FuncData, (∀ (s : Shared) (v : Value), BindsTo s fd ⟨[v], []⟩ [("_law_script", v)]) /\ ∀ base : Heap, K.In base -> base.Ns mainGlobals mg -> FnOk l.prog w K mg base CX0 21 fa fd ["_law_script"] (xk8 K) := by
  have e := hfa.symm.trans (PySem.W.mg_of X G a21)
  cases e
  have D_p_first_place := zn7 (st := zm6) (ps := []) X G a0 l0 c0 k0 fun _ _ _ _ _ _ us hl => match us, hl with | [], _ => rfl
  have D_p_holds_rows := zn7 (st := zn3) (ps := ["piece"]) X G a1 l1 c1 k1 fun _ _ _ _ _ _ => zi0 (fun _ => rfl)
  have D_p_takes_choice := zn7 (st := zl7) (ps := ["piece", "place"]) X G a2 l2 c2 k2 fun _ _ _ _ _ _ => zi0 (fun _ _ => rfl)
  have D_p_ways := zn7 (st := zu6) (ps := ["piece", "place"]) X G a3 l3 c3 k3 fun _ _ _ _ _ _ => zi0 (fun _ _ => rfl)
  have D_p_new_line := zn7 (st := zq2) (ps := ["blanks"]) X G a4 l4 c4 k4 fun _ _ _ _ _ _ => zi0 (fun _ => rfl)
  have D_p_writing := zn7 (st := zs2) (ps := ["piece", "place", "column"]) X G a5 l5 c5 k5 fun _ _ _ _ _ _ => zi0 (fun _ _ _ => rfl)
  have D_p_ends_line := zn7 (st := zo4) (ps := ["wrote"]) X G a6 l6 c6 k6 fun _ _ _ _ _ _ => zi0 (fun _ => rfl)
  have D_p_column_behind := zn7 (st := zl0) (ps := ["column", "wrote"]) X G a7 l7 c7 k7 fun _ _ _ _ _ _ => zi0 (fun _ _ => rfl)
  have D_p_set_by := zn7 (st := zt5) (ps := ["row", "choices"]) X G a8 l8 c8 k8 fun _ _ _ _ _ _ => zi0 (fun _ _ => rfl)
  have D_l_cell_at := zn7 (st := zp4) (ps := ["_law_script", "_law_k"]) X G a9 l9 c9 k9 fun _ _ _ _ _ _ => zi0 (fun _ _ => rfl)
  have D_l_mixed := zn7 (st := zq9) (ps := ["_law_script", "_law_k", "_law_salt"]) X G a10 l10 c10 k10 fun _ _ _ _ _ _ => zi0 (fun _ _ _ => rfl)
  have D_l_word := zn7 (st := zx8) (ps := ["_law_number"]) X G a11 l11 c11 k11 fun _ _ _ _ _ _ => zi0 (fun _ => rfl)
  have D_l_leaf := zn7 (st := zy0) (ps := ["_law_number"]) X G a12 l12 c12 k12 fun _ _ _ _ _ _ => zi0 (fun _ => rfl)
  have D_l_shut := zn7 (st := zy1) (ps := ["_law_frames"]) X G a13 l13 c13 k13 fun _ _ _ _ _ _ => zi0 (fun _ => rfl)
  have D_l_row := zn7 (st := ya4) (ps := ["_law_script", "_law_at", "_law_many", "_law_nest"]) X G a14 l14 c14 k14 fun _ _ _ _ _ _ => zi0 (fun _ _ _ _ => rfl)
  have D_l_next := zn7 (st := zy2) (ps := ["_law_script", "_law_state", "_law_salt", "_law_many"]) X G a15 l15 c15 k15 fun _ _ _ _ _ _ => zi0 (fun _ _ _ _ => rfl)
  have D_l_line := zn7 (st := zy3) (ps := ["_law_state", "_law_blanks"]) X G a16 l16 c16 k16 fun _ _ _ _ _ _ => zi0 (fun _ _ => rfl)
  have D_l_column := zn7 (st := zt6) (ps := ["_law_state"]) X G a17 l17 c17 k17 fun _ _ _ _ _ _ => zi0 (fun _ => rfl)
  have D_l_set := zn7 (st := ya5) (ps := ["_law_script", "_law_row_here", "_law_flat", "_law_hang", "_law_state", "_law_salt"]) X G a18 l18 c18 k18 fun _ _ _ _ _ _ => zi0 (fun _ _ _ _ _ _ => rfl)
  have D_l_drawn := zn7 (st := zv3) (ps := ["_law_script", "_law_row_here", "_law_salt"]) X G a19 l19 c19 k19 fun _ _ _ _ _ _ => zi0 (fun _ _ _ => rfl)
  have D_l_taken := zn7 (st := zv4) (ps := ["_law_row_here", "_law_flat", "_law_choices"]) X G a20 l20 c20 k20 fun _ _ _ _ _ _ => zi0 (fun _ _ _ => rfl)
  have D_law := zn7 (st := yc3) (ps := ["_law_script"]) X G a21 l21 c21 k21 fun _ _ _ _ _ _ => zi0 (fun _ => rfl)
  obtain ⟨κ, hκ⟩ : ∃ κ, κ = (kap [("Place", C_Place), ("Setter", C_Setter)]) := ⟨_, rfl⟩
  have eK_Place : κ "Place" = C_Place := by rw [hκ]; simp [kap, zd0]
  have cl_Place : Cls K (κ "Place") := by rw [eK_Place]; exact ⟨pg_Place, hd_Place, po_Place, sa_Place⟩
  have K_Place : Kn K mg κ "Place" "Place.__init__" zn5 ["self", "broken", "margin"] f_Place_init _ := ⟨(zq4 lo_Place_init co_Place_init ke_Place_init), ((zq4 lo_Place_init co_Place_init ke_Place_init).binds fun _ _ _ _ _ _ => zi0 (fun _ _ _ => rfl)), (by rw [eK_Place]; exact ⟨mk_Place, fi_Place_init, is_Place_init, kc_Place⟩), (by rw [eK_Place]; exact PySem.W.mg_of X G gC_Place)⟩
  have na_broken : zg9 K (κ "Place") "broken" := by rw [eK_Place]; exact nf_broken
  have na_margin : zg9 K (κ "Place") "margin" := by rw [eK_Place]; exact nf_margin
  have eK_Setter : κ "Setter" = C_Setter := by rw [hκ]; simp [kap, zd0]
  have cl_Setter : Cls K (κ "Setter") := by rw [eK_Setter]; exact ⟨pg_Setter, hd_Setter, po_Setter, sa_Setter⟩
  have K_Setter : Kn K mg κ "Setter" "Setter.__init__" zo5 ["self", "choices"] f_Setter_init _ := ⟨(zq4 lo_Setter_init co_Setter_init ke_Setter_init), ((zq4 lo_Setter_init co_Setter_init ke_Setter_init).binds fun _ _ _ _ _ _ => zi0 (fun _ _ => rfl)), (by rw [eK_Setter]; exact ⟨mk_Setter, fi_Setter_init, is_Setter_init, kc_Setter⟩), (by rw [eK_Setter]; exact PySem.W.mg_of X G gC_Setter)⟩
  have M_Setter_choice_below : Mn K κ "Setter" "choice_below" "Setter.choice_below" zj0 ["self", "count"] f_Setter_choice_below _ := ⟨(zq4 lo_Setter_choice_below co_Setter_choice_below ke_Setter_choice_below), ((zq4 lo_Setter_choice_below co_Setter_choice_below ke_Setter_choice_below).binds fun _ _ _ _ _ _ => zi0 (fun _ _ => rfl)), cl_Setter, (by rw [eK_Setter]; exact ⟨fi_Setter_choice_below, is_Setter_choice_below, ke_Setter_choice_below⟩)⟩
  have M_Setter_set_plain : Mn K κ "Setter" "set_plain" "Setter.set_plain" zk5 ["self", "piece", "place"] f_Setter_set_plain _ := ⟨(zq4 lo_Setter_set_plain co_Setter_set_plain ke_Setter_set_plain), ((zq4 lo_Setter_set_plain co_Setter_set_plain ke_Setter_set_plain).binds fun _ _ _ _ _ _ => zi0 (fun _ _ _ => rfl)), cl_Setter, (by rw [eK_Setter]; exact ⟨fi_Setter_set_plain, is_Setter_set_plain, ke_Setter_set_plain⟩)⟩
  have M_Setter_set_holder : Mn K κ "Setter" "set_holder" "Setter.set_holder" zk0 ["self", "piece", "place"] f_Setter_set_holder _ := ⟨(zq4 lo_Setter_set_holder co_Setter_set_holder ke_Setter_set_holder), ((zq4 lo_Setter_set_holder co_Setter_set_holder ke_Setter_set_holder).binds fun _ _ _ _ _ _ => zi0 (fun _ _ _ => rfl)), cl_Setter, (by rw [eK_Setter]; exact ⟨fi_Setter_set_holder, is_Setter_set_holder, ke_Setter_set_holder⟩)⟩
  have M_Setter_set_row : Mn K κ "Setter" "set_row" "Setter.set_row" zk3 ["self", "row", "place"] f_Setter_set_row _ := ⟨(zq4 lo_Setter_set_row co_Setter_set_row ke_Setter_set_row), ((zq4 lo_Setter_set_row co_Setter_set_row ke_Setter_set_row).binds fun _ _ _ _ _ _ => zi0 (fun _ _ _ => rfl)), cl_Setter, (by rw [eK_Setter]; exact ⟨fi_Setter_set_row, is_Setter_set_row, ke_Setter_set_row⟩)⟩
  have M_Setter_whole_text : Mn K κ "Setter" "whole_text" "Setter.whole_text" zk1 ["self"] f_Setter_whole_text _ := ⟨(zq4 lo_Setter_whole_text co_Setter_whole_text ke_Setter_whole_text), ((zq4 lo_Setter_whole_text co_Setter_whole_text ke_Setter_whole_text).binds fun _ _ _ _ _ _ => zi0 (fun _ => rfl)), cl_Setter, (by rw [eK_Setter]; exact ⟨fi_Setter_whole_text, is_Setter_whole_text, ke_Setter_whole_text⟩)⟩
  have na_choices : zg9 K (κ "Setter") "choices" := by rw [eK_Setter]; exact nf_choices
  have na_used : zg9 K (κ "Setter") "used" := by rw [eK_Setter]; exact nf_used
  have na_column : zg9 K (κ "Setter") "column" := by rw [eK_Setter]; exact nf_column
  have na_parts : zg9 K (κ "Setter") "parts" := by rw [eK_Setter]; exact nf_parts
  have z_len := PySem.W.mg_none_of X G z0
  have z_max := PySem.W.mg_none_of X G z1
  have z_range := PySem.W.mg_none_of X G z2
  have z_tuple := PySem.W.mg_none_of X G z3
  have z_int := PySem.W.mg_none_of X G z4
  have z_list := PySem.W.mg_none_of X G z5
  have z_isinstance := PySem.W.mg_none_of X G z6
  have z_str := PySem.W.mg_none_of X G z7
  have g_HOLDERS := PySem.W.mg_of X G g0
  have k_HOLDERS : ∀ H, Rep K κ H (.ref aHOLDERS) (.tup [(.str "group"), (.str "hang"), (.str "either")]) [] := fun H => wk5 (ys := [("group", uHOLDERS_0), ("hang", uHOLDERS_1), ("either", uHOLDERS_2)]) dtHOLDERS (Nat.le_of_ble_eq_true rfl) H
  refine ⟨PySem.W.fnOf "law" "law" (zg2 yc3) (zf2 yc3) (zb1 yc3) .none kV21 dc21 pm21 an21 cd21 ct21, fun s v => .of_eq rfl, fun base _ _ => ?_⟩
  have H1 := xn7 (P := l.prog) (w := w) (base := base) (n := 0) D_l_cell_at z_len
  have H2 := xy1 (n := 1) D_l_mixed D_l_cell_at H1 z_len z_max
  have G_l_mixed := kc5 (κ := κ) H2
  have G_l_cell_at := kb0 (κ := κ) H1
  have G_l_shut := we7 (P := l.prog) (w := w) (base := base) (κ := κ) (n := 0) D_l_shut z_tuple z_len
  have G_l_word := we5 (P := l.prog) (w := w) (base := base) (κ := κ) (n := 0) D_l_word z_range
  have G_l_leaf := we6 (P := l.prog) (w := w) (base := base) (κ := κ) (n := 1) D_l_leaf D_l_word (G_l_word.mono (by decide))
  have G_l_row := wk9 (P := l.prog) (w := w) (base := base) (κ := κ) (n := 2) D_l_row D_l_mixed (G_l_mixed.mono (by decide)) D_l_shut (G_l_shut.mono (by decide)) D_l_leaf (G_l_leaf.mono (by decide)) z_range z_tuple z_len
  have G_l_line := wf0 (P := l.prog) (w := w) (base := base) (κ := κ) (n := 0) D_l_line
  have G_l_column := xr2 (P := l.prog) (w := w) (base := base) (κ := κ) (n := 0) D_l_column z_len
  have G_l_next := we8 (P := l.prog) (w := w) (base := base) (κ := κ) (n := 2) D_l_next D_l_mixed (G_l_mixed.mono (by decide)) D_l_cell_at (G_l_cell_at.mono (by decide))
  have L_l_set : ∀ n, FnOk l.prog w K mg base CX0 (n + 3) _ _ ["_law_script", "_law_row_here", "_law_flat", "_law_hang", "_law_state", "_law_salt"] (SpE 6 K κ (zc8 [false, false, false, false, true, false]) (zz7 (ye6 wa4 xk9) n)) := fun n => by
    induction n with
    | zero => exact FnOk.noneE (ps := ["_law_script", "_law_row_here", "_law_flat", "_law_hang", "_law_state", "_law_salt"])
    | succ n ih => exact wl0 D_l_set D_l_line (G_l_line.mono (by omega)) D_l_column (G_l_column.mono (by omega)) D_l_next (G_l_next.mono (by omega)) ih z_len z_int
  have G_l_set := L_l_set 8
  have G_l_drawn := xy2 (P := l.prog) (w := w) (base := base) (κ := κ) (n := 11) D_l_drawn D_l_set (G_l_set.mono (by decide)) z_tuple
  have G_Setter_init := xf1 (P := l.prog) (w := w) (base := base) (κ := κ) (n := 0) K_Setter cl_Setter na_choices na_used na_column na_parts
  have G_p_holds_rows := xa5 (P := l.prog) (w := w) (base := base) (κ := κ) (n := 0) D_p_holds_rows g_HOLDERS k_HOLDERS
  have G_p_new_line := xj2 (P := l.prog) (w := w) (base := base) (κ := κ) (n := 0) D_p_new_line
  have G_p_writing := xn8 (P := l.prog) (w := w) (base := base) (κ := κ) (n := 1) D_p_writing D_p_new_line (G_p_new_line.mono (by decide)) cl_Place na_broken na_margin
  have G_p_ends_line := xe9 (P := l.prog) (w := w) (base := base) (κ := κ) (n := 0) D_p_ends_line
  have G_p_column_behind := ys2 (P := l.prog) (w := w) (base := base) (κ := κ) (n := 1) D_p_column_behind D_p_ends_line (G_p_ends_line.mono (by decide)) z_len
  have G_Setter_set_plain := yq3 (P := l.prog) (w := w) (base := base) (κ := κ) (n := 2) M_Setter_set_plain D_p_writing (G_p_writing.mono (by decide)) D_p_column_behind (G_p_column_behind.mono (by decide)) cl_Setter na_column na_parts
  have G_Place_init := xj4 (P := l.prog) (w := w) (base := base) (κ := κ) (n := 0) K_Place cl_Place na_broken na_margin
  have G_p_ways := we4 (P := l.prog) (w := w) (base := base) (κ := κ) (n := 1) D_p_ways K_Place (G_Place_init.mono (by decide)) cl_Place na_broken na_margin
  have G_p_takes_choice := yv7 (P := l.prog) (w := w) (base := base) (κ := κ) (n := 0) D_p_takes_choice cl_Place na_broken
  have G_Setter_choice_below := yk1 (P := l.prog) (w := w) (base := base) (κ := κ) (n := 0) M_Setter_choice_below cl_Setter na_used na_choices z_len
  have L_Setter_set_row : ∀ n, FnOk l.prog w K mg base CX0 (2 * n + 3) _ _ ["self", "row", "place"] (SpE 3 K κ (zc8 [true, false, false]) (yg6 n)) := fun n => by
    induction n with
    | zero => exact FnOk.noneE (ps := ["self", "row", "place"])
    | succ n ih => exact yv8 (n := 2 * n + 4) M_Setter_set_row D_p_holds_rows (G_p_holds_rows.mono (by omega)) M_Setter_set_holder (yn5 (n := 2 * n + 3) M_Setter_set_holder D_p_ways (G_p_ways.mono (by omega)) D_p_takes_choice (G_p_takes_choice.mono (by omega)) M_Setter_choice_below (G_Setter_choice_below.mono (by omega)) M_Setter_set_row ih z_len) M_Setter_set_plain (G_Setter_set_plain.mono (by omega))
  have G_Setter_set_row := L_Setter_set_row 8
  have G_p_first_place := yx3 (P := l.prog) (w := w) (base := base) (κ := κ) (n := 1) D_p_first_place K_Place (G_Place_init.mono (by decide))
  have G_Setter_whole_text := yn7 (P := l.prog) (w := w) (base := base) (κ := κ) (n := 0) M_Setter_whole_text cl_Setter na_used na_parts na_choices z_len
  have G_p_set_by := xr0 (P := l.prog) (w := w) (base := base) (κ := κ) (n := 18) D_p_set_by K_Setter (G_Setter_init.mono (by decide)) M_Setter_set_row (G_Setter_set_row.mono (by decide)) D_p_first_place (G_p_first_place.mono (by decide)) M_Setter_whole_text (G_Setter_whole_text.mono (by decide))
  have L_l_taken : ∀ n, FnOk l.prog w K mg base CX0 (n + 0) _ _ ["_law_row_here", "_law_flat", "_law_choices"] (SpE 3 K κ (zc8 [false, false, true]) (zp9 n)) := fun n => by
    induction n with
    | zero => exact FnOk.noneE (ps := ["_law_row_here", "_law_flat", "_law_choices"])
    | succ n ih => exact xy3 D_l_taken ih
  have G_l_taken := L_l_taken 8
  have G_law := ww7 (P := l.prog) (w := w) (base := base) (κ := κ) (n := 20) D_law D_l_mixed (G_l_mixed.mono (by decide)) D_l_row (G_l_row.mono (by decide)) D_l_drawn (G_l_drawn.mono (by decide)) D_p_set_by (G_p_set_by.mono (by decide)) D_l_taken (G_l_taken.mono (by decide)) z_range z_list z_isinstance z_str
  exact kc6 G_law fun ns hl => xz6 (by decide) (by decide) (by decide) (ye9 ns) (fun j s h0 h1 h2 h3 => wn3 hl j s h0 h1 h2 h3) (fun j _ _ => ⟨_, wh9 ns j⟩)
end My
open PySem PySem.W PyProof.Rows
set_option maxRecDepth 100000 in
set_option maxHeartbeats 0 in
theorem PySem.Challenge.cw_linepress_k14_words_kept_holds : PySem.Challenge.rw_linepress_k14_words_kept.Holds := by
  w_on; o_law; k_head; (case hw => w_witness2)
  k_fill
  refine My.kc7 (lev := 21) (l := PySem.Challenge.rw_linepress_k14_words_kept) rfl rfl ⟨rfl, by decide, by decide⟩ (fun w h Y => PySem.W.kIn_of Y) ?F
  case F =>
    intro w mg fa h KX G hmg
    refine' My.wy0 KX G hmg ?my_a0 ?my_l0 ?my_c0 ?my_k0 ?my_a1 ?my_l1 ?my_c1 ?my_k1 ?my_a2 ?my_l2 ?my_c2 ?my_k2 ?my_a3 ?my_l3 ?my_c3 ?my_k3 ?my_a4 ?my_l4 ?my_c4 ?my_k4 ?my_a5 ?my_l5 ?my_c5 ?my_k5 ?my_a6 ?my_l6 ?my_c6 ?my_k6 ?my_a7 ?my_l7 ?my_c7 ?my_k7 ?my_a8 ?my_l8 ?my_c8 ?my_k8 ?my_a9 ?my_l9 ?my_c9 ?my_k9 ?my_a10 ?my_l10 ?my_c10 ?my_k10 ?my_a11 ?my_l11 ?my_c11 ?my_k11 ?my_a12 ?my_l12 ?my_c12 ?my_k12 ?my_a13 ?my_l13 ?my_c13 ?my_k13 ?my_a14 ?my_l14 ?my_c14 ?my_k14 ?my_a15 ?my_l15 ?my_c15 ?my_k15 ?my_a16 ?my_l16 ?my_c16 ?my_k16 ?my_a17 ?my_l17 ?my_c17 ?my_k17 ?my_a18 ?my_l18 ?my_c18 ?my_k18 ?my_a19 ?my_l19 ?my_c19 ?my_k19 ?my_a20 ?my_l20 ?my_c20 ?my_k20 ?my_a21 ?my_l21 ?my_c21 ?my_k21 ?my_z0 ?my_z1 ?my_z2 ?my_z3 ?my_z4 ?my_z5 ?my_z6 ?my_z7 ?my_g0 ?my_dtHOLDERS ?my_gC_Place ?my_pg_Place ?my_hd_Place ?my_po_Place ?my_sa_Place ?my_mk_Place ?my_kc_Place ?my_fi_Place_init ?my_is_Place_init ?my_lo_Place_init ?my_co_Place_init ?my_ke_Place_init ?my_nf_broken ?my_nf_margin ?my_gC_Setter ?my_pg_Setter ?my_hd_Setter ?my_po_Setter ?my_sa_Setter ?my_mk_Setter ?my_kc_Setter ?my_fi_Setter_init ?my_is_Setter_init ?my_lo_Setter_init ?my_co_Setter_init ?my_ke_Setter_init ?my_fi_Setter_choice_below ?my_is_Setter_choice_below ?my_lo_Setter_choice_below ?my_co_Setter_choice_below ?my_ke_Setter_choice_below ?my_fi_Setter_set_plain ?my_is_Setter_set_plain ?my_lo_Setter_set_plain ?my_co_Setter_set_plain ?my_ke_Setter_set_plain ?my_fi_Setter_set_holder ?my_is_Setter_set_holder ?my_lo_Setter_set_holder ?my_co_Setter_set_holder ?my_ke_Setter_set_holder ?my_fi_Setter_set_row ?my_is_Setter_set_row ?my_lo_Setter_set_row ?my_co_Setter_set_row ?my_ke_Setter_set_row ?my_fi_Setter_whole_text ?my_is_Setter_whole_text ?my_lo_Setter_whole_text ?my_co_Setter_whole_text ?my_ke_Setter_whole_text ?my_nf_choices ?my_nf_used ?my_nf_column ?my_nf_parts
    (case my_a0 => k_is)
    (case my_l0 => k_is)
    (case my_c0 => k_is)
    (case my_k0 => k_is)
    (case my_a1 => k_is)
    (case my_l1 => k_is)
    (case my_c1 => k_is)
    (case my_k1 => k_is)
    (case my_a2 => k_is)
    (case my_l2 => k_is)
    (case my_c2 => k_is)
    (case my_k2 => k_is)
    (case my_a3 => k_is)
    (case my_l3 => k_is)
    (case my_c3 => k_is)
    (case my_k3 => k_is)
    (case my_a4 => k_is)
    (case my_l4 => k_is)
    (case my_c4 => k_is)
    (case my_k4 => k_is)
    (case my_a5 => k_is)
    (case my_l5 => k_is)
    (case my_c5 => k_is)
    (case my_k5 => k_is)
    (case my_a6 => k_is)
    (case my_l6 => k_is)
    (case my_c6 => k_is)
    (case my_k6 => k_is)
    (case my_a7 => k_is)
    (case my_l7 => k_is)
    (case my_c7 => k_is)
    (case my_k7 => k_is)
    (case my_a8 => k_is)
    (case my_l8 => k_is)
    (case my_c8 => k_is)
    (case my_k8 => k_is)
    (case my_a9 => k_is)
    (case my_l9 => k_is)
    (case my_c9 => k_is)
    (case my_k9 => k_is)
    (case my_a10 => k_is)
    (case my_l10 => k_is)
    (case my_c10 => k_is)
    (case my_k10 => k_is)
    (case my_a11 => k_is)
    (case my_l11 => k_is)
    (case my_c11 => k_is)
    (case my_k11 => k_is)
    (case my_a12 => k_is)
    (case my_l12 => k_is)
    (case my_c12 => k_is)
    (case my_k12 => k_is)
    (case my_a13 => k_is)
    (case my_l13 => k_is)
    (case my_c13 => k_is)
    (case my_k13 => k_is)
    (case my_a14 => k_is)
    (case my_l14 => k_is)
    (case my_c14 => k_is)
    (case my_k14 => k_is)
    (case my_a15 => k_is)
    (case my_l15 => k_is)
    (case my_c15 => k_is)
    (case my_k15 => k_is)
    (case my_a16 => k_is)
    (case my_l16 => k_is)
    (case my_c16 => k_is)
    (case my_k16 => k_is)
    (case my_a17 => k_is)
    (case my_l17 => k_is)
    (case my_c17 => k_is)
    (case my_k17 => k_is)
    (case my_a18 => k_is)
    (case my_l18 => k_is)
    (case my_c18 => k_is)
    (case my_k18 => k_is)
    (case my_a19 => k_is)
    (case my_l19 => k_is)
    (case my_c19 => k_is)
    (case my_k19 => k_is)
    (case my_a20 => k_is)
    (case my_l20 => k_is)
    (case my_c20 => k_is)
    (case my_k20 => k_is)
    (case my_a21 => k_is)
    (case my_l21 => k_is)
    (case my_c21 => k_is)
    (case my_k21 => k_is)
    (case my_z0 => k_is)
    (case my_z1 => k_is)
    (case my_z2 => k_is)
    (case my_z3 => k_is)
    (case my_z4 => k_is)
    (case my_z5 => k_is)
    (case my_z6 => k_is)
    (case my_z7 => k_is)
    (case my_g0 => k_is)
    (case my_dtHOLDERS => k_is)
    (case my_gC_Place => k_is)
    (case my_pg_Place => k_is)
    (case my_hd_Place => k_is)
    (case my_po_Place => k_is)
    (case my_sa_Place => k_is)
    (case my_mk_Place => k_is)
    (case my_kc_Place => k_is)
    (case my_fi_Place_init => k_is)
    (case my_is_Place_init => k_is)
    (case my_lo_Place_init => k_is)
    (case my_co_Place_init => k_is)
    (case my_ke_Place_init => k_is)
    (case my_nf_broken => k_is)
    (case my_nf_margin => k_is)
    (case my_gC_Setter => k_is)
    (case my_pg_Setter => k_is)
    (case my_hd_Setter => k_is)
    (case my_po_Setter => k_is)
    (case my_sa_Setter => k_is)
    (case my_mk_Setter => k_is)
    (case my_kc_Setter => k_is)
    (case my_fi_Setter_init => k_is)
    (case my_is_Setter_init => k_is)
    (case my_lo_Setter_init => k_is)
    (case my_co_Setter_init => k_is)
    (case my_ke_Setter_init => k_is)
    (case my_fi_Setter_choice_below => k_is)
    (case my_is_Setter_choice_below => k_is)
    (case my_lo_Setter_choice_below => k_is)
    (case my_co_Setter_choice_below => k_is)
    (case my_ke_Setter_choice_below => k_is)
    (case my_fi_Setter_set_plain => k_is)
    (case my_is_Setter_set_plain => k_is)
    (case my_lo_Setter_set_plain => k_is)
    (case my_co_Setter_set_plain => k_is)
    (case my_ke_Setter_set_plain => k_is)
    (case my_fi_Setter_set_holder => k_is)
    (case my_is_Setter_set_holder => k_is)
    (case my_lo_Setter_set_holder => k_is)
    (case my_co_Setter_set_holder => k_is)
    (case my_ke_Setter_set_holder => k_is)
    (case my_fi_Setter_set_row => k_is)
    (case my_is_Setter_set_row => k_is)
    (case my_lo_Setter_set_row => k_is)
    (case my_co_Setter_set_row => k_is)
    (case my_ke_Setter_set_row => k_is)
    (case my_fi_Setter_whole_text => k_is)
    (case my_is_Setter_whole_text => k_is)
    (case my_lo_Setter_whole_text => k_is)
    (case my_co_Setter_whole_text => k_is)
    (case my_ke_Setter_whole_text => k_is)
    (case my_nf_choices => k_is)
    (case my_nf_used => k_is)
    (case my_nf_column => k_is)
    (case my_nf_parts => k_is)
#print axioms PySem.Challenge.cw_linepress_k14_words_kept_holds

