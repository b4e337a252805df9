import PyProof.Rows.All
import Wide.All
import OpenK.AllK
import Wide.FinOn
import Lean
import PyProof.EqAt
import PyProof.EqKinds
import PyProof.TupleCall
import PySem.Challenge.RW_linepress_k16_read_back
set_option Elab.async false
set_option bootstrap.genMatcherCode false
set_option linter.all false
set_option maxRecDepth 100000
set_option maxHeartbeats 1000000
namespace L2
open PySem PySem.Spec PyProof.Rows
noncomputable abbrev Key := Sum Int Str
noncomputable def ys7 : Key -> Value -> Bool
  | .inl k, v => Value.isInt k v
  | .inr x, v => Value.isStrOf x v
noncomputable def wz4 (w : World) : Key -> Int
  | .inl k => hashInt k
  | .inr x => hashStr w x
theorem zp8 : ∀ {k : Key} {v : Value}, ys7 k v = true -> (∃ i t, k = Sum.inl i /\ v = Value.int i t) \/ (∃ x t, k = Sum.inr x /\ v = Value.str x t)
  | .inl i, v, h => by
    obtain ⟨t, e⟩ := Value.isInt_shape (k := i) (v := v) h
    exact .inl ⟨i, t, rfl, e⟩
  | .inr x, v, h => by
    obtain ⟨t, e⟩ := Value.isStrOf_shape (x := x) (v := v) h
    exact .inr ⟨x, t, rfl, e⟩
theorem xw7 (i : Int) (t : Tok) : ys7 (.inl i) (.int i t) = true := by simp [ys7, Value.isInt]
theorem xw8 (x : Str) (t : Tok) : ys7 (.inr x) (.str x t) = true := by simp [ys7, Value.isStrOf]
theorem wo6 (a b : Int) : decide ((Sum.inl a : Key) = Sum.inl b) = (a == b) := by
  by_cases e : a = b
  . subst e; simp
  . have h : ¬ (Sum.inl a : Key) = Sum.inl b := fun q => e (Sum.inl.inj q)
    rw [decide_eq_false h]
    exact (beq_eq_false_iff_ne.mpr e).symm
theorem wo7 (a b : Str) : decide ((Sum.inr a : Key) = Sum.inr b) = decide (a = b) := by
  by_cases e : a = b
  . subst e; simp
  . have h : ¬ (Sum.inr a : Key) = Sum.inr b := fun q => e (Sum.inr.inj q)
    rw [decide_eq_false h, decide_eq_false e]
theorem wo8 (a : Int) (b : Str) : decide ((Sum.inl a : Key) = Sum.inr b) = false := decide_eq_false (fun q => nomatch q)
theorem wo9 (a : Str) (b : Int) : decide ((Sum.inr a : Key) = Sum.inl b) = false := decide_eq_false (fun q => nomatch q)
noncomputable def zx1 (prog : Program) (w : World) : PySem.KeyKind prog w Key where
  is := ys7
  hash := wz4 w
  inj := fun v a b ha hb => by
    rcases zp8 ha with ⟨i, t, rfl, rfl⟩ | ⟨x, t, rfl, rfl⟩
    . rcases zp8 hb with ⟨j, u, rfl, e⟩ | ⟨y, u, rfl, e⟩
      . injection e with e1 _; rw [e1]
      . exact nomatch e
    . rcases zp8 hb with ⟨j, u, rfl, e⟩ | ⟨y, u, rfl, e⟩
      . exact nomatch e
      . injection e with e1 _; rw [e1]
  byValue := fun k v h => by
    rcases zp8 h with ⟨i, t, rfl, rfl⟩ | ⟨x, t, rfl, rfl⟩ <;> rfl
  pyHash := fun hv h => by
    rcases zp8 hv with ⟨i, t, rfl, rfl⟩ | ⟨x, t, rfl, rfl⟩
    . exact wpAny_pyHash_int h
    . exact wpAny_pyHash_str h
  eqBool := fun hu hv h => by
    rcases zp8 hu with ⟨i, t, rfl, rfl⟩ | ⟨x, t, rfl, rfl⟩
    . rcases zp8 hv with ⟨j, u, rfl, rfl⟩ | ⟨y, u, rfl, rfl⟩
      . rw [wo6] at h; exact wpAny_eqBool_int h
      . rw [wo8] at h; exact SeqAt.EqAt.int_str i t y u _ _ _ _ h
    . rcases zp8 hv with ⟨j, u, rfl, rfl⟩ | ⟨y, u, rfl, rfl⟩
      . rw [wo9] at h; exact SeqAt.EqAt.str_int x t j u _ _ _ _ h
      . rw [wo7] at h; exact wpAny_eqBool_str h
  «strs» := fun k x t v h => by
    rcases zp8 h with ⟨i, u, rfl, e⟩ | ⟨y, u, rfl, e⟩
    . exact nomatch e
    . injection e with e1 _
      subst e1
      cases v <;> rfl
theorem xn6 (prog : Program) (w : World) (i : Int) (t : Tok) : (zx1 prog w).is (.inl i) (.int i t) = true := xw7 i t
theorem zk6 (prog : Program) (w : World) (x : Str) (t : Tok) : (zx1 prog w).is (.inr x) (.str x t) = true := xw8 x t
end L2
namespace L2
open PySem PySem.Spec PyProof.Rows
inductive V where
  | non | bl (b : Bool) | int (i : Int) | str (x : Str) | byt (b : Array UInt8) | flt (b : UInt64) | ref (a : Addr) | ty (n : String)
  deriving DecidableEq
noncomputable def zi6 : V -> Value -> Prop
  | .non, u => u = Value.none
  | .bl b, u => u = Value.bool b
  | .int i, u => ∃ t, u = Value.int i t
  | .str x, u => ∃ t, u = Value.str x t
  | .byt b, u => ∃ t, u = Value.bytes b t
  | .flt b, u => ∃ t, u = Value.float b t
  | .ref a, u => u = Value.ref a
  | .ty n, u => u = Value.type n
noncomputable abbrev zf5 : List V -> List Value -> Prop := Paired zi6
theorem zf5.length {xs : List V} {us : List Value} (r : zf5 xs us) : xs.length = us.length := Paired.length r
theorem zf5.get : ∀ {xs : List V} {us : List Value} {i : Nat} {x : V}, zf5 xs us -> xs[i]? = some x -> ∃ u, us[i]? = some u /\ zi6 x u
  | _, _, _, _, .nil, e => by simp at e
  | _, _, 0, _, .cons r _, e => by simp at e; subst e; exact ⟨_, rfl, r⟩
  | _, _, i + 1, x, .cons _ t, e => by
    obtain ⟨u, h1, h2⟩ := zf5.get (i := i) (x := x) t (by simpa using e)
    exact ⟨u, by simpa using h1, h2⟩
theorem zf5.set {x : V} {u : Value} (r : zi6 x u) : ∀ {xs : List V} {us : List Value} (i : Nat), zf5 xs us -> zf5 (xs.set i x) (us.set i u)
  | _, _, _, .nil => .nil
  | _, _, 0, .cons _ t => .cons r t
  | _, _, i + 1, .cons q t => .cons q (zf5.set r i t)
theorem zf5.append : ∀ {xs ys : List V} {us ws : List Value}, zf5 xs us -> zf5 ys ws -> zf5 (xs ++ ys) (us ++ ws)
  | _, _, _, _, .nil, s => s
  | _, _, _, _, .cons r t, s => .cons r (zf5.append t s)
theorem zf5.take : ∀ {xs : List V} {us : List Value} (n : Nat), zf5 xs us -> zf5 (xs.take n) (us.take n)
  | _, _, 0, _ => .nil
  | _, _, _ + 1, .nil => .nil
  | _, _, n + 1, .cons r t => .cons r (zf5.take n t)
theorem zf5.drop : ∀ {xs : List V} {us : List Value} (n : Nat), zf5 xs us -> zf5 (xs.drop n) (us.drop n)
  | _, _, 0, r => r
  | _, _, _ + 1, .nil => .nil
  | _, _, n + 1, .cons _ t => zf5.drop n t
noncomputable def ya5 : Option V -> Option Value -> Prop
  | some v, some u => zi6 v u
  | none, none => True
  | _, _ => False
noncomputable def KV {κ : Type} : List (κ × V) -> List (κ × Value) -> Prop := Paired fun (p : κ × V) (q : κ × Value) => p.1 = q.1 /\ zi6 p.2 q.2
noncomputable def kV : Key -> V
  | .inl i => .int i
  | .inr x => .str x
inductive HO where
  | lst (xs : List V)
  | tup (xs : List V)
  | dK (kvs : List (Key × V)) | dT (kvs : List (List Key × V))
  | set (S : Int -> Bool) (n : Nat)
  | ins (C dx : Addr) (fs : List (Str × V))
  | own (x : Addr)
  | xd (fs : List (Str × V))
  | met (f x : Addr)
  | rng (lo hi : Int)
  | frz (o : Obj) (u : HO)
  | tbl (ps : Array Value)
  | ext (φ : Heap -> Prop)
noncomputable abbrev Hp := Addr -> Option HO
noncomputable def upd (H : Hp) (a : Addr) (o : HO) : Hp := fun b => if b = a then some o else H b
theorem zm0 {H : Hp} {a : Addr} {o : HO} : upd H a o a = some o := by unfold upd; rw [if_pos rfl]
theorem zi0 {H : Hp} {a b : Addr} {o : HO} (h : b ≠ a) : upd H a o b = H b := by unfold upd; rw [if_neg h]
theorem zz4 {H : Hp} {a b : Addr} {o : HO} (h : H a = some o) (h' : H b = none) : a ≠ b := by
  intro e; subst e; rw [h] at h'; cases h'
section
variable (P : Program) (w : World)
noncomputable def zp0 (H : Hp) (h : Heap) (a : Addr) : HO -> Prop
  | .lst xs => xs.length <= sizeLine /\ ∃ (its : List Value) (n : Nat), zf5 xs its /\ h.get? a = some { cls := .type "list", data := .seq its.toArray n }
  | .tup xs => xs.length <= sizeLine /\ ∃ its : List Value, zf5 xs its /\ IsTup h a its.toArray
  | .dK kvs => kvs.length <= sizeLine /\ (a == sysModules) = false /\ ∃ vs, KV kvs vs /\ h.DictOf (zx1 P w) a vs
  | .dT kvs => kvs.length <= sizeLine /\ (a == sysModules) = false /\ ∃ xs : List (List Key × Addr × Value),
      Paired (fun (p : List Key × V) (q : List Key × Addr × Value) => p.1 = q.1 /\ H q.2.1 = some (.tup (p.1.map kV)) /\ zi6 p.2 q.2.2) kvs xs /\
      ∃ o es ep, h.get? a = some o /\ o.ExactDict /\ o.data = .dict es ep /\ es.toList = xs.map (entryOfKey (tupleKind (zx1 P w))) /\ (xs.map (·.1)).Nodup
  | .set S n => h.SetOf (intKind P w) a S n
  | .ins C dx fs => H dx = some (.own a) /\ fs.length <= 1000 /\ dx ≠ a /\ h.get? a = some (PySem.W.instObj C dx) /\
      ∃ mA, h.Ns1 dx mA /\ (∀ f, ya5 (fs.lookup f) (mA f)) /\ PySem.Within mA (fs.map (·.1))
  | .own _ => ∃ o, h.get? a = some o
  | .xd fs => ∃ mA, h.Ns1 a mA /\ ∀ f, ya5 (fs.lookup f) (mA f)
  | .rng lo hi => ∃ t u v, h.get? a = some { cls := .type "range", data := .fields #[.int lo t, .int hi u, .int 1 v] }
  | .frz o u => h.get? a = some o /\ zp0 H h a u
  | .tbl ps => h.get? a = some { cls := .none, data := .fields ps }
  | .met f x => h.get? a = some (PySem.W.methodObj (.ref f) (.ref x))
  | .ext φ => φ h /\ (∃ o, h.get? a = some o) /\ ∀ h1 h2 : Heap, φ h1 -> (∀ o, h1.get? a = some o -> h2.get? a = some o) -> φ h2
noncomputable def HOk (H : Hp) (h : Heap) : Prop := ∀ a o, H a = some o -> zp0 P w H h a o
end
section
variable {P : Program} {w : World} {H H' : Hp} {h h' : Heap} {a : Addr} {o : HO}
theorem zp0.lt (x : zp0 P w H h a o) : a < h.objs.size := by
  cases o with
  | lst xs => obtain ⟨_, _, _, _, e⟩ := x; exact Heap.lt_size e
  | tup xs => obtain ⟨_, _, _, p⟩ := x; exact p.lt
  | dK kvs => obtain ⟨_, _, _, _, o, _, _, e, _⟩ := x; exact Heap.lt_size e
  | dT kvs => obtain ⟨_, _, _, _, o, _, _, e, _⟩ := x; exact Heap.lt_size e
  | set S n => obtain ⟨o, _, _, _, e, _⟩ := x; exact Heap.lt_size e
  | ins C dx fs => obtain ⟨_, _, _, e, _⟩ := x; exact Heap.lt_size e
  | own y => obtain ⟨_, e⟩ := x; exact Heap.lt_size e
  | xd fs => obtain ⟨_, ⟨_, _, _, e, _⟩, _⟩ := x; exact Heap.lt_size e
  | rng lo hi => obtain ⟨_, _, _, e⟩ := x; exact Heap.lt_size e
  | frz ob u => obtain ⟨e, _⟩ := x; exact Heap.lt_size e
  | tbl ps => exact Heap.lt_size (show h.get? a = some _ from x)
  | met f y => exact Heap.lt_size (show h.get? a = some _ from x)
  | ext φ => obtain ⟨_, ⟨_, e⟩, _⟩ := x; exact Heap.lt_size e
theorem Paired.mapP {α β : Type} {F G : α -> β -> Prop} : ∀ {l₁ : List α} {l₂ : List β}, Paired F l₁ l₂ -> (∀ a b, F a b -> G a b) -> Paired G l₁ l₂
  | _, _, .nil, _ => .nil
  | _, _, .cons r t, f => .cons (f _ _ r) (Paired.mapP t f)
theorem zp0.stay (x : zp0 P w H h a o) (k : ∀ b u, (b = a \/ H b = some (.own a)) -> h.get? b = some u -> h'.get? b = some u)
    (ho : ∀ b, H b = some (.own a) -> H' b = some (.own a)) (ht : ∀ b xs, H b = some (.tup xs) -> H' b = some (.tup xs)) : zp0 P w H' h' a o := by
  induction o with
  | lst xs => obtain ⟨z, its, n, r, e⟩ := x; exact ⟨z, its, n, r, k _ _ (.inl rfl) e⟩
  | tup xs => obtain ⟨z, its, r, ob, e, c⟩ := x; exact ⟨z, its, r, ob, k _ _ (.inl rfl) e, c⟩
  | dK kvs => obtain ⟨z, y, vs, r, ob, es, ep, e, c⟩ := x; exact ⟨z, y, vs, r, ob, es, ep, k _ _ (.inl rfl) e, c⟩
  | dT kvs =>
    obtain ⟨z, y, xs, r, ob, es, ep, e, c⟩ := x
    exact ⟨z, y, xs, Paired.mapP r fun p q z => ⟨z.1, ht _ _ z.2.1, z.2.2⟩, ob, es, ep, k _ _ (.inl rfl) e, c⟩
  | set S n => obtain ⟨ob, es, ep, t, e, c⟩ := x; exact ⟨ob, es, ep, t, k _ _ (.inl rfl) e, c⟩
  | ins C dx fs =>
    obtain ⟨d, z, ne, e, mA, ⟨od, es, ep, e2, c⟩, r⟩ := x
    exact ⟨ho _ d, z, ne, k _ _ (.inl rfl) e, mA, ⟨od, es, ep, k _ _ (.inr d) e2, c⟩, r⟩
  | own y => obtain ⟨ob, e⟩ := x; exact ⟨ob, k _ _ (.inl rfl) e⟩
  | xd fs => obtain ⟨mA, ⟨od, es, ep, e, c⟩, r⟩ := x; exact ⟨mA, ⟨od, es, ep, k _ _ (.inl rfl) e, c⟩, r⟩
  | rng lo hi => obtain ⟨t, u, v, e⟩ := x; exact ⟨t, u, v, k _ _ (.inl rfl) e⟩
  | frz ob u ih => obtain ⟨e, q⟩ := x; exact ⟨k _ _ (.inl rfl) e, ih q⟩
  | tbl ps =>
    have e : h.get? a = some { cls := .none, data := .fields ps } := x
    show h'.get? a = some { cls := .none, data := .fields ps }
    exact k a _ (.inl rfl) e
  | met f y =>
    have e : h.get? a = some (PySem.W.methodObj (.ref f) (.ref y)) := x
    show h'.get? a = some (PySem.W.methodObj (.ref f) (.ref y))
    exact k a _ (.inl rfl) e
  | ext φ => obtain ⟨p, ⟨o, e⟩, st⟩ := x; exact ⟨st _ _ p fun o q => k _ _ (.inl rfl) q, ⟨o, k _ _ (.inl rfl) e⟩, st⟩
theorem HOk.lt (x : HOk P w H h) (e : H a = some o) : a < h.objs.size := (x a o e).lt
theorem HOk.fresh (x : HOk P w H h) (e : h.objs.size <= a) : H a = none := by
  cases q : H a with
  | none => rfl
  | some u => exact absurd (Nat.lt_of_lt_of_le (x.lt q) e) (Nat.lt_irrefl _)
theorem HOk.kept (x : HOk P w H h) (k : ∀ b u, h.get? b = some u -> h'.get? b = some u) : HOk P w H h' := fun a o e =>
  (x a o e).stay (fun b u _ q => k b u q) (fun _ q => q) fun _ _ q => q
theorem HOk.laid (x : HOk P w H h) (k : ∀ b u, h.get? b = some u -> h'.get? b = some u) (hp : h.objs.size <= a) (new : zp0 P w (upd H a o) h' a o) : HOk P w (upd H a o) h' := fun b u e => by
  have hn := x.fresh hp
  by_cases hb : b = a
  . subst hb; rw [zm0] at e; cases e; exact new
  . rw [zi0 hb] at e
    exact (x b u e).stay (fun c v _ q => k c v q) (fun c q => by rw [zi0 (zz4 q hn)]; exact q) fun c xs q => by rw [zi0 (zz4 q hn)]; exact q
end
noncomputable def Rd (H : Hp) (a : Addr) (u : HO) : Prop := H a = some u \/ ∃ o, H a = some (.frz o u)
theorem Rd.ok {P : Program} {w : World} {H : Hp} {h : Heap} {a : Addr} {u : HO} (r : Rd H a u) (x : HOk P w H h) : zp0 P w H h a u := by
  rcases r with r | ⟨o, r⟩
  . exact x a u r
  . obtain ⟨_, q⟩ := x a _ r
    exact q
noncomputable def Mut : Option HO -> Prop
  | some (.lst _) => True
  | some (.dK _) => True
  | some (.dT _) => True
  | some (.set _ _) => True
  | some (.ins _ _ _) => True
  | some (.ext _) => True
  | _ => False
section
variable {P : Program} {w : World} {H : Hp} {h h' : Heap} {x e : Addr} {o' : HO}
theorem HOk.write (ok : HOk P w H h) (mu : Mut (H x)) (he : e = x \/ H e = some (.own x)) (k : ∀ b u, b ≠ e -> h.get? b = some u -> h'.get? b = some u) (heo : ∃ u, h'.get? e = some u)
    (new : zp0 P w (upd H x o') h' x o') : HOk P w (upd H x o') h' := fun b u q => by
  have nown : ∀ c y, H c = some (.own y) -> c ≠ x := fun c y r z => by subst z; rw [r] at mu; exact mu
  have ntup : ∀ c xs, H c = some (.tup xs) -> c ≠ x := fun c xs r z => by subst z; rw [r] at mu; exact mu
  by_cases hb : b = x
  . subst hb; rw [zm0] at q; cases q; exact new
  . rw [zi0 hb] at q
    by_cases hbe : b = e
    . have q' : H b = some (.own x) := by
        rcases he with z | z
        . exact absurd (hbe.trans z) hb
        . rw [hbe]; exact z
      rw [q] at q'; cases q'
      obtain ⟨v, hv⟩ := heo
      exact ⟨v, by rw [hbe]; exact hv⟩
    . refine (ok b u q).stay (fun c v hc r => k c v ?_ r) (fun c r => by rw [zi0 (nown c b r)]; exact r) fun c xs r => by rw [zi0 (ntup c xs r)]; exact r
      rcases hc with rfl | hc
      . exact hbe
      . rintro rfl
        rcases he with z | z
        . exact nown c b hc z
        . rw [hc] at z; cases z; exact hb rfl
end
structure Un (fs ex : List Addr) (H H' : Hp) (h h' : Heap) : Prop where
  keep : ∀ b o, h.get? b = some o -> H b = none -> b ∉ fs -> b ∉ ex -> h'.get? b = some o
  slot : ∀ b o, h.get? b = some o -> H b = none -> b ∈ fs -> b ∉ ex -> ∃ sl, h'.get? b = some { o with slots := sl }
  free : ∀ b o, h.get? b = some o -> H b = none -> b ∉ ex -> H' b = none
  there : ∀ b o, h.get? b = some o -> b ∉ ex -> ∃ o', h'.get? b = some o'
  tups : ∀ b xs, H b = some (.tup xs) -> H' b = some (.tup xs)
  frzs : ∀ b o u, H b = some (.frz o u) -> H' b = some (.frz o u)
  tbls : ∀ b ps, H b = some (.tbl ps) -> ∃ more, H' b = some (.tbl (ps ++ more))
section
variable {fs fs' ex ex' : List Addr} {H H1 H2 : Hp} {h h1 h2 h' : Heap} {a x e : Addr} {o : HO}
theorem Un.any (u : Un fs ex H H1 h h1) {b : Addr} {ob : Obj} (q : h.get? b = some ob) (n : H b = none) (hx : b ∉ ex) : ∃ sl, h1.get? b = some { ob with slots := sl } := by
  by_cases hb : b ∈ fs
  . exact u.slot b ob q n hb hx
  . exact ⟨ob.slots, u.keep b ob q n hb hx⟩
theorem Un.kept (k : ∀ b u, h.get? b = some u -> h'.get? b = some u) : Un fs ex H H h h' :=
  ⟨fun b ob q _ _ _ => k b ob q, fun b ob q _ _ _ => ⟨ob.slots, k b ob q⟩, fun _ _ _ n _ => n, fun b ob q _ => ⟨ob, k b ob q⟩, fun _ _ q => q, fun _ _ _ q => q, fun _ ps q => ⟨#[], by rw [q]; simp⟩⟩
theorem Un.refl : Un fs ex H H h h := Un.kept fun _ _ q => q
theorem Un.laid (k : ∀ b u, h.get? b = some u -> h'.get? b = some u) (hp : h.objs.size <= a) (hn : H a = none) : Un fs ex H (upd H a o) h h' where
  keep := fun b u q _ _ _ => k b u q
  slot := fun b u q _ _ _ => ⟨u.slots, k b u q⟩
  free := fun b u q n _ => by rw [zi0 (Nat.ne_of_lt (Nat.lt_of_lt_of_le (Heap.lt_size q) hp))]; exact n
  there := fun b u q _ => ⟨u, k b u q⟩
  tups := fun b xs q => by rw [zi0 (zz4 q hn)]; exact q
  frzs := fun b u xs q => by rw [zi0 (zz4 q hn)]; exact q
  tbls := fun b ps q => ⟨#[], by rw [zi0 (zz4 q hn), q]; simp⟩
theorem Un.write (mu : Mut (H x)) (he : e = x \/ H e = some (.own x)) (k : ∀ b u, b ≠ e -> h.get? b = some u -> h'.get? b = some u) (heo : ∃ u, h'.get? e = some u) : Un fs ex H (upd H x o) h h' := by
  have hx : ∀ b, H b = none -> b ≠ x := fun b n z => by subst z; rw [n] at mu; exact mu
  have hb : ∀ b, H b = none -> b ≠ e := fun b n z => by
    subst z
    rcases he with r | r
    . exact hx b n r
    . rw [n] at r; cases r
  have hm : ∀ b u, H b = some u -> ¬ Mut (some u) -> b ≠ x := fun b u q nm z => by subst z; rw [q] at mu; exact nm mu
  refine ⟨fun b u q n _ _ => k b u (hb b n) q, fun b u q n _ _ => ⟨u.slots, k b u (hb b n) q⟩, fun b u q n _ => by rw [zi0 (hx b n)]; exact n, fun b u q _ => ?_,
    fun b xs q => by rw [zi0 (hm b _ q fun z => z)]; exact q, fun b u xs q => by rw [zi0 (hm b _ q fun z => z)]; exact q, fun b ps q => ⟨#[], by rw [zi0 (hm b _ q fun z => z), q]; simp⟩⟩
  by_cases hbe : b = e
  . subst hbe; exact heo
  . exact ⟨u, k b u hbe q⟩
end
noncomputable def trk (h : Heap) (H : Hp) : List Addr := (List.range h.objs.size).filter fun a => (H a).isSome
noncomputable def yo2 (h : Heap) (H : Hp) : Heap := PySem.W.hideAll h (trk h H)
theorem xw9 (h : Heap) (H : Hp) : (yo2 h H).objs.size = h.objs.size := PySem.W.hideAll_size _ _
theorem we2 {h : Heap} {H : Hp} {b : Addr} {o : Obj} (e : h.get? b = some o) (n : H b = none) : (yo2 h H).get? b = some o :=
  PySem.W.hideAll_get _ e fun hm => by
    have q : (H b).isSome = true := (List.mem_filter.mp hm).2
    rw [n] at q; simp at q
theorem wk7 {h : Heap} {H : Hp} {b : Addr} {o : Obj} (e : (yo2 h H).get? b = some o) : h.get? b = some o /\ H b = none := by
  have e' : h.get? b = some o := PySem.W.of_hideAll (trk h H) e
  refine ⟨e', ?_⟩
  cases q : H b with
  | none => rfl
  | some x =>
    have hm : b ∈ trk h H := List.mem_filter.mpr ⟨List.mem_range.mpr (Heap.lt_size e'), by simp [q]⟩
    have z : (yo2 h H).get? b = none := PySem.W.hideAll_none (trk h H) hm
    rw [z] at e; cases e
end L2
namespace L2
open PySem PySem.Spec PyProof.Rows
structure Mod (K : PySem.W.Frag) (mg : Str -> Option Value) (base : Heap) : Prop where
  kin : K.In base
  glob : base.Ns mainGlobals mg
  blt : ∃ mb, base.Ns builtinsNs mb /\ ∀ x : Str, x ≠ "__name__" -> mb x = bootBuiltins x
  nolimit : base.NoLimit
structure Cx where
  prog : Program
  w : World
  K : PySem.W.Frag
  mg : Str -> Option Value
  base : Heap
  A : Around
  N : List Str
  s₀ : Shared
  H₀ : Hp
  env : Env
  outer : List Env
  stack : List Env
  ex : List Addr
  fn : Str -> Bool
  calm : Bool
  pn : List (Addr × Obj)
  xe : Value -> Shared -> Prop
noncomputable def frs (l : List Env) : List Addr := l.filterMap (·.frame)
noncomputable abbrev Cx.fs (X : Cx) : List Addr := frs X.outer
noncomputable def Vis (sc : Scope) (x : Str) : Prop := sc.names.lookup x = some .local \/ sc.names.lookup x = some .cell \/ sc.names.lookup x = some .free
noncomputable def Loc (sc : Scope) (x : Str) : Prop := sc.names.lookup x = some .local \/ sc.names.lookup x = some .cell
noncomputable def wz5 (env : Env) (h : Heap) (m : Str -> Option Value) (x : Str) (u : Value) : Prop :=
  (env.kindOf x = some .local /\ m x = some u) \/ ((env.kindOf x = some .cell \/ env.kindOf x = some .free) /\ ∃ c, env.cells.lookup x = some c /\ h.IsCell c (some u))
structure Cx.Ok (X : Cx) : Prop where
  mod : Mod X.K X.mg X.base
  kind : X.env.scope.kind = .function
  glob : X.env.globals = mainGlobals
  blt : X.env.builtins = builtinsNs
  above : X.s₀.heap.objs.size <= X.env.locals
  inj : ∀ x y c, X.env.cells.lookup x = some c -> X.env.cells.lookup y = some c -> x = y
  has : ∀ x, (X.env.kindOf x = some .cell \/ X.env.kindOf x = some .free) -> ∃ c, X.env.cells.lookup x = some c
  cab : ∀ x c, X.fn x = true -> X.env.cells.lookup x = some c -> X.s₀.heap.objs.size <= c
  hd : X.calm = true -> X.A.handled = none
  frames : X.A.frames = some X.stack
  stk : X.stack = X.outer \/ (X.stack = X.env :: X.outer /\ X.env.frame = some X.env.locals)
  exf : ∀ b ∈ X.ex, b ≠ X.env.locals /\ ∀ x c, X.env.cells.lookup x = some c -> c ≠ b
  bs : ∀ b o, X.base.get? b = some o -> X.s₀.heap.get? b = some o /\ X.H₀ b = none
  bsz : X.base.objs.size <= X.s₀.heap.objs.size
  noex : ∀ b o, X.base.get? b = some o -> b ∉ X.ex
  exfs : ∀ b ∈ X.ex, b ∉ X.fs
  funs : X.s₀.heap.FunFrames X.base X.outer
  frf : ∀ b ∈ X.fs, X.H₀ b = none
structure Inv (X : Cx) (pins : List (Addr × Obj)) (σ : List (Option V)) (H : Hp) (s : Shared) : Prop where
  ok : X.Ok
  os : s.os = X.s₀.os
  bare : AllBare s.gens
  base : Un X.fs X.ex X.H₀ H X.s₀.heap s.heap
  loc : ∃ m, s.heap.Ns X.env.locals m /\ ∀ (i : Nat) (x : Str) (v : V), X.N[i]? = some x -> σ[i]? = some (some v) -> Vis X.env.scope x -> ∃ u, zi6 v u /\ wz5 X.env s.heap m x u
  cell : ∀ x c, X.env.cells.lookup x = some c -> ∃ v, s.heap.IsCell c v
  free : H X.env.locals = none
  freeC : ∀ x c, X.env.cells.lookup x = some c -> H c = none
  pin : ∀ p ∈ X.pn ++ pins, s.heap.get? p.1 = some p.2 /\ H p.1 = none /\ p.1 ≠ X.env.locals /\ p.1 ∉ X.fs /\ ∀ v, p.2.data ≠ .cell v
  hok : HOk X.prog X.w H s.heap
  len : σ.length = X.N.length
section
variable {X : Cx} {pins : List (Addr × Obj)} {σ : List (Option V)} {H H' : Hp} {s : Shared} {h' : Heap}
theorem Cx.Ok.nofr (ok : X.Ok) {b : Addr} {o : Obj} (e : X.base.get? b = some o) : b ∉ X.fs := fun hb => by
  have := (ok.funs.mem hb).1
  rw [e] at this; cases this
theorem Inv.bs (I : Inv X pins σ H s) : ∀ b o, X.base.get? b = some o -> s.heap.get? b = some o /\ H b = none := fun b o e =>
  ⟨I.base.keep b o (I.ok.bs b o e).1 (I.ok.bs b o e).2 (I.ok.nofr e) (I.ok.noex b o e), I.base.free b o (I.ok.bs b o e).1 (I.ok.bs b o e).2 (I.ok.noex b o e)⟩
theorem Inv.bk (I : Inv X pins σ H s) : ∀ b o, X.base.get? b = some o -> s.heap.get? b = some o := fun b o e => (I.bs b o e).1
theorem Inv.mod (I : Inv X pins σ H s) : Mod X.K X.mg X.base := I.ok.mod
theorem Inv.kIn (I : Inv X pins σ H s) : X.K.In s.heap := I.ok.mod.kin.keeps I.bk
theorem Inv.lt (I : Inv X pins σ H s) : X.env.locals < s.heap.objs.size := let ⟨_, hn, _⟩ := I.loc; hn.lt
theorem Inv.sz (I : Inv X pins σ H s) : X.s₀.heap.objs.size <= s.heap.objs.size := Nat.le_trans I.ok.above (Nat.le_of_lt I.lt)
theorem Inv.nofs (I : Inv X pins σ H s) {a : Addr} (h : s.heap.objs.size <= a) : a ∉ X.fs := fun hb => by
  obtain ⟨_, o, ho, _⟩ := I.ok.funs.mem hb
  exact absurd (Nat.lt_of_lt_of_le (Heap.lt_size ho) (Nat.le_trans I.sz h)) (Nat.lt_irrefl _)
theorem Inv.cne (I : Inv X pins σ H s) : ∀ x c, X.env.cells.lookup x = some c -> c ≠ X.env.locals := fun x c e z => by
  obtain ⟨v, o, ho, hd⟩ := I.cell x c e
  obtain ⟨m, ⟨o', es, ep, ho', hd', _⟩, _⟩ := I.loc
  rw [z, ho'] at ho; cases ho; rw [hd'] at hd; cases hd
theorem Inv.funs (I : Inv X pins σ H s) : s.heap.FunFrames X.base X.outer := by
  have all : ∀ (l : List Env), (∀ b ∈ frs l, b ∈ X.fs) -> X.s₀.heap.FunFrames X.base l -> s.heap.FunFrames X.base l := by
    intro l
    induction l with
    | nil => intro _ _; trivial
    | cons env r ih =>
      intro hs hl
      obtain ⟨hk, ⟨L, o, hf, hn, ho, hd⟩, hr⟩ := hl
      have hL : L ∈ X.fs := hs L (by unfold frs; rw [List.filterMap_cons, hf]; exact List.mem_cons_self)
      obtain ⟨sl, e⟩ := I.base.slot L o ho (I.ok.frf L hL) hL fun z => I.ok.exfs L z hL
      exact ⟨hk, ⟨L, _, hf, hn, e, hd⟩, ih (fun b hb => hs b (by unfold frs; rw [List.filterMap_cons, hf]; exact List.mem_cons_of_mem _ hb)) hr⟩
  exact all X.outer (fun _ hb => hb) I.ok.funs
theorem Inv.stack (I : Inv X pins σ H s) : s.heap.FunFrames X.base X.stack := by
  rcases I.ok.stk with e | ⟨e, hf⟩
  . rw [e]; exact I.funs
  . rw [e]
    obtain ⟨m, hn, _⟩ := I.loc
    refine .cons (by rw [I.ok.kind]; decide) hf hn ?_ I.funs
    exact Heap.get?_none_of_le (Nat.le_trans I.ok.bsz I.ok.above)
theorem Inv.stkSub (I : Inv X pins σ H s) : ∀ b ∈ frs X.stack, b ∈ X.env.locals :: X.fs := fun b hb => by
  rcases I.ok.stk with e | ⟨e, hf⟩
  . rw [e] at hb; exact List.mem_cons_of_mem _ hb
  . rw [e] at hb
    unfold frs at hb
    rw [List.filterMap_cons, hf] at hb
    exact hb
theorem Inv.stkFree (I : Inv X pins σ H s) : ∀ b ∈ frs X.stack, H b = none := fun b hb => by
  rcases List.mem_cons.mp (I.stkSub b hb) with e | hb
  . rw [e]; exact I.free
  . obtain ⟨_, o, ho, _⟩ := I.ok.funs.mem hb
    exact I.base.free b o ho (I.ok.frf b hb) fun z => I.ok.exfs b z hb
theorem Inv.step {g' : Array GenState} {t' : Nat} {d' : Drawn} {ch : List Addr} (I : Inv X pins σ H s)
    (hch : ∀ b ∈ ch, (b ∈ X.ex \/ X.s₀.heap.objs.size <= b) /\ b ≠ X.env.locals /\ (∀ x c, X.env.cells.lookup x = some c -> c ≠ b) /\ ∀ p ∈ X.pn ++ pins, p.1 ≠ b)
    (keep : ∀ b o, b ≠ X.env.locals -> b ∉ X.fs -> b ∉ ch -> s.heap.get? b = some o -> H b = none -> h'.get? b = some o)
    (slot : ∀ b o, b ≠ X.env.locals -> b ∈ X.fs -> b ∉ ch -> s.heap.get? b = some o -> H b = none -> ∃ sl, h'.get? b = some { o with slots := sl }) (free : ∀ b o, b ∉ ch -> s.heap.get? b = some o -> H b = none -> H' b = none)
    (there : ∀ b o, b ∉ ch -> s.heap.get? b = some o -> ∃ o', h'.get? b = some o')
    (tups : ∀ b xs, H b = some (.tup xs) -> H' b = some (.tup xs)) (frzs : ∀ b o u, H b = some (.frz o u) -> H' b = some (.frz o u)) (tbls : ∀ b ps, H b = some (.tbl ps) -> ∃ more, H' b = some (.tbl (ps ++ more)))
    (ns : ∀ m, s.heap.Ns X.env.locals m -> h'.Ns X.env.locals m) (hok : HOk X.prog X.w H' h') (hg : AllBare g') :
    Inv X pins σ H' { s with heap := h', gens := g', drawn := d', toks := t' } := by
  have neL : ∀ b o, X.s₀.heap.get? b = some o -> b ≠ X.env.locals := fun b o e => Nat.ne_of_lt (Nat.lt_of_lt_of_le (Heap.lt_size e) I.ok.above)
  have neC : ∀ b o, X.s₀.heap.get? b = some o -> b ∉ X.ex -> b ∉ ch := fun b o e hx hb => by
    rcases (hch b hb).1 with z | z
    . exact hx z
    . exact absurd (Nat.lt_of_lt_of_le (Heap.lt_size e) z) (Nat.lt_irrefl _)
  have cellK : ∀ x c, X.env.cells.lookup x = some c -> ∀ v, s.heap.IsCell c v -> h'.IsCell c v := fun x c e v ⟨o, ho, hd⟩ => by
    have nch : c ∉ ch := fun z => (hch c z).2.2.1 x c e rfl
    by_cases hc : c ∈ X.fs
    . obtain ⟨sl, q⟩ := slot c o (I.cne x c e) hc nch ho (I.freeC x c e)
      exact ⟨_, q, hd⟩
    . exact ⟨o, keep c o (I.cne x c e) hc nch ho (I.freeC x c e), hd⟩
  refine ⟨I.ok, I.os, hg, ⟨fun b o e n hb hx => ?_, fun b o e n hb hx => ?_, fun b o e n hx => ?_, fun b o e hx => ?_, fun b xs e => tups b xs (I.base.tups b xs e), fun b o xs e => frzs b o xs (I.base.frzs b o xs e), fun b ps e => ?_⟩, ?_, fun x c e => ?_, ?_, fun x c e => ?_, fun p hp => ?_, hok, I.len⟩
  . exact keep b o (neL b o e) hb (neC b o e hx) (I.base.keep b o e n hb hx) (I.base.free b o e n hx)
  . obtain ⟨sl, e1⟩ := I.base.slot b o e n hb hx
    obtain ⟨sl', e2⟩ := slot b _ (neL b o e) hb (neC b o e hx) e1 (I.base.free b o e n hx)
    exact ⟨sl', e2⟩
  . obtain ⟨o', e1⟩ := I.base.there b o e hx
    exact free b o' (neC b o e hx) e1 (I.base.free b o e n hx)
  . obtain ⟨o', e1⟩ := I.base.there b o e hx
    exact there b o' (neC b o e hx) e1
  . obtain ⟨m1, e1⟩ := I.base.tbls b ps e
    obtain ⟨m2, e2⟩ := tbls b _ e1
    exact ⟨m1 ++ m2, by rw [e2, Array.append_assoc]⟩
  . obtain ⟨m, hn, hl⟩ := I.loc
    refine ⟨m, ns m hn, fun i x v e1 e2 e3 => ?_⟩
    obtain ⟨u, r, l⟩ := hl i x v e1 e2 e3
    refine ⟨u, r, ?_⟩
    rcases l with l | ⟨k, c, e, z⟩
    . exact .inl l
    . exact .inr ⟨k, c, e, cellK x c e _ z⟩
  . obtain ⟨v, z⟩ := I.cell x c e
    exact ⟨v, cellK x c e v z⟩
  . obtain ⟨m, ⟨o, _, _, ho, _⟩, _⟩ := I.loc
    exact free _ o (fun z => (hch _ z).2.1 rfl) ho I.free
  . obtain ⟨v, o, ho, hd⟩ := I.cell x c e
    exact free c o (fun z => (hch c z).2.2.1 x c e rfl) ho (I.freeC x c e)
  . obtain ⟨e, n, ne, nf, d⟩ := I.pin p hp
    have nch : p.1 ∉ ch := fun z => (hch p.1 z).2.2.2 p hp rfl
    exact ⟨keep p.1 p.2 ne nf nch e n, free p.1 p.2 nch e n, ne, nf, d⟩
theorem Inv.un {t' : Nat} (I : Inv X pins σ H s) (u : Un X.fs [] H H' s.heap h') (hok : HOk X.prog X.w H' h') : Inv X pins σ H' { s with heap := h', toks := t' } := by
  obtain ⟨m, ⟨o, es, ep, ho, r⟩, _⟩ := id I.loc
  obtain ⟨sl, hL⟩ := u.any ho I.free (by simp)
  exact I.step (g' := s.gens) (d' := s.drawn) (ch := []) (fun _ z => nomatch z) (fun b o _ hb _ e n => u.keep b o e n hb (by simp)) (fun b o _ hb _ e n => u.slot b o e n hb (by simp)) (fun b o _ e n => u.free b o e n (by simp)) (fun b o _ e => u.there b o e (by simp)) u.tups u.frzs u.tbls (fun m' hm => by
    obtain ⟨o', es', ep', ho', r'⟩ := hm
    rw [ho] at ho'; cases ho'
    exact ⟨_, es', ep', hL, r'⟩) hok I.bare
theorem Inv.call {g' : Array GenState} {t' : Nat} {d' : Drawn} {ch : List Addr} (I : Inv X pins σ H s) (u : Un (frs X.stack) ch H H' s.heap h') (hok : HOk X.prog X.w H' h') (hg : AllBare g')
    (hch : ∀ b ∈ ch, (b ∈ X.ex \/ X.s₀.heap.objs.size <= b) /\ b ≠ X.env.locals /\ (∀ x c, X.env.cells.lookup x = some c -> c ≠ b) /\ ∀ p ∈ X.pn ++ pins, p.1 ≠ b) :
    Inv X pins σ H' { s with heap := h', gens := g', drawn := d', toks := t' } := by
  obtain ⟨m, ⟨o, es, ep, ho, r⟩, _⟩ := id I.loc
  obtain ⟨sl, hL⟩ := u.any ho I.free fun z => (hch _ z).2.1 rfl
  exact I.step (ch := ch) hch (fun b o hL hb hc e n => u.keep b o e n (fun z => (List.mem_cons.mp (I.stkSub b z)).elim hL hb) hc) (fun b o _ _ hc e n => u.any e n hc) (fun b o hc e n => u.free b o e n hc) (fun b o hc e => u.there b o e hc) u.tups u.frzs u.tbls (fun m' hm => by
    obtain ⟨o', es', ep', ho', r'⟩ := hm
    rw [ho] at ho'; cases ho'
    exact ⟨_, es', ep', hL, r'⟩) hok hg
theorem Inv.turned {t' : Nat} {it : Addr} (I : Inv X pins σ H s) (k : ∀ b o, b ≠ it -> s.heap.get? b = some o -> h'.get? b = some o) (hn : H it = none) (hL : it ≠ X.env.locals)
    (h1 : it ∈ X.ex \/ X.s₀.heap.objs.size <= it) (h2 : ∀ x c, X.env.cells.lookup x = some c -> c ≠ it) (h3 : ∀ p ∈ X.pn ++ pins, p.1 ≠ it) : Inv X pins σ H { s with heap := h', toks := t' } := by
  have nit : ∀ b u, H b = some u -> b ≠ it := fun b u e z => by rw [z, hn] at e; cases e
  refine I.step (g' := s.gens) (d' := s.drawn) (ch := [it]) (fun b hb => ?_) (fun b o _ _ hc e _ => k b o (fun z => hc (by simp [z])) e) (fun b o _ _ hc e _ => ⟨o.slots, k b o (fun z => hc (by simp [z])) e⟩) (fun _ _ _ _ n => n)
    (fun b o hc e => ⟨o, k b o (fun z => hc (by simp [z])) e⟩) (fun _ _ e => e) (fun _ _ _ e => e) (fun b ps e => ⟨#[], by rw [e]; simp⟩) (fun m hm => ?_) (fun b u e => ?_) I.bare
  . have e : b = it := by simpa using hb
    subst e
    exact ⟨h1, hL, h2, h3⟩
  . obtain ⟨o, es, ep, ho, r⟩ := hm
    exact ⟨o, es, ep, k _ o (Ne.symm hL) ho, r⟩
  . refine (I.hok b u e).stay (fun c v hc q => k c v ?_ q) (fun _ q => q) fun _ _ q => q
    rcases hc with z | z
    . rw [z]; exact nit b u e
    . exact nit c _ z
theorem Inv.tok (I : Inv X pins σ H s) (t : Nat) : Inv X pins σ H { s with toks := t } := I.un (h' := s.heap) (t' := t) Un.refl I.hok
theorem Inv.kept {t' : Nat} (I : Inv X pins σ H s) (k : ∀ b u, s.heap.get? b = some u -> h'.get? b = some u) : Inv X pins σ H { s with heap := h', toks := t' } := I.un (Un.kept k) (I.hok.kept k)
theorem Inv.laid {a : Addr} {o : HO} {t' : Nat} (I : Inv X pins σ H s) (k : ∀ b u, s.heap.get? b = some u -> h'.get? b = some u) (hp : s.heap.objs.size <= a) (new : zp0 X.prog X.w (upd H a o) h' a o) :
    Inv X pins σ (upd H a o) { s with heap := h', toks := t' } := I.un (Un.laid k hp (I.hok.fresh hp)) (I.hok.laid k hp new)
theorem Inv.write {x e : Addr} {o : HO} {t' : Nat} (I : Inv X pins σ H s) (mu : Mut (H x)) (he : e = x \/ H e = some (.own x)) (k : ∀ b u, b ≠ e -> s.heap.get? b = some u -> h'.get? b = some u) (heo : ∃ u, h'.get? e = some u)
    (new : zp0 X.prog X.w (upd H x o) h' x o) : Inv X pins σ (upd H x o) { s with heap := h', toks := t' } := I.un (Un.write mu he k heo) (I.hok.write mu he k heo new)
theorem Inv.pins_of {pins' : List (Addr × Obj)} (I : Inv X pins σ H s) (h : ∀ p ∈ pins', s.heap.get? p.1 = some p.2 /\ H p.1 = none /\ p.1 ≠ X.env.locals /\ p.1 ∉ X.fs /\ ∀ v, p.2.data ≠ .cell v) : Inv X pins' σ H s :=
  ⟨I.ok, I.os, I.bare, I.base, I.loc, I.cell, I.free, I.freeC, fun p hp => (List.mem_append.mp hp).elim (fun z => I.pin p (List.mem_append_left _ z)) (h p), I.hok, I.len⟩
theorem xg5 {N : List Str} (hN : N.Nodup) {i j : Nat} {x : Str} (a : N[i]? = some x) (b : N[j]? = some x) : i = j := by
  obtain ⟨h1, e1⟩ := List.getElem?_eq_some_iff.mp a
  obtain ⟨h2, e2⟩ := List.getElem?_eq_some_iff.mp b
  exact (List.getElem_inj hN).mp (e1.trans e2.symm)
theorem xx0 {M : Model} {A : Around} {E : Value -> Shared -> Prop} {i : Nat} {x : Str} {v : V} {u : Value} {Q : Unit -> Shared -> Prop} (I : Inv X pins σ H s) (hN : X.N.Nodup) (hi : X.N[i]? = some x) (hx : Loc X.env.scope x) (r : zi6 v u)
    (h : ∀ s', Inv X pins (σ.set i (some v)) H s' -> (∃ a, Heap.SameBut a s.heap s'.heap /\ (a = X.env.locals \/ X.env.cells.lookup x = some a)) -> Q () s') (hf : X.fn x = true \/ X.env.scope.names.lookup x = some .local := by first | exact .inl rfl | exact .inr rfl | assumption) : wpAny M A (storeName X.env x u) Q E s := by
  obtain ⟨m, hn, hl⟩ := id I.loc
  have hcls : (X.env.scope.kind == .class || (X.env.scope.kind == .module && X.env.locals != X.env.globals)) = false := by rw [I.ok.kind]; rfl
  have hiσ : i < σ.length := by rw [I.len]; exact (List.getElem?_eq_some_iff.mp hi).1
  have cne := I.cne
  have tracked : ∀ {a : Addr} {h' : Heap}, (∃ o, s.heap.get? a = some o /\ H a = none) -> Heap.SameBut a s.heap h' -> HOk X.prog X.w H h' := fun {a h'} ha hs b ob e => by
    obtain ⟨_, _, hfree⟩ := ha
    refine (I.hok b ob e).stay (fun c w' hc q => (hs.2 c ?_).trans q) (fun _ q => q) fun _ _ q => q
    rintro rfl
    rcases hc with rfl | hc
    . rw [hfree] at e; cases e
    . rw [hfree] at hc; cases hc
  rcases hx with hk | hk
  . refine wpAny_storeName_local hk hn (fun h' hn' hs => ?_) hcls
    obtain ⟨oL, _, _, hoL, _⟩ := id hn
    refine h _ ⟨I.ok, I.os, I.bare, ⟨fun b o e n hb hx => ?_, fun b o e n hb hx => ?_, I.base.free, fun b o e hx => ?_, I.base.tups, I.base.frzs, I.base.tbls⟩, ⟨_, hn', fun j y v' e1 e2 e3 => ?_⟩, fun y c e => ?_, I.free, I.freeC, fun p hp => ?_, tracked ⟨oL, hoL, I.free⟩ hs, by simpa using I.len⟩ ⟨_, hs, .inl rfl⟩
    . exact (hs.2 b (Nat.ne_of_lt (Nat.lt_of_lt_of_le (Heap.lt_size e) I.ok.above))).trans (I.base.keep b o e n hb hx)
    . obtain ⟨sl, e1⟩ := I.base.slot b o e n hb hx
      exact ⟨sl, (hs.2 b (Nat.ne_of_lt (Nat.lt_of_lt_of_le (Heap.lt_size e) I.ok.above))).trans e1⟩
    . obtain ⟨o', e1⟩ := I.base.there b o e hx
      exact ⟨o', (hs.2 b (Nat.ne_of_lt (Nat.lt_of_lt_of_le (Heap.lt_size e) I.ok.above))).trans e1⟩
    . by_cases hj : j = i
      . subst hj
        rw [hi] at e1; cases e1
        rw [List.getElem?_set_self hiσ] at e2
        cases e2
        exact ⟨u, r, .inl ⟨hk, by simp⟩⟩
      . rw [List.getElem?_set_ne (Ne.symm hj)] at e2
        obtain ⟨u', r', q⟩ := hl j y v' e1 e2 e3
        refine ⟨u', r', ?_⟩
        rcases q with ⟨k, e⟩ | ⟨k, c, e, z⟩
        . refine .inl ⟨k, ?_⟩
          have : y ≠ x := fun e => hj (xg5 hN e1 (e ▸ hi))
          simp [this, e]
        . exact .inr ⟨k, c, e, z.sameBut hs (cne y c e)⟩
    . obtain ⟨w', z⟩ := I.cell y c e
      exact ⟨w', z.sameBut hs (cne y c e)⟩
    . obtain ⟨e, n, ne, nf, d⟩ := I.pin p hp
      exact ⟨(hs.2 p.1 ne).trans e, n, ne, nf, d⟩
  . have hfn : X.fn x = true := by
      rcases hf with z | z
      . exact z
      . rw [z] at hk; cases hk
    obtain ⟨c, hc⟩ := I.ok.has x (.inl hk)
    obtain ⟨w', z⟩ := I.cell x c hc
    refine wpAny_storeName_cell I.ok.kind hk hc z (fun h' hc' hs => ?_)
    obtain ⟨oc, hoc, hocd⟩ := id z
    refine h { s with heap := h' } ⟨I.ok, I.os, I.bare, ⟨fun b o e n hb hx => ?_, fun b o e n hb hx => ?_, I.base.free, fun b o e hx => ?_, I.base.tups, I.base.frzs, I.base.tbls⟩, ⟨m, hn.sameBut hs (Ne.symm (cne x c hc)), fun j y v' e1 e2 e3 => ?_⟩, fun y c' e => ?_, I.free, I.freeC, fun p hp => ?_, tracked ⟨oc, hoc, I.freeC x c hc⟩ hs, by simpa using I.len⟩ ⟨c, hs, .inr hc⟩
    . exact (hs.2 b (Nat.ne_of_lt (Nat.lt_of_lt_of_le (Heap.lt_size e) (I.ok.cab x c hfn hc)))).trans (I.base.keep b o e n hb hx)
    . obtain ⟨sl, e1⟩ := I.base.slot b o e n hb hx
      exact ⟨sl, (hs.2 b (Nat.ne_of_lt (Nat.lt_of_lt_of_le (Heap.lt_size e) (I.ok.cab x c hfn hc)))).trans e1⟩
    . obtain ⟨o', e1⟩ := I.base.there b o e hx
      exact ⟨o', (hs.2 b (Nat.ne_of_lt (Nat.lt_of_lt_of_le (Heap.lt_size e) (I.ok.cab x c hfn hc)))).trans e1⟩
    . by_cases hj : j = i
      . subst hj
        rw [hi] at e1; cases e1
        rw [List.getElem?_set_self hiσ] at e2
        cases e2
        exact ⟨u, r, .inr ⟨.inl hk, c, hc, hc'⟩⟩
      . rw [List.getElem?_set_ne (Ne.symm hj)] at e2
        obtain ⟨u', r', q⟩ := hl j y v' e1 e2 e3
        refine ⟨u', r', ?_⟩
        rcases q with q | ⟨k, c', e, z'⟩
        . exact .inl q
        . refine .inr ⟨k, c', e, z'.sameBut hs ?_⟩
          rintro rfl
          exact hj (xg5 hN e1 (I.ok.inj _ _ _ e hc ▸ hi))
    . by_cases hcc : c' = c
      . subst hcc; exact ⟨_, hc'⟩
      . obtain ⟨w2, z2⟩ := I.cell y c' e
        exact ⟨w2, z2.sameBut hs hcc⟩
    . obtain ⟨e, n, ne, nf, d⟩ := I.pin p hp
      refine ⟨(hs.2 p.1 ?_).trans e, n, ne, nf, d⟩
      intro q
      rw [q, hoc] at e
      have q' : oc = p.2 := Option.some.inj e
      exact d w' (by rw [<- q']; exact hocd)
theorem xg6 {M : Model} {A : Around} {E : Value -> Shared -> Prop} {i : Nat} {x : Str} {v : V} {u : Value} {Q : Unit -> Shared -> Prop} (I : Inv X pins σ H s) (hN : X.N.Nodup) (hi : X.N[i]? = some x) (hx : Loc X.env.scope x) (r : zi6 v u)
    (h : ∀ s', Inv X pins (σ.set i (some v)) H s' -> Q () s') (hf : X.fn x = true \/ X.env.scope.names.lookup x = some .local := by first | exact .inl rfl | exact .inr rfl | assumption) : wpAny M A (storeName X.env x u) Q E s :=
  xx0 I hN hi hx r (fun s' I' _ => h s' I') hf
theorem Inv.call' {s' : Shared} {ch : List Addr} (I : Inv X pins σ H s) (ho : s'.os = s.os) (u : Un (frs X.stack) ch H H' s.heap s'.heap) (hok : HOk X.prog X.w H' s'.heap) (hg : AllBare s'.gens)
    (hch : ∀ b ∈ ch, (b ∈ X.ex \/ X.s₀.heap.objs.size <= b) /\ b ≠ X.env.locals /\ (∀ x c, X.env.cells.lookup x = some c -> c ≠ b) /\ ∀ p ∈ X.pn ++ pins, p.1 ≠ b) : Inv X pins σ H' s' := by
  obtain ⟨h', g', d', t', o'⟩ := s'
  have e : o' = s.os := ho
  subst e
  exact I.call (g' := g') (t' := t') (d' := d') u hok hg hch
end
noncomputable abbrev XK := Value -> Option Addr -> Hp -> Prop
noncomputable abbrev St := List (Option V)
noncomputable abbrev VK := V -> Hp -> Prop
noncomputable abbrev TE := St -> Hp -> VK -> Prop
noncomputable abbrev TT := St -> Hp -> (Bool -> Hp -> Prop) -> Prop
noncomputable abbrev TA := St -> Hp -> (List V -> Hp -> Prop) -> Prop
structure Ends where
  nx : St -> Hp -> Prop
  rt : VK
  bk : St -> Hp -> Prop := fun _ _ => False
  ct : St -> Hp -> Prop := fun _ _ => False
noncomputable abbrev TS := Ends -> St -> Hp -> Prop
noncomputable def EP (X : Cx) (pins : List (Addr × Obj)) (σ : St) (Q : VK) (u : Value) (s' : Shared) : Prop := ∃ v H', Inv X pins σ H' s' /\ zi6 v u /\ Q v H'
noncomputable def TP (X : Cx) (pins : List (Addr × Obj)) (σ : St) (Q : Bool -> Hp -> Prop) (b : Bool) (s' : Shared) : Prop := ∃ H', Inv X pins σ H' s' /\ Q b H'
noncomputable def AP (X : Cx) (pins : List (Addr × Obj)) (σ : St) (Q : List V -> Hp -> Prop) (us : List Value) (s' : Shared) : Prop := ∃ vs H', Inv X pins σ H' s' /\ zf5 vs us /\ Q vs H'
noncomputable def SP (X : Cx) (pins : List (Addr × Obj)) (D : Ends) (f : Flow) (s' : Shared) : Prop :=
  match f with
  | .next => ∃ σ' H', Inv X pins σ' H' s' /\ D.nx σ' H'
  | .brk => ∃ σ' H', Inv X pins σ' H' s' /\ D.bk σ' H'
  | .cont => ∃ σ' H', Inv X pins σ' H' s' /\ D.ct σ' H'
  | .ret u => ∃ v σ' H', Inv X pins σ' H' s' /\ zi6 v u /\ D.rt v H'
noncomputable def PE (X : Cx) (e : Expr) (t : TE) : Prop :=
  ∀ (pins : List (Addr × Obj)) (s : Shared) (σ : St) (H : Hp) (Q : VK), Inv X pins σ H s -> t σ H Q -> wpAny (model X.prog X.w) X.A (eval e X.env) (EP X pins σ Q) X.xe s
noncomputable def PT (X : Cx) (e : Expr) (t : TT) : Prop :=
  ∀ (pins : List (Addr × Obj)) (s : Shared) (σ : St) (H : Hp) (Q : Bool -> Hp -> Prop), Inv X pins σ H s -> t σ H Q -> wpAny (model X.prog X.w) X.A (isTrue e X.env (eval e X.env)) (TP X pins σ Q) X.xe s
noncomputable def PW (X : Cx) (e : Expr) (t : TT) : Prop :=
  ∀ (whole : Sem Value) (pins : List (Addr × Obj)) (s : Shared) (σ : St) (H : Hp) (Q : Bool -> Hp -> Prop), Inv X pins σ H s -> t σ H Q -> wpAny (model X.prog X.w) X.A (isTrue e X.env whole) (TP X pins σ Q) X.xe s
theorem PW.pt {X : Cx} {e : Expr} {t : TT} (h : PW X e t) : PT X e t := h _
noncomputable def PA (X : Cx) (es : List Expr) (t : TA) : Prop :=
  ∀ (pos : Pos) (pins : List (Addr × Obj)) (s : Shared) (σ : St) (H : Hp) (Q : List V -> Hp -> Prop), Inv X pins σ H s -> t σ H Q -> wpAny (model X.prog X.w) X.A (spliced (backTo pos (starEach es X.env))) (AP X pins σ Q) X.xe s
noncomputable def PS (X : Cx) (st : Stmt) (t : TS) : Prop :=
  ∀ (pins : List (Addr × Obj)) (s : Shared) (σ : St) (H : Hp) (D : Ends), Inv X pins σ H s -> t D σ H -> wpAny (model X.prog X.w) X.A (exec st X.env) (SP X pins D) X.xe s
noncomputable def PSs (X : Cx) (st : List Stmt) (t : TS) : Prop :=
  ∀ (pins : List (Addr × Obj)) (s : Shared) (σ : St) (H : Hp) (D : Ends), Inv X pins σ H s -> t D σ H -> wpAny (model X.prog X.w) X.A (execs st X.env) (SP X pins D) X.xe s
theorem thn {α : Type} {t : Sem α} {Q Q' : α -> Shared -> Prop} {M : Model} {A : Around} {E : Value -> Shared -> Prop} {s : Shared} (h : wpAny M A t Q E s) (hQ : ∀ a s, Q a s -> Q' a s) : wpAny M A t Q' E s := wpAny_mono h hQ fun _ _ x => x
end L2
namespace L2
open PySem PySem.Spec PyProof.Rows
section
variable {X : Cx}
noncomputable def wu2 (i : Nat) : TE := fun σ H Q => ∃ v, σ[i]? = some (some v) /\ Q v H
noncomputable def tC (v : V) : TE := fun _ H Q => Q v H
theorem yk8 {i : Nat} {x : Str} {pos : Pos} (hN : X.N[i]? = some x) (hv : Vis X.env.scope x) (hd : (x == ("__debug__" : Str)) = false := by decide) (hcd : (x == ("__classdict__" : Str)) = false := by decide) : PE X (.Name x pos) (wu2 i) := by
  intro pins s σ H Q I h
  obtain ⟨v, e, h⟩ := h
  obtain ⟨m, hn, hl⟩ := I.loc
  obtain ⟨u, r, l⟩ := hl i x v hN e hv
  have fin : EP X pins σ Q u s := ⟨v, H, I, r, h⟩
  rcases l with ⟨hk, hm⟩ | ⟨hk, c, hc, hcell⟩
  . exact wpAny_Name (wpAny_loadName_local I.ok.kind hk hn hm fin) hd
  . rcases hk with hk | hk
    . exact wpAny_Name (wpAny_loadName_cell I.ok.kind hk hc hcell fin) hd
    . exact wpAny_Name (wpAny_loadName_free I.ok.kind hk hc hcell fin hcd) hd
theorem zs3 {i j pos} : PE X (.Constant (.int i) j pos) (tC (.int i)) := fun _ _ _ H _ I h => wpAny_Constant_int ⟨.int i, H, I.tok _, ⟨_, rfl⟩, h⟩
theorem wi9 {b j pos} : PE X (.Constant (.bool b) j pos) (tC (.bl b)) := fun _ _ _ H _ I h => Constant_bool ⟨.bl b, H, I, rfl, h⟩
theorem xx1 {j pos} : PE X (.Constant .none j pos) (tC .non) := fun _ _ _ H _ I h => Constant_none ⟨.non, H, I, rfl, h⟩
theorem xx2 {x j pos} : PE X (.Constant (.str x) j pos) (tC (.str x)) := fun _ _ _ H _ I h => Calls.Constant_str ⟨.str x, H, I.tok _, ⟨_, rfl⟩, h⟩
noncomputable def Gl (X : Cx) (x : Str) : Prop := X.env.kindOf x = some .globalImplicit
theorem yr3 {E : Value -> Shared -> Prop} {pins : List (Addr × Obj)} {s : Shared} {σ : St} {H : Hp} {x : Str} {u : Value} {pos : Pos} {Q : Value -> Shared -> Prop} (I : Inv X pins σ H s) (hg : Gl X x) (hm : X.mg x = some u) (h : Q u s)
    (hd : (x == ("__debug__" : Str)) = false := by decide) : wpAny (model X.prog X.w) X.A (eval (.Name x pos) X.env) Q E s :=
  Calls.Name_function_global I.ok.kind hg (Calls.loadGlobal_global (by rw [I.ok.glob]; exact I.mod.glob.keeps I.bk) hm h) hd
theorem yp1 {E : Value -> Shared -> Prop} {pins : List (Addr × Obj)} {s : Shared} {σ : St} {H : Hp} {x : Str} {u : Value} {pos : Pos} {Q : Value -> Shared -> Prop} (I : Inv X pins σ H s) (hg : Gl X x) (hm : X.mg x = none) (hv : bootBuiltins x = some u) (h : Q u s)
    (hn : x ≠ "__name__" := by decide) (hd : (x == ("__debug__" : Str)) = false := by decide) : wpAny (model X.prog X.w) X.A (eval (.Name x pos) X.env) Q E s := by
  obtain ⟨mb, h1, h2⟩ := I.mod.blt
  exact Calls.Name_function_global I.ok.kind hg (Calls.loadGlobal_builtin (by rw [I.ok.glob]; exact I.mod.glob.keeps I.bk) hm (by rw [I.ok.blt]; exact h1.keeps I.bk) ((h2 x hn).trans hv) h) hd
theorem xa4 {x : Str} {v : V} {u : Value} {pos : Pos} (hg : Gl X x) (hm : X.mg x = some u) (r : zi6 v u) (hd : (x == ("__debug__" : Str)) = false := by decide) : PE X (.Name x pos) (tC v) :=
  fun _ _ _ H _ I h => yr3 I hg hm ⟨v, H, I, r, h⟩ hd
theorem wk8 {x : Str} {v : V} {u : Value} {pos : Pos} (hg : Gl X x) (hm : X.mg x = none) (hv : bootBuiltins x = some u) (r : zi6 v u) (hn : x ≠ "__name__" := by decide) (hd : (x == ("__debug__" : Str)) = false := by decide) : PE X (.Name x pos) (tC v) :=
  fun _ _ _ H _ I h => yp1 I hg hm hv ⟨v, H, I, r, h⟩ hn hd
variable {a b : Expr} {ta tb : TE} {pos : Pos}
noncomputable def PC (X : Cx) (op : CmpOp) (a b : Expr) (t : TE) : Prop :=
  ∀ (pins : List (Addr × Obj)) (s : Shared) (σ : St) (H : Hp) (Q : VK), Inv X pins σ H s -> t σ H Q ->
    wpAny (model X.prog X.w) X.A (eval a X.env) (fun v s₁ => wpAny (model X.prog X.w) X.A (eval b X.env) (fun u s₂ => wpAny (model X.prog X.w) X.A (compareOp op v u) (EP X pins σ Q) X.xe s₂) X.xe s₁) X.xe s
theorem we3 (b : Expr) {op : CmpOp} (h : op ≠ .In) (h2 : op ≠ .NotIn) : behindInMarks op b = false := by
  have e1 : (op == CmpOp.In) = false := by cases op <;> first | rfl | exact absurd rfl h
  have e2 : (op == CmpOp.NotIn) = false := by cases op <;> first | rfl | exact absurd rfl h2
  cases b <;> simp [behindInMarks, e1, e2]
noncomputable def tB (t : TE) : TT := fun σ H Q => t σ H fun x H1 => ∃ c, x = .bl c /\ Q c H1
theorem wp0 {op : CmpOp} {t : TE} (h : PC X op a b t) (h1 : behindInMarks op b = false := by first | exact we3 _ (by decide) (by decide) | rfl) : PT X (.Compare a [op] [b] pos) (tB t) := by
  intro pins s σ H Q I hw
  refine wpAny_isTrue_Compare1 (thn (h pins s σ H _ I hw) fun v s1 h1 => thn h1 fun u s2 h2 => thn h2 fun c s3 ⟨x, H1, I1, r1, q1⟩ => ?_) h1
  obtain ⟨d, rfl, q⟩ := q1
  cases r1
  exact wpAny_truthy_bool ⟨H1, I1, q⟩
variable {tA tB' : TT} {rest : List Expr}
noncomputable def wz6 (t u : TT) : TT := fun σ H Q => t σ H fun c H1 => if c = true then u σ H1 Q else Q false H1
noncomputable def tOr (t u : TT) : TT := fun σ H Q => t σ H fun c H1 => if c = true then Q true H1 else u σ H1 Q
noncomputable def wz7 (t : TT) : TT := fun σ H Q => t σ H fun c H1 => Q (!c) H1
theorem wk9 (ha : PT X a tA) : PW X (.BoolOp .And [a] pos) tA := by
  intro wh pins s σ H Q I h
  refine isTrue_and (thn (ha pins s σ H Q I h) fun c s1 e => ?_)
  cases c with
  | true => exact isTrue_and_nil e
  | false => exact e
theorem wp1 (ha : PT X a tA) : PW X (.BoolOp .Or [a] pos) tA := by
  intro wh pins s σ H Q I h
  refine isTrue_or (thn (ha pins s σ H Q I h) fun c s1 e => ?_)
  cases c with
  | false => exact isTrue_or_nil e
  | true => exact e
theorem wp2 (ha : PT X a tA) (hb : PW X (.BoolOp .And (b :: rest) pos) tB') : PW X (.BoolOp .And (a :: b :: rest) pos) (wz6 tA tB') := by
  intro wh pins s σ H Q I h
  refine isTrue_and (thn (ha pins s σ H _ I h) fun c s1 ⟨H1, I1, q1⟩ => ?_)
  cases c with
  | true => exact hb wh pins s1 σ H1 Q I1 q1
  | false => exact ⟨H1, I1, q1⟩
theorem wv8 (ha : PT X a tA) (hb : PW X (.BoolOp .Or (b :: rest) pos) tB') : PW X (.BoolOp .Or (a :: b :: rest) pos) (tOr tA tB') := by
  intro wh pins s σ H Q I h
  refine isTrue_or (thn (ha pins s σ H _ I h) fun c s1 ⟨H1, I1, q1⟩ => ?_)
  cases c with
  | true => exact ⟨H1, I1, q1⟩
  | false => exact hb wh pins s1 σ H1 Q I1 q1
theorem wp3 (ha : PT X a tA) : PT X (.UnaryOp .Not a pos) (wz7 tA) := by
  intro pins s σ H Q I h
  exact isTrue_not (ha pins s σ H (fun c H1 => Q (!c) H1) I h)
noncomputable def wx2 (ta tb : TE) : TE := fun σ H Q => ta σ H fun x H1 => ∃ c, x = .bl c /\ if c = true then tb σ H1 Q else Q (.bl false) H1
noncomputable def wx3 (ta : TE) : TE := fun σ H Q => ta σ H fun x H1 => ∃ c, x = .bl c /\ Q (.bl (!c)) H1
theorem wp4 {op} {t : TE} (h : PE X a t) : PE X (.BoolOp op [a] pos) t := fun pins s σ H Q I hw => BoolOp_one (h pins s σ H Q I hw)
theorem wp5 (ha : PE X a ta) (hb : PE X (.BoolOp .And (b :: rest) pos) tb) : PE X (.BoolOp .And (a :: b :: rest) pos) (wx2 ta tb) := by
  intro pins s σ H Q I h
  refine BoolOp_and (thn (ha pins s σ H _ I h) fun v s1 ⟨x, H1, I1, r1, q1⟩ => ?_)
  obtain ⟨c, rfl, q1⟩ := q1
  cases r1
  refine wpAny_truthy_bool ?_
  cases c with
  | true => exact hb pins s1 σ H1 Q I1 q1
  | false => exact ⟨.bl false, H1, I1, rfl, q1⟩
theorem wp6 (ha : PE X a ta) : PE X (.UnaryOp .Not a pos) (wx3 ta) := by
  intro pins s σ H Q I h
  refine UnaryOp_ (thn (ha pins s σ H _ I h) fun v s1 ⟨x, H1, I1, r1, q1⟩ => ?_)
  obtain ⟨c, rfl, q1⟩ := q1
  cases r1
  exact not_of (wpAny_truthy_bool ⟨.bl (!c), H1, I1, rfl, q1⟩)
end
end L2
namespace L2
open PySem PySem.Spec PyProof.Rows
noncomputable def SqL (K : PySem.W.Frag) (H : Hp) (a : Addr) (xs : List V) : Prop :=
  Rd H a (.lst xs) \/
    ∃ (o : Obj) (its : Array Value) (n : Nat), K.lookup a = some o /\ o.cls = .type "list" /\ o.dict = none /\ o.data = .seq its n /\ its.size <= sizeLine /\ zf5 xs its.toList
noncomputable def SqT (K : PySem.W.Frag) (H : Hp) (a : Addr) (xs : List V) : Prop :=
  Rd H a (.tup xs) \/
    ∃ (o : Obj) (its : Array Value) (n : Nat), K.lookup a = some o /\ o.cls = .type "tuple" /\ o.data = .seq its n /\ its.size <= sizeLine /\ zf5 xs its.toList
noncomputable def wz8 : Value -> Option V
  | .none => some .non
  | .bool b => some (.bl b)
  | .int i _ => some (.int i)
  | .str x _ => some (.str x)
  | .bytes b _ => some (.byt b)
  | .float b _ => some (.flt b)
  | .ref a => some (.ref a)
  | .type n => some (.ty n)
  | _ => none
theorem zi6.abs {x : V} {u : Value} (r : zi6 x u) : wz8 u = some x := by
  cases x with
  | non => cases r; rfl
  | bl _ => cases r; rfl
  | int _ => obtain ⟨t, rfl⟩ := r; rfl
  | str _ => obtain ⟨t, rfl⟩ := r; rfl
  | byt _ => obtain ⟨t, rfl⟩ := r; rfl
  | flt _ => obtain ⟨t, rfl⟩ := r; rfl
  | ref _ => cases r; rfl
  | ty _ => cases r; rfl
theorem zi6.inj {x y : V} {u : Value} (r : zi6 x u) (q : zi6 y u) : x = y := Option.some.inj (r.abs.symm.trans q.abs)
theorem zf5.inj : ∀ {xs ys : List V} {us : List Value}, zf5 xs us -> zf5 ys us -> xs = ys
  | _, _, _, .nil, .nil => rfl
  | _, _, _, .cons r t, .cons r' t' => by rw [r.inj r', zf5.inj t t']
section
variable {X : Cx} {pins : List (Addr × Obj)} {σ : St} {H : Hp} {s : Shared} {a : Addr} {xs ys : List V}
theorem Inv.list (I : Inv X pins σ H s) (h : SqL X.K H a xs) : ∃ its : List Value, zf5 xs its /\ PlainL s.heap a its.toArray /\ xs.length <= sizeLine := by
  rcases h with h | ⟨o, its, n, hk, hc, hd, hs, hz, r⟩
  . obtain ⟨z, its, n, r, e⟩ := h.ok I.hok
    exact ⟨its, r, ⟨_, n, e, rfl, rfl, rfl⟩, z⟩
  . refine ⟨its.toList, r, ⟨o, n, I.kIn a o hk, hc, hd, by simpa using hs⟩, ?_⟩
    have e := r.length
    simp only [Array.length_toList] at e
    omega
theorem Inv.tuple (I : Inv X pins σ H s) (h : SqT X.K H a xs) : ∃ its : List Value, zf5 xs its /\ IsTup s.heap a its.toArray /\ xs.length <= sizeLine := by
  rcases h with h | ⟨o, its, n, hk, hc, hs, hz, r⟩
  . obtain ⟨z, its, r, p⟩ := h.ok I.hok
    exact ⟨its, r, p, z⟩
  . refine ⟨its.toList, r, ⟨o, I.kIn a o hk, hc, n, by simpa using hs⟩, ?_⟩
    have e := r.length
    simp only [Array.length_toList] at e
    omega
theorem Inv.list_inj (I : Inv X pins σ H s) (h : SqL X.K H a xs) (h' : SqL X.K H a ys) : xs = ys := by
  obtain ⟨its, r, ⟨o, n, e, _, _, d⟩, _⟩ := I.list h
  obtain ⟨its', r', ⟨o', n', e', _, _, d'⟩, _⟩ := I.list h'
  rw [e] at e'; cases e'
  rw [d] at d'
  injection d' with d1 _
  have : its = its' := by simpa using congrArg Array.toList d1
  subst this
  exact r.inj r'
theorem Inv.tuple_inj (I : Inv X pins σ H s) (h : SqT X.K H a xs) (h' : SqT X.K H a ys) : xs = ys := by
  obtain ⟨its, r, ⟨o, e, _, n, d⟩, _⟩ := I.tuple h
  obtain ⟨its', r', ⟨o', e', _, n', d'⟩, _⟩ := I.tuple h'
  rw [e] at e'; cases e'
  rw [d] at d'
  injection d' with d1 _
  have : its = its' := by simpa using congrArg Array.toList d1
  subst this
  exact r.inj r'
end
noncomputable abbrev Cx.wish (X : Cx) (E : Value -> Shared -> Prop) : Cx := { X with xe := E }
noncomputable abbrev Cx.nox (X : Cx) : Cx := X.wish fun _ _ => False
theorem Cx.Ok.wish {X : Cx} (ok : X.Ok) (E : Value -> Shared -> Prop) : (X.wish E).Ok :=
  ⟨ok.mod, ok.kind, ok.glob, ok.blt, ok.above, ok.inj, ok.has, ok.cab, ok.hd, ok.frames, ok.stk, ok.exf, ok.bs, ok.bsz, ok.noex, ok.exfs, ok.funs, ok.frf⟩
theorem Cx.Ok.unwish {X : Cx} {E : Value -> Shared -> Prop} (ok : (X.wish E).Ok) : X.Ok :=
  ⟨ok.mod, ok.kind, ok.glob, ok.blt, ok.above, ok.inj, ok.has, ok.cab, ok.hd, ok.frames, ok.stk, ok.exf, ok.bs, ok.bsz, ok.noex, ok.exfs, ok.funs, ok.frf⟩
section
variable {X : Cx} {pins : List (Addr × Obj)} {σ : St} {H : Hp} {s : Shared} {E : Value -> Shared -> Prop}
theorem Inv.wish (I : Inv X pins σ H s) (E : Value -> Shared -> Prop) : Inv (X.wish E) pins σ H s := ⟨I.ok.wish E, I.os, I.bare, I.base, I.loc, I.cell, I.free, I.freeC, I.pin, I.hok, I.len⟩
theorem Inv.unwish (I : Inv (X.wish E) pins σ H s) : Inv X pins σ H s := ⟨I.ok.unwish, I.os, I.bare, I.base, I.loc, I.cell, I.free, I.freeC, I.pin, I.hok, I.len⟩
theorem SP.unwish {D : Ends} {f : Flow} {s' : Shared} (h : SP (X.wish E) pins D f s') : SP X pins D f s' := by
  cases f with
  | next => obtain ⟨σ', H', I, q⟩ := h; exact ⟨σ', H', I.unwish, q⟩
  | brk => obtain ⟨σ', H', I, q⟩ := h; exact ⟨σ', H', I.unwish, q⟩
  | cont => obtain ⟨σ', H', I, q⟩ := h; exact ⟨σ', H', I.unwish, q⟩
  | ret u => obtain ⟨v, σ', H', I, r, q⟩ := h; exact ⟨v, σ', H', I.unwish, r, q⟩
theorem PSs.nox {st : List Stmt} {t : TS} (h : PSs X.nox st t) : PSs X st t := fun pins s σ H D I hw =>
  wpAny_mono (h pins s σ H D (I.wish _) hw) (fun _ _ q => q.unwish) fun _ _ z => False.elim z
end
section
variable {X : Cx} {st : Stmt} {rest : List Stmt} {t u : TS} {e : Expr} {te : TE} {pos : Pos}
noncomputable def wx4 : TS := fun D σ H => D.nx σ H
noncomputable def wz9 (t u : TS) : TS := fun D σ H => t { D with nx := u D } σ H
theorem xo7 : PSs X [] wx4 := fun _ _ σ H _ I h => wpAny_execs_nil ⟨σ, H, I, h⟩
theorem ya8 (h1 : PS X st t) (h2 : PSs X rest u) : PSs X (st :: rest) (wz9 t u) := by
  intro pins s σ H D I h
  refine wpAny_execs_cons (thn (h1 pins s σ H { D with nx := u D } I h) fun f s1 q => ?_)
  cases f with
  | next =>
    obtain ⟨σ', H', I', q⟩ := q
    exact h2 pins s1 σ' H' D I' q
  | ret v => exact q
  | brk => exact q
  | cont => exact q
theorem yr4 (h1 : PS X st t) : PSs X [st] t := by
  intro pins s σ H D I h
  refine wpAny_execs_cons (thn (h1 pins s σ H D I h) fun f s1 q => ?_)
  cases f with
  | next => exact wpAny_execs_nil q
  | ret v => exact q
  | brk => exact q
  | cont => exact q
theorem Inv.quiet {pins : List (Addr × Obj)} {σ : St} {H : Hp} {s : Shared} (I : Inv X pins σ H s) : interactive X.env = false := by simp [interactive, I.ok.kind]
noncomputable def wx5 (te : TE) : TS := fun D σ H => te σ H fun _ H1 => D.nx σ H1
theorem wl0 (he : PE X e te) (hs : swapsWith e none pos.line X.env = pure false := by rfl) : PS X (.Expr e pos) (wx5 te) := by
  intro pins s σ H D I h
  exact wpAny_Expr_any (thn (he pins s σ H _ I h) fun v s1 ⟨x, H1, I1, r1, q1⟩ => ⟨σ, H1, I1, q1⟩) I.quiet hs
noncomputable def ka0 (te : TE) : TS := fun D σ H => te σ H D.rt
theorem yp2 (he : PE X e te) : PS X (.Return (some e) pos) (ka0 te) := by
  intro pins s σ H D I h
  exact wpAny_Return_some (thn (he pins s σ H _ I h) fun v s1 ⟨x, H1, I1, r1, q1⟩ => ⟨x, σ, H1, I1, r1, q1⟩)
noncomputable def ka1 (c : TT) (t u : TS) : TS := fun D σ H => c σ H fun b H1 => if b = true then t D σ H1 else u D σ H1
theorem wj0 {c : Expr} {a b : List Stmt} {tc : TT} (hc : PT X c tc) (ha : PSs X a t) (hb : PSs X b u) : PS X (.If c a b pos) (ka1 tc t u) := by
  intro pins s σ H D I h
  refine wpAny_If (thn (hc pins s σ H _ I h) fun d s1 ⟨H1, I1, q1⟩ => ?_)
  cases d with
  | true => exact ha pins s1 σ H1 D I1 q1
  | false => exact hb pins s1 σ H1 D I1 q1
noncomputable def wu3 : TS := fun _ _ _ => False
theorem we4 : PS X st wu3 := fun _ _ _ _ _ _ h => h.elim
end
noncomputable abbrev TG := V -> St -> Hp -> (St -> Hp -> Prop) -> Prop
noncomputable abbrev TGs := List V -> St -> Hp -> (St -> Hp -> Prop) -> Prop
noncomputable def PG (X : Cx) (target : Expr) (t : TG) : Prop :=
  ∀ (pins : List (Addr × Obj)) (s : Shared) (σ : St) (H : Hp) (v : V) (u : Value) (Q : St -> Hp -> Prop), Inv X pins σ H s -> zi6 v u -> t v σ H Q ->
    wpAny (model X.prog X.w) X.A (assign target X.env u) (fun _ s' => ∃ σ' H', Inv X pins σ' H' s' /\ Q σ' H') X.xe s
noncomputable def PGs (X : Cx) (ts : List Expr) (t : TGs) : Prop :=
  ∀ (pins : List (Addr × Obj)) (s : Shared) (σ : St) (H : Hp) (vs : List V) (us : List Value) (Q : St -> Hp -> Prop), Inv X pins σ H s -> zf5 vs us -> t vs σ H Q ->
    wpAny (model X.prog X.w) X.A (assignInOrder ((assignEach ts X.env).map (·.2)) us) (fun _ s' => ∃ σ' H', Inv X pins σ' H' s' /\ Q σ' H') X.xe s
noncomputable abbrev wi1 := V -> V -> V -> Hp -> (Hp -> Prop) -> Prop
noncomputable def wu4 (X : Cx) (t : wi1) : Prop :=
  ∀ (pins : List (Addr × Obj)) (s : Shared) (σ : St) (H : Hp) (o i v : V) (ov iv u : Value) (Q : Hp -> Prop), Inv X pins σ H s -> zi6 o ov -> zi6 i iv -> zi6 v u -> t o i v H Q ->
    wpAny (model X.prog X.w) X.A (setItem ov iv u) (fun _ s' => ∃ H', Inv X pins σ H' s' /\ Q H') X.xe s
section
variable {X : Cx} {pos : Pos}
noncomputable def yh0 (i : Nat) : TG := fun v σ H Q => Q (σ.set i (some v)) H
theorem zw9 {i : Nat} {x : Str} (hN : X.N.Nodup) (hi : X.N[i]? = some x) (hx : Loc X.env.scope x) (hf : X.fn x = true \/ X.env.scope.names.lookup x = some .local := by first | exact .inl rfl | exact .inr rfl | assumption) : PG X (.Name x pos) (yh0 i) := by
  intro pins s σ H v u Q I r h
  exact wpAny_assign_Name (xg6 I hN hi hx r (fun s' I' => ⟨_, H, I', h⟩) hf)
noncomputable def wi2 : TGs := fun vs σ H Q => vs = [] /\ Q σ H
noncomputable def xw4 (t : TG) (u : TGs) : TGs := fun vs σ H Q => ∃ v r, vs = v :: r /\ t v σ H fun σ' H' => u r σ' H' Q
theorem xa5 : PGs X [] wi2 := by
  intro pins s σ H vs us Q I r h
  obtain ⟨e, h⟩ := h
  subst e
  cases r
  exact assignInOrder_nil ⟨σ, H, I, h⟩
theorem yd4 {e : Expr} {es : List Expr} {t : TG} {u : TGs} (h1 : PG X e t) (h2 : PGs X es u)
    (hs : (assignEach (e :: es) X.env).map (·.2) = assign e X.env :: (assignEach es X.env).map (·.2) := by rfl) : PGs X (e :: es) (xw4 t u) := by
  intro pins s σ H vs us Q I r h
  obtain ⟨v, vr, e1, h⟩ := h
  subst e1
  cases r with
  | cons r rr =>
    rw [hs]
    refine assignInOrder_cons (thn (h1 pins s σ H _ _ _ I r h) fun _ s1 ⟨σ1, H1, I1, q1⟩ => ?_)
    exact h2 pins s1 σ1 H1 _ _ Q I1 rr q1
noncomputable def wu5 (K : PySem.W.Frag) (n : Nat) (t : TGs) : TG := fun v σ H Q => ∃ a xs, v = .ref a /\ SqT K H a xs /\ xs.length = n /\ t xs σ H Q
theorem wp7 {es : List Expr} {k : Nat} {t : TGs} {n : Nat} (hc : X.calm = true) (h : PGs X es t)
    (hn : (assignEach es X.env).length = n := by rfl) (hst : (assignEach es X.env).findIdx? (·.1) = none := by rfl) : PG X (.Tuple es k pos) (wu5 X.K n t) := by
  intro pins s σ H v u Q I r hw
  obtain ⟨a, xs, e1, hq, hl, hw⟩ := hw
  subst e1
  cases r
  obtain ⟨its, rv, ht, hz⟩ := I.tuple hq
  refine assign_Tuple_tuple (I.ok.hd hc) ht (by simp [hn, <- hl, rv.length]) hst fun h' hx => ?_
  have I1 : Inv X pins σ H { s with heap := h' } := I.kept (t' := s.toks) fun b o e => hx b o (Nat.ne_of_lt (Heap.lt_size e)) e
  exact h pins _ σ H xs _ Q I1 (by simpa using rv) hw
noncomputable def ka2 (to ti : TE) (t : wi1) : TG := fun v σ H Q => to σ H fun o H1 => ti σ H1 fun i H2 => t o i v H2 fun H3 => Q σ H3
theorem wp8 {o i : Expr} {to ti : TE} {t : wi1} (ho : PE X o to) (hi : PE X i ti) (hs : wu4 X t)
    (ha : ∀ v, assign (.Subscript o i pos) X.env v = (do
      let ov <- holding [v] (eval o X.env)
      let iv <- holding [v, ov] (eval i X.env)
      standAt pos
      holding [v, ov, iv] (setItem ov iv v)
      release [v, ov, iv] []) := by intro _; rfl) : PG X (.Subscript o i pos) (ka2 to ti t) := by
  intro pins s σ H v u Q I r h
  rw [ha]
  refine wpAny_bind (wpAny_holding (thn (ho pins s σ H _ I h) fun ov s1 ⟨x, H1, I1, r1, q1⟩ => ?_))
  refine wpAny_bind (wpAny_holding (thn (hi pins s1 σ H1 _ I1 q1) fun iv s2 ⟨y, H2, I2, r2, q2⟩ => ?_))
  refine wpAny_bind (wpAny_standAt (wpAny_bind (wpAny_holding (thn (hs pins s2 σ H2 x y v ov iv u _ I2 r1 r2 r q2) fun _ s3 ⟨H3, I3, q3⟩ => ?_))))
  exact wpAny_release ⟨σ, H3, I3, q3⟩
noncomputable def wu6 (te : TE) (g : TG) : TS := fun D σ H => te σ H fun x H1 => g x σ H1 D.nx
theorem xx3 {tg e : Expr} {te : TE} {g : TG} (he : PE X e te) (hg : PG X tg g) (hs : swapsWithSole [tg] e pos.line X.env = pure false := by rfl) (hw : swappedStores [tg] e X.env = pure none := by rfl)
    (h1 : (assignEach [tg] X.env).map (·.2) = [assign tg X.env] := by rfl) : PS X (.Assign [tg] e pos) (wu6 te g) := by
  intro pins s σ H D I h
  refine wpAny_Assign_stores (thn (he pins s σ H _ I h) fun v s1 ⟨x, H1, I1, r1, q1⟩ => ?_) hs hw
  rw [h1]
  exact thn (hg pins s1 σ H1 x v _ I1 r1 q1) fun _ s2 q => q
theorem yk9 {i : Nat} {x : Str} {e : Expr} {te : TE} {pos' : Pos} (hN : X.N.Nodup) (hi : X.N[i]? = some x) (hx : Loc X.env.scope x) (he : PE X e te) (hs : swapsWith e (some (.Name x pos')) pos.line X.env = pure false := by rfl) (hf : X.fn x = true \/ X.env.scope.names.lookup x = some .local := by first | exact .inl rfl | exact .inr rfl | assumption) :
    PS X (.Assign [.Name x pos'] e pos) (wu6 te (yh0 i)) := by
  intro pins s σ H D I h
  refine wpAny_Assign_Name (thn (he pins s σ H _ I h) fun v s1 ⟨y, H1, I1, r1, q1⟩ => ?_) hs
  exact xg6 I1 hN hi hx r1 (fun s2 I2 => ⟨_, H1, I2, q1⟩) hf
end
section
variable {X : Cx} {pos : Pos}
noncomputable def wu7 (c : TT) (tb : TS) : TS := fun D σ H => ∃ W : Nat -> St -> Hp -> Prop, (∃ m, W m σ H) /\ ∀ m σ H, W m σ H ->
  c σ H fun b H1 => if b = true then ∃ N : St -> Hp -> Prop, (∀ σ' H', N σ' H' -> ∃ m', m' < m /\ W m' σ' H') /\ tb { D with nx := N, ct := N, bk := D.nx } σ H1 else D.nx σ H1
theorem we5 {c : Expr} {body : List Stmt} {tc : TT} {tb : TS} (hp : PassesOwn (model X.prog X.w) X.A X.env X.xe) (hc : PT X c tc) (hb : PSs X body tb) : PS X (.While c body [] pos) (wu7 tc tb) := by
  intro pins s σ H D I h
  obtain ⟨W, ⟨m0, w0⟩, turn⟩ := h
  refine wpAny_While (codeAny_whileLoop (fun n s' => ∃ σ' H', Inv X pins σ' H' s' /\ W n σ' H') ?_ m0 ⟨σ, H, I, w0⟩)
  rintro n s1 ⟨σ1, H1, I1, w1⟩
  refine wpAny_passesOwn hp (thn (hc pins s1 σ1 H1 _ I1 (turn n σ1 H1 w1)) fun b s2 ⟨H2, I2, q2⟩ => ?_)
  cases b with
  | true =>
    obtain ⟨N, hN, q2⟩ := q2
    rw [if_pos rfl]
    refine wpAny_passesOwn hp (thn (hb pins s2 σ1 H2 _ I2 q2) fun f s3 q3 => ?_)
    cases f with
    | next =>
      obtain ⟨σ3, H3, I3, n3⟩ := q3
      obtain ⟨m', hm, w3⟩ := hN σ3 H3 n3
      exact ⟨m', hm, σ3, H3, I3, w3⟩
    | cont =>
      obtain ⟨σ3, H3, I3, n3⟩ := q3
      obtain ⟨m', hm, w3⟩ := hN σ3 H3 n3
      exact ⟨m', hm, σ3, H3, I3, w3⟩
    | brk => exact q3
    | ret v => exact q3
  | false =>
    rw [if_neg Bool.false_ne_true]
    exact wpAny_execs_nil ⟨σ1, H2, I2, q2⟩
end
structure It where
  go : Nat -> Hp -> Prop
  yld : Nat -> Hp -> V -> Hp -> Prop
  stop : Nat -> Hp -> Prop
noncomputable def yi9 (X : Cx) (pins : List (Addr × Obj)) (H : Hp) (b : Addr) : Prop :=
  H b = none /\ b ≠ X.env.locals /\ b ∉ X.fs /\ (b ∈ X.ex \/ X.s₀.heap.objs.size <= b) /\ (∀ x c, X.env.cells.lookup x = some c -> c ≠ b) /\ ∀ p ∈ X.pn ++ pins, p.1 ≠ b
theorem Inv.fpOk {X : Cx} {pins : List (Addr × Obj)} {σ : St} {H H' : Hp} {s : Shared} {b : Addr} (I : Inv X pins σ H s) (hb : s.heap.objs.size <= b) (hn : H' b = none) : yi9 X pins H' b := by
  refine ⟨hn, Nat.ne_of_gt (Nat.lt_of_lt_of_le I.lt hb), I.nofs hb, .inr (Nat.le_trans I.sz hb), fun x c e z => ?_, fun p hp z => ?_⟩
  . obtain ⟨v, q⟩ := I.cell x c e
    exact absurd (Nat.lt_of_lt_of_le q.lt (by rw [z]; exact hb)) (Nat.lt_irrefl _)
  . exact absurd (Nat.lt_of_lt_of_le (Heap.lt_size (I.pin p hp).1) (by rw [z]; exact hb)) (Nat.lt_irrefl _)
structure Turn (P : Program) (w : World) (K : PySem.W.Frag) (tg : Expr) (J : It) (fp : List Addr) (it : Addr) (tn : Nat -> Heap -> Prop) : Prop where
  mem : it ∈ fp
  obj : ∀ i h, tn i h -> ∀ b ∈ fp, ∃ o, h.get? b = some o /\ ∀ v, o.data ≠ .cell v
  keep : ∀ i h h', tn i h -> (∀ b ∈ fp, ∀ o, h.get? b = some o -> h'.get? b = some o) -> tn i h'
  item : ∀ (X : Cx), X.prog = P -> X.w = w -> X.K = K -> X.calm = true -> ∀ (i : Nat) (pins : List (Addr × Obj)) (s : Shared) (σ : St) (H : Hp) (E : Value -> Shared -> Prop), Inv X pins σ H s -> (∀ b ∈ fp, yi9 X pins H b) -> tn i s.heap -> J.go i H ->
    wpAny (model P w) X.A (pyNext (.ref it)) (fun r s1 => ∃ u, r = some u /\
      wpAny (model P w) X.A (letOwnedTupleGo tg (.ref it) u) (fun _ s2 => ∃ x H', Inv X pins σ H' s2 /\ zi6 x u /\ J.yld i H x H' /\ tn (i + 1) s2.heap /\ ∀ b ∈ fp, H' b = none) E s1) E s
  done : ∀ (X : Cx), X.prog = P -> X.w = w -> X.K = K -> X.calm = true -> ∀ (i : Nat) (pins : List (Addr × Obj)) (s : Shared) (σ : St) (H : Hp) (E : Value -> Shared -> Prop), Inv X pins σ H s -> (∀ b ∈ fp, yi9 X pins H b) -> tn i s.heap -> J.stop i H ->
    wpAny (model P w) X.A (pyNext (.ref it)) (fun r s1 => r = none /\ Inv X pins σ H s1) E s
  self : ∀ (A : Around) (i : Nat) (s : Shared) (Q : Value -> Shared -> Prop) (E : Value -> Shared -> Prop), tn i s.heap -> Q (.ref it) s -> wpAny (model P w) A (pyIter (.ref it)) Q E s
noncomputable abbrev TI := St -> Hp -> (It -> Hp -> Prop) -> Prop
noncomputable def PIE (X : Cx) (pins : List (Addr × Obj)) (σ : St) (tg : Expr) (R : It -> Hp -> Prop) (itv : Value) (s2 : Shared) : Prop :=
  ∃ (it : Addr) (fp : List Addr) (tn : Nat -> Heap -> Prop) (J : It) (H' : Hp), itv = .ref it /\ Inv X pins σ H' s2 /\ Turn X.prog X.w X.K tg J fp it tn /\ tn 0 s2.heap /\ (∀ b ∈ fp, yi9 X pins H' b) /\ R J H'
noncomputable def PI (X : Cx) (tg iter : Expr) (wi : TI) : Prop :=
  ∀ (pins : List (Addr × Obj)) (s : Shared) (σ : St) (H : Hp) (R : It -> Hp -> Prop), Inv X pins σ H s -> wi σ H R ->
    wpAny (model X.prog X.w) X.A (eval iter X.env) (fun v s1 => wpAny (model X.prog X.w) X.A (pyIter v) (PIE X pins σ tg R) X.xe s1) X.xe s
theorem xf4 {M : Model} {A : Around} {E : Value -> Shared -> Prop} {s : Shared} {tg : Expr} {it : Addr} {u : Value} {o : Obj} {n : String} {vs : Array Value} {Q : Unit -> Shared -> Prop} (ho : s.heap.get? it = some o) (hc : o.cls = .type n) (hd : o.data = .fields vs)
    (hn : ["enumerate", "zip", "dict_itemiterator", "dict_reverseitemiterator", "odict_iterator", "itertools.zip_longest", "itertools.pairwise"].contains n = false) (hQ : Q () s) : wpAny M A (letOwnedTupleGo tg (.ref it) u) Q E s := by
  unfold letOwnedTupleGo
  cases tg <;> first
    | exact wpAny_pure hQ
    | (cases u <;> first
        | exact wpAny_pure hQ
        | (refine wpAny_bind (wpAny_load ho ?_)
           rw [hc, hd]
           show wpAny M A (if (["enumerate", "zip", "dict_itemiterator", "dict_reverseitemiterator", "odict_iterator", "itertools.zip_longest", "itertools.pairwise"].contains n && vs[0]? == some (rawInt _)) = true then _ else _) Q E s
           rw [if_neg (by intro h; rw [hn, Bool.false_and] at h; cases h)]
           exact wpAny_pure hQ))
noncomputable def Itl (K : PySem.W.Frag) (a : Addr) : It :=
  ⟨fun i H => ∃ xs x, SqL K H a xs /\ xs[i]? = some x, fun i H x H' => H' = H /\ ∀ xs, SqL K H a xs -> xs[i]? = some x, fun i H => ∃ xs, SqL K H a xs /\ xs.length <= i⟩
noncomputable def Itt (K : PySem.W.Frag) (a : Addr) : It :=
  ⟨fun i H => ∃ xs x, SqT K H a xs /\ xs[i]? = some x, fun i H x H' => H' = H /\ ∀ xs, SqT K H a xs -> xs[i]? = some x, fun i H => ∃ xs, SqT K H a xs /\ xs.length <= i⟩
noncomputable def Itr (lo : Int) (n : Nat) : It := ⟨fun i _ => i < n, fun i H x H' => H' = H /\ x = .int (lo + i), fun i _ => n <= i⟩
theorem xx4 {P : Program} {w : World} {K : PySem.W.Frag} {tg : Expr} (a it : Addr) : Turn P w K tg (Itl K a) [it] it (fun i h => h.IsListIter it a i) where
  mem := by simp
  obj := fun i h st b hb => by
    have e : b = it := by simpa using hb
    subst e
    obtain ⟨o, e, c, d⟩ := st
    exact ⟨o, e, fun v z => by rw [d] at z; cases z⟩
  keep := fun i h h' st k => st.at fun o e => k it (by simp) o e
  item := by
    intro X hP hw hK hc i pins s σ H E I hf st hg
    subst hP hw hK
    obtain ⟨xs, x, hq, hx⟩ := hg
    obtain ⟨its, rv, p, hz⟩ := I.list hq
    obtain ⟨u, hu, ru⟩ := rv.get hx
    obtain ⟨f0, f1, f2, f3, f4, f5⟩ := hf it (by simp)
    refine wpAny_pyNext_list_item st p.isList (x := u) (by simpa using hu) fun h' st' sb => ?_
    have I1 : Inv X pins σ H { s with heap := h' } := I.turned (t' := s.toks) (fun b o hb e => (sb.2 b hb).trans e) f0 f1 f3 f4 f5
    obtain ⟨o, e, c, d⟩ := id st'
    exact ⟨u, rfl, xf4 (s := { s with heap := h' }) e c d (by decide) ⟨x, H, I1, ru, ⟨rfl, fun ys hy => by rw [I.list_inj hy hq]; exact hx⟩, st', fun b hb => (hf b hb).1⟩⟩
  done := by
    intro X hP hw hK hc i pins s σ H E I hf st hg
    subst hP hw hK
    obtain ⟨xs, hq, hx⟩ := hg
    obtain ⟨its, rv, p, hz⟩ := I.list hq
    obtain ⟨f0, f1, f2, f3, f4, f5⟩ := hf it (by simp)
    have hl := rv.length
    exact wpAny_pyNext_list_end (I.ok.hd hc) st p.isList (by simp; omega) fun h' eb => ⟨rfl, I.turned (t' := s.toks) (fun b o hb e => eb b o hb e) f0 f1 f3 f4 f5⟩
  self := fun _ _ _ _ _ st h => wpAny_pyIter_listiter st h
theorem xs2 {P : Program} {w : World} {K : PySem.W.Frag} {tg : Expr} (a it : Addr) : Turn P w K tg (Itt K a) [it] it (fun i h => h.IsTupleIter it a i) where
  mem := by simp
  obj := fun i h st b hb => by
    have e : b = it := by simpa using hb
    subst e
    obtain ⟨o, e, c, d⟩ := st
    exact ⟨o, e, fun v z => by rw [d] at z; cases z⟩
  keep := fun i h h' st k => st.at fun o e => k it (by simp) o e
  item := by
    intro X hP hw hK hc i pins s σ H E I hf st hg
    subst hP hw hK
    obtain ⟨xs, x, hq, hx⟩ := hg
    obtain ⟨its, rv, p, hz⟩ := I.tuple hq
    obtain ⟨u, hu, ru⟩ := rv.get hx
    obtain ⟨f0, f1, f2, f3, f4, f5⟩ := hf it (by simp)
    refine wpAny_pyNext_tuple_item st (show s.heap.IsTuple a its.toArray from p) (x := u) (by simpa using hu) fun h' st' sb => ?_
    have I1 : Inv X pins σ H { s with heap := h' } := I.turned (t' := s.toks) (fun b o hb e => (sb.2 b hb).trans e) f0 f1 f3 f4 f5
    obtain ⟨o, e, c, d⟩ := id st'
    exact ⟨u, rfl, xf4 (s := { s with heap := h' }) e c d (by decide) ⟨x, H, I1, ru, ⟨rfl, fun ys hy => by rw [I.tuple_inj hy hq]; exact hx⟩, st', fun b hb => (hf b hb).1⟩⟩
  done := by
    intro X hP hw hK hc i pins s σ H E I hf st hg
    subst hP hw hK
    obtain ⟨xs, hq, hx⟩ := hg
    obtain ⟨its, rv, p, hz⟩ := I.tuple hq
    obtain ⟨f0, f1, f2, f3, f4, f5⟩ := hf it (by simp)
    have hl := rv.length
    exact wpAny_pyNext_tuple_end (I.ok.hd hc) st (show s.heap.IsTuple a its.toArray from p) (by simp; omega) fun h' eb => ⟨rfl, I.turned (t' := s.toks) (fun b o hb e => eb b o hb e) f0 f1 f3 f4 f5⟩
  self := fun _ _ _ _ _ st h => wpAny_pyIter_tupleiter st h
theorem xs3 {P : Program} {w : World} {K : PySem.W.Frag} {tg : Expr} (it : Addr) (lo : Int) (n : Nat) : Turn P w K tg (Itr lo n) [it] it (fun i h => IsRangeIter h it (lo + (i : Nat) * 1) ((n : Int) - (i : Nat)) 1) where
  mem := by simp
  obj := fun i h st b hb => by
    have e : b = it := by simpa using hb
    subst e
    exact ⟨_, st, fun v z => by
      have z' : Data.fields _ = Data.cell v := z
      cases z'⟩
  keep := fun i h h' st k => k it (by simp) _ st
  item := by
    intro X hP hw hK hc i pins s σ H E I hf st hg
    subst hP hw hK
    obtain ⟨f0, f1, f2, f3, f4, f5⟩ := hf it (by simp)
    have W := Walks.range (prog := X.prog) (w := X.w) (I.ok.hd hc) it lo 1 n
    refine W.item i s _ _ hg st fun v h' tk hv st' kk => ?_
    obtain ⟨t, rfl⟩ := hv
    have I1 : Inv X pins σ H { s with heap := h', toks := tk } := I.turned (fun b o hb e => kk b o (by simpa using hb) e) f0 f1 f3 f4 f5
    refine ⟨_, rfl, xf4 (s := { s with heap := h', toks := tk }) (n := "range_iterator") st' rfl rfl (by decide) ⟨.int (lo + i), H, I1, ⟨t, ?_⟩, ⟨rfl, rfl⟩, st', fun b hb => (hf b hb).1⟩⟩
    rw [Int.mul_one]
  done := by
    intro X hP hw hK hc i pins s σ H E I hf st hg
    subst hP hw hK
    obtain ⟨f0, f1, f2, f3, f4, f5⟩ := hf it (by simp)
    exact wpAny_pyNext_range_end (I.ok.hd hc) st (by have : n <= i := hg; omega) fun h' eb => ⟨rfl, I.turned (t' := s.toks) (fun b o hb e => eb b o hb e) f0 f1 f3 f4 f5⟩
  self := fun _ _ _ _ _ st h => wpAny_pyIter_rangeiter st h
end L2
namespace L2
open PySem PySem.Spec PyProof.Rows
section
variable {X : Cx} {tg : Expr}
theorem xg7 {pins : List (Addr × Obj)} {σ : St} {H : Hp} {s : Shared} {R : It -> Hp -> Prop} {E : Value -> Shared -> Prop} {lo hi : Int} {t u v : Tok} {tk : Nat} (I : Inv X pins σ H s) (h1 : -(2 ^ 62) <= lo) (h2 : lo < 2 ^ 62) (h3 : -(2 ^ 62) <= hi) (h4 : hi < 2 ^ 62)
    (q : R (Itr lo (hi - lo).toNat) H) : wpAny (model X.prog X.w) X.A (pyIter (.ref s.heap.objs.size)) (PIE X pins σ tg R) E { s with heap := s.heap.push { cls := .type "range", data := .fields #[.int lo t, .int hi u, .int 1 v] }, toks := tk } := by
  refine wpAny_pyIter_range (IsRange.new ..) (small_one h1 h2 h3 h4) ?_
  have I1 : Inv X pins σ H { s with heap := s.heap.push { cls := .type "range", data := .fields #[.int lo t, .int hi u, .int 1 v] }, toks := tk } := I.kept fun b o e => Heap.get?_push_of_some _ e
  refine ⟨(s.heap.push { cls := .type "range", data := .fields #[.int lo t, .int hi u, .int 1 v] }).objs.size, [(s.heap.push { cls := .type "range", data := .fields #[.int lo t, .int hi u, .int 1 v] }).objs.size], _, _, H, rfl,
    I1.kept (t' := tk) fun b o e => Heap.get?_push_of_some _ e, xs3 _ lo (hi - lo).toNat, ?_, fun b hb => ?_, q⟩
  . have e1 : lo + ((0 : Nat) : Int) * 1 = lo := by simp
    have e2 : (((hi - lo).toNat : Nat) : Int) - ((0 : Nat) : Int) = Builtin.Range.rangeSize lo hi 1 := by rw [rangeSize_one]; split <;> omega
    show IsRangeIter _ _ (lo + ((0 : Nat) : Int) * 1) ((((hi - lo).toNat : Nat) : Int) - ((0 : Nat) : Int)) 1
    rw [e1, e2]
    exact Heap.get?_push_size _ rfl
  . have e : b = (s.heap.push { cls := .type "range", data := .fields #[.int lo t, .int hi u, .int 1 v] }).objs.size := by simpa using hb
    subst e
    exact I1.fpOk (Nat.le_refl _) (I1.hok.fresh (Nat.le_refl _))
noncomputable def wx6 (ta : TA) : TI := fun σ H R => ta σ H fun vs H1 => ∃ j : Int, vs = [.int j] /\ -(2 ^ 62) <= j /\ j < 2 ^ 62 /\ R (Itr 0 j.toNat) H1
noncomputable def wx7 (ta : TA) : TI := fun σ H R => ta σ H fun vs H1 => ∃ i j : Int, vs = [.int i, .int j] /\ (-(2 ^ 62) <= i /\ i < 2 ^ 62 /\ -(2 ^ 62) <= j /\ j < 2 ^ 62) /\ R (Itr i (j - i).toNat) H1
theorem xx5 {a : Expr} {ta : TA} {p pos : Pos} (hg : Gl X "range") (hm : X.mg "range" = none) (ha : PA X [a] ta) (hs : starEach [a] X.env = [(false, eval a X.env)] := by rfl) : PI X tg (.Call (.Name "range" p) [a] [] pos) (wx6 ta) := by
  intro pins s σ H R I h
  refine Call_ (yp1 I hg hm boot_range (PyProof.Rows.callWith_type1 (thn (ha pos pins s σ H _ I h) fun us s1 ⟨vs, H1, I1, r1, q1⟩ => ?_) hs rfl))
  obtain ⟨j, e, q1, q2, q⟩ := q1
  subst e
  cases r1 with
  | cons r rr =>
    cases rr
    obtain ⟨t, rfl⟩ := r
    exact call_range_1 (xg7 I1 (by omega) (by omega) q1 q2 (by simpa using q))
theorem xx6 {a b : Expr} {ta : TA} {p pos : Pos} (hg : Gl X "range") (hm : X.mg "range" = none) (ha : PA X [a, b] ta) (hs : starEach [a, b] X.env = [(false, eval a X.env), (false, eval b X.env)] := by rfl) (hs2 : starEach [b] X.env = [(false, eval b X.env)] := by rfl) :
    PI X tg (.Call (.Name "range" p) [a, b] [] pos) (wx7 ta) := by
  intro pins s σ H R I h
  refine Call_ (yp1 I hg hm boot_range (PyProof.Rows.callWith_type1 (thn (ha pos pins s σ H _ I h) fun us s1 ⟨vs, H1, I1, r1, q1⟩ => ?_) (by rw [hs, hs2]) (by rw [hs2]; rfl)))
  obtain ⟨i, j, e, ⟨q1, q2, q3, q4⟩, q⟩ := q1
  subst e
  cases r1 with
  | cons r rr =>
    cases rr with
    | cons r' rr =>
      cases rr
      obtain ⟨t, rfl⟩ := r
      obtain ⟨t', rfl⟩ := r'
      exact call_range_2 (xg7 I1 q1 q2 q3 q4 q)
noncomputable def ka3 (wi : TI) (g : TG) (tb : TS) : TS := fun D σ H => wi σ H fun J H1 => ∃ W : Nat -> Nat -> St -> Hp -> Prop, (∃ m, W 0 m σ H1) /\ ∀ i m σ H, W i m σ H ->
  (J.stop i H /\ D.nx σ H) \/ (J.go i H /\ ∃ N : St -> Hp -> Prop, (∀ σ' H', N σ' H' -> ∃ m', m' < m /\ W (i + 1) m' σ' H') /\ ∀ x H', J.yld i H x H' -> g x σ H' fun σ2 H2 => tb { D with nx := N, ct := N, bk := D.nx } σ2 H2)
noncomputable def ym1 (fp : List Addr) (h : Heap) : List (Addr × Obj) := fp.filterMap fun b => (h.get? b).map fun o => (b, o)
theorem yg6 {fp : List Addr} {h : Heap} {b : Addr} {o : Obj} (hb : b ∈ fp) (e : h.get? b = some o) : (b, o) ∈ ym1 fp h := List.mem_filterMap.mpr ⟨b, hb, by rw [e]; rfl⟩
theorem xx7 {fp : List Addr} {h : Heap} {p : Addr × Obj} (hp : p ∈ ym1 fp h) : p.1 ∈ fp /\ h.get? p.1 = some p.2 := by
  obtain ⟨b, hb, e⟩ := List.mem_filterMap.mp hp
  cases q : h.get? b with
  | none => rw [q] at e; cases e
  | some o =>
    rw [q] at e
    have e' : (b, o) = p := Option.some.inj e
    subst e'
    exact ⟨hb, q⟩
theorem Inv.pinned {pins : List (Addr × Obj)} {σ : St} {H : Hp} {s : Shared} {fp : List Addr} (I : Inv X pins σ H s) (hf : ∀ b ∈ fp, yi9 X pins H b) (ho : ∀ b ∈ fp, ∃ o, s.heap.get? b = some o /\ ∀ v, o.data ≠ .cell v) : Inv X (pins ++ ym1 fp s.heap) σ H s :=
  I.pins_of fun p hp => (List.mem_append.mp hp).elim (fun z => I.pin p (List.mem_append_right _ z)) fun z => by
    obtain ⟨hb, e⟩ := xx7 z
    obtain ⟨f0, f1, f2, _⟩ := hf p.1 hb
    obtain ⟨o, e', d⟩ := ho p.1 hb
    rw [e] at e'; cases e'
    exact ⟨e, f0, f1, f2, d⟩
theorem Inv.unpinned {pins pl : List (Addr × Obj)} {σ : St} {H : Hp} {s : Shared} (I : Inv X (pins ++ pl) σ H s) : Inv X pins σ H s := I.pins_of fun p hp => I.pin p (List.mem_append_right _ (List.mem_append_left _ hp))
theorem xx8 {iter : Expr} {body : List Stmt} {wi : TI} {g : TG} {tb : TS} {pos : Pos} (hp : PassesOwn (model X.prog X.w) X.A X.env X.xe) (hc : X.calm = true) (hi : PI X tg iter wi) (hg : PG X tg g) (hb : PSs X body tb)
    (hs : ∀ x, foldedSetIterable iter X.env x = pure x := by intro _; rfl) : PS X (.For tg iter body [] pos) (ka3 wi g tb) := by
  intro pins s σ H D I h
  refine wpAny_For (thn (hi pins s σ H _ I h) fun v s1 h1 => thn h1 fun itv s2 h2 => ?_) hs
  obtain ⟨it, fp, tn, J, H2, e, I2, T, st2, f2, W, ⟨m0, w0⟩, turn⟩ := h2
  subst e
  have stat : ∀ {H' : Hp}, (∀ b ∈ fp, H' b = none) -> ∀ b ∈ fp, yi9 X pins H' b := fun hn b hb => ⟨hn b hb, (f2 b hb).2⟩
  refine codeAny_forLoop_any (fun n s' => ∃ i σ' H', Inv X pins σ' H' s' /\ tn i s'.heap /\ (∀ b ∈ fp, H' b = none) /\ W i n σ' H') ?_ m0 ⟨0, σ, H2, I2, st2, fun b hb => (f2 b hb).1, w0⟩
  rintro n s3 ⟨i, σ3, H3, I3, st3, fr3, w3⟩
  rcases turn i n σ3 H3 w3 with ⟨stop, qn⟩ | ⟨go, N, hN, step⟩
  . refine wpAny_passesOwn hp (thn (T.done X rfl rfl rfl hc i pins s3 σ3 H3 X.xe I3 (stat fr3) st3 stop) fun r s4 ⟨hr, I4⟩ => ?_)
    subst hr
    exact wpAny_execs_nil ⟨σ3, H3, I4, qn⟩
  . refine wpAny_passesOwn hp (thn (T.item X rfl rfl rfl hc i pins s3 σ3 H3 X.xe I3 (stat fr3) st3 go) fun r s4 ⟨u, hr, h4⟩ => ?_)
    subst hr
    refine wpAny_passesOwn hp (thn h4 fun _ s5 ⟨x, H5, I5, r5, y5, st5, fr5⟩ => ?_)
    have I5' := I5.pinned (stat fr5) (T.obj _ _ st5)
    refine wpAny_passesOwn hp (thn (hg _ s5 σ3 H5 x u _ I5' r5 (step x H5 y5)) fun _ s6 ⟨σ6, H6, I6, q6⟩ => ?_)
    refine wpAny_passesOwn hp (thn (hb _ s6 σ6 H6 _ I6 q6) fun f s7 q7 => ?_)
    have again : ∀ {σ7 : St} {H7 : Hp}, Inv X (pins ++ ym1 fp s5.heap) σ7 H7 s7 -> N σ7 H7 -> ∃ m, m < n /\ ∃ i σ' H', Inv X pins σ' H' s7 /\ tn i s7.heap /\ (∀ b ∈ fp, H' b = none) /\ W i m σ' H' := fun {σ7 H7} I7 n7 => by
      obtain ⟨m', hm, w7⟩ := hN σ7 H7 n7
      refine ⟨m', hm, i + 1, σ7, H7, I7.unpinned, T.keep _ _ _ st5 fun b hb o e => (I7.pin (b, o) (List.mem_append_right _ (List.mem_append_right _ (yg6 hb e)))).1, fun b hb => ?_, w7⟩
      obtain ⟨o, e, d⟩ := T.obj _ _ st5 b hb
      exact (I7.pin (b, o) (List.mem_append_right _ (List.mem_append_right _ (yg6 hb e)))).2.1
    cases f with
    | next => obtain ⟨σ7, H7, I7, n7⟩ := q7; exact again I7 n7
    | cont => obtain ⟨σ7, H7, I7, n7⟩ := q7; exact again I7 n7
    | brk => obtain ⟨σ7, H7, I7, q7⟩ := q7; exact ⟨σ7, H7, I7.unpinned, q7⟩
    | ret v => obtain ⟨x7, σ7, H7, I7, r7, q7⟩ := q7; exact ⟨x7, σ7, H7, I7.unpinned, r7, q7⟩
end
end L2
namespace L2
open PySem PySem.Spec PyProof.Rows
noncomputable abbrev R2 := V -> V -> Hp -> VK -> Prop
noncomputable def OpR (X : Cx) (f : Value -> Value -> Sem Value) (r : R2) : Prop :=
  ∀ (pins : List (Addr × Obj)) (s : Shared) (σ : St) (H : Hp) (x y : V) (v u : Value) (Q : VK), Inv X pins σ H s -> zi6 x v -> zi6 y u -> r x y H Q ->
    wpAny (model X.prog X.w) X.A (f v u) (EP X pins σ Q) X.xe s
noncomputable def UnR (X : Cx) (f : Value -> Sem Value) (r : V -> Hp -> VK -> Prop) : Prop :=
  ∀ (pins : List (Addr × Obj)) (s : Shared) (σ : St) (H : Hp) (x : V) (v : Value) (Q : VK), Inv X pins σ H s -> zi6 x v -> r x H Q ->
    wpAny (model X.prog X.w) X.A (f v) (EP X pins σ Q) X.xe s
noncomputable def zl2 (X : Cx) (f : Value) (r : List V -> Hp -> VK -> Prop) : Prop :=
  ∀ (pins : List (Addr × Obj)) (s : Shared) (σ : St) (H : Hp) (xs : List V) (us : List Value) (Q : VK), Inv X pins σ H s -> zf5 xs us -> r xs H Q ->
    wpAny (model X.prog X.w) X.A (call f us) (EP X pins σ Q) X.xe s
noncomputable def ka4 (X : Cx) (r : V -> Hp -> (Bool -> Hp -> Prop) -> Prop) : Prop :=
  ∀ (pins : List (Addr × Obj)) (s : Shared) (σ : St) (H : Hp) (x : V) (v : Value) (Q : Bool -> Hp -> Prop), Inv X pins σ H s -> zi6 x v -> r x H Q ->
    wpAny (model X.prog X.w) X.A (truthy v) (TP X pins σ Q) X.xe s
noncomputable def tOp (r : R2) (ta tb : TE) : TE := fun σ H Q => ta σ H fun x H1 => tb σ H1 fun y H2 => r x y H2 Q
noncomputable def tUn (r : V -> Hp -> VK -> Prop) (ta : TE) : TE := fun σ H Q => ta σ H fun x H1 => r x H1 Q
noncomputable def rI (C : Int -> Int -> Prop) (g : Int -> Int -> V) : R2 := fun x y H Q => ∃ i j, x = .int i /\ y = .int j /\ C i j /\ Q (g i j) H
noncomputable def rI0 (g : Int -> Int -> V) : R2 := fun x y H Q => ∃ i j, x = .int i /\ y = .int j /\ Q (g i j) H
noncomputable def rU (g : Int -> V) : V -> Hp -> VK -> Prop := fun x H Q => ∃ i, x = .int i /\ Q (g i) H
section
variable {X : Cx} {a b c : Expr} {ta tb tc : TE} {pos : Pos}
theorem we6 (ha : PE X a ta) (hb : PE X b tb) {pins : List (Addr × Obj)} {s : Shared} {σ : St} {H : Hp} {R : V -> V -> Hp -> Prop} (I : Inv X pins σ H s)
    (h : ta σ H fun x H1 => tb σ H1 fun y H2 => R x y H2) {Q : Value -> Shared -> Prop} {f : Value -> Value -> Sem Value}
    (hf : ∀ v u s2 x y H2, Inv X pins σ H2 s2 -> zi6 x v -> zi6 y u -> R x y H2 -> wpAny (model X.prog X.w) X.A (f v u) Q X.xe s2) :
    wpAny (model X.prog X.w) X.A (eval a X.env) (fun v s₁ => wpAny (model X.prog X.w) X.A (eval b X.env) (fun u s₂ => wpAny (model X.prog X.w) X.A (f v u) Q X.xe s₂) X.xe s₁) X.xe s := by
  refine thn (ha pins s σ H _ I h) fun v s1 ⟨x, H1, I1, r1, q1⟩ => ?_
  refine thn (hb pins s1 σ H1 _ I1 q1) fun u s2 ⟨y, H2, I2, r2, q2⟩ => ?_
  exact hf v u s2 x y H2 I2 r1 r2 q2
theorem zp9 {op : Operator} {r : R2} (ho : OpR X (binaryOp op) r) (ha : PE X a ta) (hb : PE X b tb) : PE X (.BinOp a op b pos) (tOp r ta tb) := by
  intro pins s σ H Q I h
  exact wpAny_BinOp (we6 ha hb I h fun v u s2 x y H2 I2 rx ry q => ho pins s2 σ H2 x y v u Q I2 rx ry q)
theorem wv9 {op : UnaryOp} {r : V -> Hp -> VK -> Prop} (ho : UnR X (unaryOp op) r) (ha : PE X a ta) : PE X (.UnaryOp op a pos) (tUn r ta) := by
  intro pins s σ H Q I h
  exact UnaryOp_ (thn (ha pins s σ H _ I h) fun v s1 ⟨x, H1, I1, r1, q1⟩ => ho pins s1 σ H1 x v Q I1 r1 q1)
theorem opI {f : Value -> Value -> Sem Value} {C : Int -> Int -> Prop} {g : Int -> Int -> Int}
    (rule : ∀ (i j : Int) (t u : Tok) (s : Shared) (Q : Value -> Shared -> Prop) (E : Value -> Shared -> Prop), C i j -> Q (.int (g i j) s.toks) { s with toks := s.toks + 1 } -> wpAny (model X.prog X.w) X.A (f (.int i t) (.int j u)) Q E s) :
    OpR X f (rI C fun i j => .int (g i j)) := by
  intro pins s σ H x y v u Q I rx ry h
  obtain ⟨i, j, rfl, rfl, hc, q⟩ := h
  obtain ⟨t, rfl⟩ := rx
  obtain ⟨t', rfl⟩ := ry
  exact rule i j t t' s _ _ hc ⟨.int (g i j), H, I.tok _, ⟨_, rfl⟩, q⟩
theorem we7 {f : Value -> Value -> Sem Value} {g : Int -> Int -> Int}
    (rule : ∀ (i j : Int) (t u : Tok) (s : Shared) (Q : Value -> Shared -> Prop) (E : Value -> Shared -> Prop), Q (.int (g i j) s.toks) { s with toks := s.toks + 1 } -> wpAny (model X.prog X.w) X.A (f (.int i t) (.int j u)) Q E s) :
    OpR X f (rI0 fun i j => .int (g i j)) := by
  intro pins s σ H x y v u Q I rx ry h
  obtain ⟨i, j, rfl, rfl, q⟩ := h
  obtain ⟨t, rfl⟩ := rx
  obtain ⟨t', rfl⟩ := ry
  exact rule i j t t' s _ _ ⟨.int (g i j), H, I.tok _, ⟨_, rfl⟩, q⟩
theorem xs4 {f : Value -> Value -> Sem Value} {g : Int -> Int -> Bool}
    (rule : ∀ (i j : Int) (t u : Tok) (s : Shared) (Q : Value -> Shared -> Prop) (E : Value -> Shared -> Prop), Q (.bool (g i j)) s -> wpAny (model X.prog X.w) X.A (f (.int i t) (.int j u)) Q E s) :
    OpR X f (rI0 fun i j => .bl (g i j)) := by
  intro pins s σ H x y v u Q I rx ry h
  obtain ⟨i, j, rfl, rfl, q⟩ := h
  obtain ⟨t, rfl⟩ := rx
  obtain ⟨t', rfl⟩ := ry
  exact rule i j t t' s _ _ ⟨.bl (g i j), H, I, rfl, q⟩
noncomputable def ka5 (i j : Int) : Prop := 0 < j /\ j < 1073741824
noncomputable def wi3 (i j : Int) : Prop := (-(2 ^ 64) < i /\ i < 2 ^ 64) \/ (-(2 ^ 64) < j /\ j < 2 ^ 64)
theorem wi3.ok {i j : Int} (h : wi3 i j) : IntMulOk i j := by
  rcases h with ⟨h1, h2⟩ | ⟨h1, h2⟩
  . exact .of_left (intBits_le_64 h1 h2)
  . exact .of_right (intBits_le_64 h1 h2)
theorem xs5 (k : Nat) : (0 : Int) <= 2 ^ k := by
  rw [two_pow_cast]
  exact Int.natCast_nonneg _
theorem yl0 : OpR X (binaryOp .Add) (rI0 fun i j => .int (i + j)) := we7 fun _ _ _ _ _ _ _ q => add_int q
theorem wp9 : OpR X (binaryOp .Sub) (rI0 fun i j => .int (i - j)) := we7 fun _ _ _ _ _ _ _ q => sub_int q
theorem yc0 : OpR X (binaryOp .Mult) (rI wi3 fun i j => .int (i * j)) := opI fun _ _ _ _ _ _ _ hc q => mul_int q hc.ok
theorem xo8 : OpR X (binaryOp .FloorDiv) (rI ka5 fun i j => .int (i / j)) := opI fun i j _ _ _ _ _ hc q => by
  have h1 : (0 : Int) < j := hc.1
  have h2 : j < 1073741824 := hc.2
  exact floordiv_int (by omega) (by rw [Int.fdiv_eq_ediv_of_nonneg i (by omega)]; exact q) (.inl (PyProof.noPylong_small (by omega)))
theorem yw1 : OpR X (binaryOp .Mod) (rI (fun _ j => 0 < j) fun i j => .int (i % j)) := opI fun i j _ _ _ _ _ hc q => by
  have h1 : (0 : Int) < j := hc
  exact mod_int' (by omega) (by rw [Int.fmod_eq_emod_of_nonneg i (by omega)]; exact q)
theorem wq0 : OpR X (binaryOp .RShift) (rI (fun _ j => 0 <= j) fun i j => .int (i / 2 ^ j.toNat)) := opI fun i j _ _ _ _ _ hc q =>
  rshift_int hc (by rw [Int.fdiv_eq_ediv_of_nonneg i (xs5 _)]; exact q)
theorem xx9 : OpR X (binaryOp .BitAnd) (rI0 fun i j => .int (Builtin.bitAnd i j)) := we7 fun _ _ _ _ _ _ _ q => and_int q
theorem unI {f : Value -> Sem Value} {g : Int -> Int}
    (rule : ∀ (i : Int) (t : Tok) (s : Shared) (Q : Value -> Shared -> Prop) (E : Value -> Shared -> Prop), Q (.int (g i) s.toks) { s with toks := s.toks + 1 } -> wpAny (model X.prog X.w) X.A (f (.int i t)) Q E s) :
    UnR X f (rU fun i => .int (g i)) := by
  intro pins s σ H x v Q I rx h
  obtain ⟨i, rfl, q⟩ := h
  obtain ⟨t, rfl⟩ := rx
  exact rule i t s _ _ ⟨.int (g i), H, I.tok _, ⟨_, rfl⟩, q⟩
theorem wq1 : UnR X (unaryOp .USub) (rU fun i => .int (-i)) := unI fun _ _ _ _ _ q => neg_int q
end
noncomputable def wu8 : V -> V -> Bool
  | .non, .non => true | .non, .int _ => true | .int _, .non => true | .non, .bl _ => true | .bl _, .non => true | .non, .str _ => true | .str _, .non => true
  | .int _, .int _ => true | .bl _, .bl _ => true | .str _, .str _ => true | .byt _, .byt _ => true
  | .int _, .str _ => true | .str _, .int _ => true | .bl _, .str _ => true | .str _, .bl _ => true
  | _, _ => false
noncomputable def rEq : R2 := fun x y H Q => wu8 x y = true /\ Q (.bl (decide (x = y))) H
noncomputable def rNe : R2 := fun x y H Q => wu8 x y = true /\ Q (.bl (!decide (x = y))) H
theorem xo9 {i j : Int} : decide (V.int i = V.int j) = (i == j) := by
  rw [Bool.eq_iff_iff]
  simp
theorem xy0 {i j : Bool} : decide (V.bl i = V.bl j) = (i == j) := by
  rw [Bool.eq_iff_iff]
  simp
theorem xp0 {i j : Str} : decide (V.str i = V.str j) = (i == j) := by
  rw [Bool.eq_iff_iff]
  simp
theorem xp1 {i j : Array UInt8} : decide (V.byt i = V.byt j) = (i.toList == j.toList) := by
  rw [Bool.eq_iff_iff]
  cases i
  cases j
  simp
section
variable {X : Cx} {a b c : Expr} {ta tb tc : TE} {pos : Pos}
theorem zj6 {pins : List (Addr × Obj)} {σ : St} {H : Hp} {s : Shared} {Q : VK} {k k' : Bool} (I : Inv X pins σ H s) (q : Q (.bl k) H) (e : k = k') : EP X pins σ Q (.bool k') s := by
  subst e
  exact ⟨.bl k, H, I, rfl, q⟩
theorem xs6 : OpR X (compareOp .Eq) rEq := by
  intro pins s σ H x y v u Q I rx ry h
  obtain ⟨hs, q⟩ := h
  cases x with
  | non =>
    cases rx
    cases y with
    | non => cases ry; exact PySem.EqNone.eq_none_none (zj6 I q (by simp))
    | bl j => cases ry; exact PySem.EqNone.eq_none_bool (zj6 I q (by simp))
    | int j => obtain ⟨t', rfl⟩ := ry; exact PySem.EqNone.eq_none_int (zj6 I q (by simp))
    | str j => obtain ⟨t', rfl⟩ := ry; exact PySem.EqNone.eq_none_str (zj6 I q (by simp))
    | _ => exact absurd (show false = true from hs) Bool.false_ne_true
  | bl i =>
    cases rx
    cases y with
    | non => cases ry; exact PySem.EqNone.eq_bool_none (zj6 I q (by simp))
    | bl j => cases ry; exact eq_bool (zj6 I q xy0)
    | str j => obtain ⟨t', rfl⟩ := ry; exact PySem.EqMixed.eq_bool_str (zj6 I q (by simp))
    | _ => exact absurd (show false = true from hs) Bool.false_ne_true
  | int i =>
    obtain ⟨t, rfl⟩ := rx
    cases y with
    | non => cases ry; exact PySem.EqNone.eq_int_none (zj6 I q (by simp))
    | int j => obtain ⟨t', rfl⟩ := ry; exact eq_int (zj6 I q xo9)
    | str j => obtain ⟨t', rfl⟩ := ry; exact PySem.EqMixed.eq_int_str (zj6 I q (by simp))
    | _ => exact absurd (show false = true from hs) Bool.false_ne_true
  | str i =>
    obtain ⟨t, rfl⟩ := rx
    cases y with
    | non => cases ry; exact PySem.EqNone.eq_str_none (zj6 I q (by simp))
    | bl j => cases ry; exact PySem.EqMixed.eq_str_bool (zj6 I q (by simp))
    | int j => obtain ⟨t', rfl⟩ := ry; exact PySem.EqMixed.eq_str_int (zj6 I q (by simp))
    | str j => obtain ⟨t', rfl⟩ := ry; exact eq_str (zj6 I q xp0)
    | _ => exact absurd (show false = true from hs) Bool.false_ne_true
  | byt i =>
    obtain ⟨t, rfl⟩ := rx
    cases y with
    | byt j => obtain ⟨t', rfl⟩ := ry; exact PySem.W.eq_bytes (zj6 I q xp1)
    | _ => exact absurd (show false = true from hs) Bool.false_ne_true
  | _ => cases y <;> exact absurd (show false = true from hs) Bool.false_ne_true
theorem wj1 : OpR X (compareOp .NotEq) rNe := by
  intro pins s σ H x y v u Q I rx ry h
  obtain ⟨hs, q⟩ := h
  cases x with
  | non =>
    cases rx
    cases y with
    | non => cases ry; exact PySem.EqNone.ne_none_none (zj6 I q (by simp))
    | bl j => cases ry; exact PySem.EqNone.ne_none_bool (zj6 I q (by simp))
    | int j => obtain ⟨t', rfl⟩ := ry; exact PySem.EqNone.ne_none_int (zj6 I q (by simp))
    | str j => obtain ⟨t', rfl⟩ := ry; exact PySem.EqNone.ne_none_str (zj6 I q (by simp))
    | _ => exact absurd (show false = true from hs) Bool.false_ne_true
  | bl i =>
    cases rx
    cases y with
    | non => cases ry; exact PySem.EqNone.ne_bool_none (zj6 I q (by simp))
    | bl j => cases ry; exact ne_bool (zj6 I q (congrArg not xy0))
    | str j => obtain ⟨t', rfl⟩ := ry; exact PySem.EqMixed.ne_bool_str (zj6 I q (by simp))
    | _ => exact absurd (show false = true from hs) Bool.false_ne_true
  | int i =>
    obtain ⟨t, rfl⟩ := rx
    cases y with
    | non => cases ry; exact PySem.EqNone.ne_int_none (zj6 I q (by simp))
    | int j => obtain ⟨t', rfl⟩ := ry; exact ne_int (zj6 I q (congrArg not xo9))
    | str j => obtain ⟨t', rfl⟩ := ry; exact PySem.EqMixed.ne_int_str (zj6 I q (by simp))
    | _ => exact absurd (show false = true from hs) Bool.false_ne_true
  | str i =>
    obtain ⟨t, rfl⟩ := rx
    cases y with
    | non => cases ry; exact PySem.EqNone.ne_str_none (zj6 I q (by simp))
    | bl j => cases ry; exact PySem.EqMixed.ne_str_bool (zj6 I q (by simp))
    | int j => obtain ⟨t', rfl⟩ := ry; exact PySem.EqMixed.ne_str_int (zj6 I q (by simp))
    | str j => obtain ⟨t', rfl⟩ := ry; exact ne_str (zj6 I q (congrArg not xp0))
    | _ => exact absurd (show false = true from hs) Bool.false_ne_true
  | byt i =>
    obtain ⟨t, rfl⟩ := rx
    cases y with
    | byt j => obtain ⟨t', rfl⟩ := ry; exact PySem.W.ne_bytes (zj6 I q (congrArg not xp1))
    | _ => exact absurd (show false = true from hs) Bool.false_ne_true
  | _ => cases y <;> exact absurd (show false = true from hs) Bool.false_ne_true
theorem ww0 : OpR X (compareOp .Lt) (rI0 fun i j => .bl (decide (i < j))) := xs4 fun _ _ _ _ _ _ _ q => lt_int q
theorem ww1 : OpR X (compareOp .LtE) (rI0 fun i j => .bl (decide (i <= j))) := xs4 fun _ _ _ _ _ _ _ q => le_int q
theorem ww2 : OpR X (compareOp .Gt) (rI0 fun i j => .bl (decide (j < i))) := xs4 fun _ _ _ _ _ _ _ q => gt_int q
theorem ww3 : OpR X (compareOp .GtE) (rI0 fun i j => .bl (decide (j <= i))) := xs4 fun _ _ _ _ _ _ _ q => ge_int q
theorem xy1 : OpR X (compareOp .Lt) (fun x y H Q => ∃ i j, x = .str i /\ y = .str j /\ Q (.bl (decide (i.cps.toList < j.cps.toList))) H) := by
  intro pins s σ H x y v u Q I rx ry h
  obtain ⟨i, j, rfl, rfl, q⟩ := h
  obtain ⟨t, rfl⟩ := rx
  obtain ⟨t', rfl⟩ := ry
  exact lt_str (zj6 I q rfl)
theorem wq2 : OpR X (compareOp .Is) (fun x y H Q => y = .non /\ Q (.bl (decide (x = .non))) H) := by
  intro pins s σ H x y v u Q I rx ry h
  obtain ⟨rfl, q⟩ := h
  cases ry
  refine is_none_gen (zj6 I q ?_)
  cases x <;> first
    | (cases rx; rfl)
    | (obtain ⟨t, rfl⟩ := rx; rfl)
theorem zg1 (b : Expr) {op : CmpOp} (h : op ≠ .In := by decide) (h2 : op ≠ .NotIn := by decide) : behindInMarks op b = false := by
  have e1 : (op == CmpOp.In) = false := by cases op <;> first | rfl | exact absurd rfl h
  have e2 : (op == CmpOp.NotIn) = false := by cases op <;> first | rfl | exact absurd rfl h2
  cases b <;> simp [behindInMarks, e1, e2]
theorem wl1 {op : CmpOp} {r : R2} (ho : OpR X (compareOp op) r) (ha : PE X a ta) (hb : PE X b tb) (hm : behindInMarks op b = false) : PE X (.Compare a [op] [b] pos) (tOp r ta tb) := by
  intro pins s σ H Q I h
  exact wpAny_Compare1 (we6 ha hb I h fun v u s2 x y H2 I2 rx ry q => ho pins s2 σ H2 x y v u Q I2 rx ry q) hm
noncomputable def wx8 (t : TE) : TT := fun σ H Q => t σ H fun x H' => ∃ k, x = .bl k /\ Q k H'
theorem xp2 {op : CmpOp} {r : R2} (ho : OpR X (compareOp op) r) (ha : PE X a ta) (hb : PE X b tb) (hm : behindInMarks op b = false) : PT X (.Compare a [op] [b] pos) (wx8 (tOp r ta tb)) := by
  intro pins s σ H Q I h
  refine wpAny_isTrue_Compare1 (thn (ha pins s σ H _ I h) fun v s1 ⟨x, H1, I1, r1, q1⟩ => thn (hb pins s1 σ H1 _ I1 q1) fun u s2 ⟨y, H2, I2, r2, q2⟩ =>
    thn (ho pins s2 σ H2 x y v u _ I2 r1 r2 q2) fun c s3 ⟨z, H3, I3, r3, k, e, q3⟩ => ?_) hm
  subst e
  cases r3
  exact wpAny_truthy_bool ⟨H3, I3, q3⟩
noncomputable def wi4 (K : PySem.W.Frag) (x : V) (H : Hp) (k : Bool) : Prop :=
  match x with
  | .non => k = false
  | .bl b => k = b
  | .int i => k = (i != 0)
  | .str y => y.length <= sizeLine /\ k = ((y.length : Int) != 0)
  | .byt y => y.size <= sizeLine /\ k = ((y.size : Int) != 0)
  | .ref p => (∃ xs, SqL K H p xs /\ k = !xs.isEmpty) \/ (∃ xs, SqT K H p xs /\ k = !xs.isEmpty) \/ ∃ kvs, H p = some (.dK kvs) /\ k = !kvs.isEmpty
  | _ => False
theorem xs7 {κ : Type} {kvs : List (κ × V)} {vs : List (κ × Value)} (r : KV kvs vs) : (!vs.isEmpty) = !kvs.isEmpty := by
  cases r <;> rfl
theorem yw2 {xs : List V} {its : List Value} (r : zf5 xs its) : (!its.toArray.isEmpty) = !xs.isEmpty := by
  cases r <;> simp
theorem yh4 : (sizeLine : Nat) < 2 ^ 63 := by rw [sizeLine_eq]; decide
theorem wq3 : ka4 X (fun x H Q => ∃ k, wi4 X.K x H k /\ Q k H) := by
  intro pins s σ H x v Q I rx h
  obtain ⟨k, e, q⟩ := h
  have hl := yh4
  have hs : sizeLine = 16777216 := sizeLine_eq
  cases x with
  | non =>
    cases rx
    have e' : k = false := e
    subst e'
    exact truthy_none ⟨H, I, q⟩
  | bl b =>
    cases rx
    have e' : k = b := e
    subst e'
    exact wpAny_truthy_bool ⟨H, I, q⟩
  | int i =>
    obtain ⟨t, rfl⟩ := rx
    have e' : k = (i != 0) := e
    subst e'
    exact PySem.P.truthy_int ⟨H, I, q⟩
  | str y =>
    obtain ⟨t, rfl⟩ := rx
    obtain ⟨hy, e'⟩ : y.length <= sizeLine /\ k = ((y.length : Int) != 0) := e
    subst e'
    exact PySem.P.truthy_str (by omega) ⟨H, I.tok _, q⟩
  | byt y =>
    obtain ⟨t, rfl⟩ := rx
    obtain ⟨hy, e'⟩ : y.size <= sizeLine /\ k = ((y.size : Int) != 0) := e
    subst e'
    exact PySem.W.truthy_bytes (by omega) ⟨H, I.tok _, q⟩
  | ref p =>
    cases rx
    have e' : (∃ xs, SqL X.K H p xs /\ k = !xs.isEmpty) \/ (∃ xs, SqT X.K H p xs /\ k = !xs.isEmpty) \/ ∃ kvs, H p = some (.dK kvs) /\ k = !kvs.isEmpty := e
    rcases e' with ⟨xs, hx, e'⟩ | ⟨xs, hx, e'⟩ | ⟨kvs, hx, e'⟩
    . subst e'
      obtain ⟨its, r, pl, hz⟩ := I.list hx
      have hlen := r.length
      exact wpAny_truthy_list pl.isList (by simp only [List.size_toArray]; omega) ⟨H, I.tok _, by rw [yw2 r]; exact q⟩
    . subst e'
      obtain ⟨its, r, pl, hz⟩ := I.tuple hx
      have hlen := r.length
      exact truthy_tuple pl (by simp only [List.size_toArray]; omega) ⟨H, I.tok _, by rw [yw2 r]; exact q⟩
    . subst e'
      obtain ⟨hz, hS, vs, r, m⟩ : kvs.length <= sizeLine /\ (p == sysModules) = false /\ ∃ vs, KV kvs vs /\ s.heap.DictOf (zx1 X.prog X.w) p vs := I.hok p _ hx
      have hlen : kvs.length = vs.length := Paired.length r
      exact wpAny_truthy_dict hS m (by omega) ⟨H, I.tok _, by rw [xs7 r]; exact q⟩
  | _ => exact (show False from e).elim
theorem we8 (ha : PE X a ta) (he : ∀ whole, isTrue a X.env whole = (do let v <- whole; standAt a.pos; holding [v] (truthy v))) :
    PT X a (fun σ H Q => ta σ H fun x H' => ∃ k, wi4 X.K x H' k /\ Q k H') := by
  intro pins s σ H Q I h
  exact isTrue_plain (thn (ha pins s σ H _ I h) fun v s1 ⟨x, H1, I1, r1, q1⟩ => wq3 pins s1 σ H1 x v Q I1 r1 q1) (he _)
theorem xs8 : OpR X (binaryOp .Add) (fun x y H Q => ∃ i j, x = .str i /\ y = .str j /\ i.length + j.length <= sizeLine /\ Q (.str (i ++ j)) H) := by
  intro pins s σ H x y v u Q I rx ry h
  obtain ⟨i, j, rfl, rfl, hz, q⟩ := h
  obtain ⟨t, rfl⟩ := rx
  obtain ⟨t', rfl⟩ := ry
  exact add_str (fun t' tk => ⟨.str (i ++ j), H, I.tok _, ⟨_, rfl⟩, q⟩) hz
theorem yf0 {x : V} {us : List Value} (r : zf5 [x] us) : ∃ u, us = [u] /\ zi6 x u := by
  cases r with
  | cons r1 r2 => cases r2; exact ⟨_, rfl, r1⟩
theorem xf5 {x y : V} {us : List Value} (r : zf5 [x, y] us) : ∃ u w', us = [u, w'] /\ zi6 x u /\ zi6 y w' := by
  cases r with
  | cons r1 r2 =>
    cases r2 with
    | cons r3 r4 => cases r4; exact ⟨_, _, rfl, r1, r3⟩
theorem xy2 (hc : X.calm = true) : zl2 X (.builtin "max") (fun xs H Q => ∃ i j, xs = [.int i, .int j] /\ Q (.int (if j > i then j else i)) H) := by
  intro pins s σ H xs us Q I r h
  obtain ⟨i, j, rfl, q⟩ := h
  obtain ⟨u, w', rfl, ⟨t, rfl⟩, ⟨t', rfl⟩⟩ := xf5 r
  refine max_two_ints (I.ok.hd hc) fun h' tk k => ⟨_, H, I.kept k, ?_, q⟩
  by_cases hj : j > i
  . rw [if_pos hj, if_pos hj]; exact ⟨_, rfl⟩
  . rw [if_neg hj, if_neg hj]; exact ⟨_, rfl⟩
theorem xy3 (hc : X.calm = true) : zl2 X (.builtin "min") (fun xs H Q => ∃ i j, xs = [.int i, .int j] /\ Q (.int (if j < i then j else i)) H) := by
  intro pins s σ H xs us Q I r h
  obtain ⟨i, j, rfl, q⟩ := h
  obtain ⟨u, w', rfl, ⟨t, rfl⟩, ⟨t', rfl⟩⟩ := xf5 r
  refine min_two_ints (I.ok.hd hc) fun h' tk k => ⟨_, H, I.kept k, ?_, q⟩
  by_cases hj : j < i
  . rw [if_pos hj, if_pos hj]; exact ⟨_, rfl⟩
  . rw [if_neg hj, if_neg hj]; exact ⟨_, rfl⟩
theorem xc2 : zl2 X (.type "int") (fun xs H Q => (∃ i, xs = [.int i] /\ Q (.int i) H) \/ ∃ k, xs = [.bl k] /\ Q (.int (if k then 1 else 0)) H) := by
  intro pins s σ H xs us Q I r h
  rcases h with ⟨i, rfl, q⟩ | ⟨k, rfl, q⟩
  . obtain ⟨u, rfl, t, rfl⟩ := yf0 r
    exact call_int_int ⟨.int i, H, I, ⟨_, rfl⟩, q⟩
  . obtain ⟨u, rfl, r1⟩ := yf0 r
    cases r1
    exact call_int_bool ⟨.int (if k then 1 else 0), H, I.tok _, ⟨_, rfl⟩, q⟩
theorem xg8 : zl2 X (.type "str") (fun xs H Q => ∃ i, xs = [.int i] /\ i.natAbs.log2 < 1920 /\ Q (.str (toString i)) H) := by
  intro pins s σ H xs us Q I r h
  obtain ⟨i, rfl, hz, q⟩ := h
  obtain ⟨u, rfl, t, rfl⟩ := yf0 r
  exact PySem.P.str_of_int hz ⟨.str _, H, I.tok _, ⟨_, rfl⟩, q⟩
end
end L2
namespace L2
open PySem PySem.Spec PyProof.Rows
structure ObjM (h : Heap) (x dx C : Addr) (mA : Str -> Option Value) : Prop where
  obj : h.get? x = some (PySem.W.instObj C dx)
  ns : h.Ns1 dx mA
  ne : dx ≠ x
theorem xy4 {h : Heap} {dx : Addr} {mA : Str -> Option Value} (n : h.Ns1 dx mA) : ∃ od, h.get? dx = some od /\ ∀ name, PySem.W.lookIn name od = some (mA name) := by
  obtain ⟨o, es, ep, ho, hd, hk, _, hm⟩ := n
  refine ⟨o, ho, fun name => ?_⟩
  have e := hm name
  unfold nsFind findBy at e
  rw [<- Array.find?_toList] at e
  unfold PySem.W.lookIn
  rw [hd]
  dsimp only
  split
  . rename_i y q
    rw [q] at e
    exact congrArg some e
  . rename_i q
    rw [q] at e
    have a : es.toList.any (·.refKey) = false := by
      rw [List.any_eq_false]
      intro y hy
      obtain ⟨z, t, hkey⟩ := hk y (Array.mem_toList_iff.mp hy)
      simp [DictEntry.refKey, hkey]
    have a' : ¬ es.toList.any (·.refKey) = true := by rw [a]; exact Bool.false_ne_true
    rw [if_neg a']
    exact congrArg some e
theorem ObjM.look {h : Heap} {x dx C : Addr} {mA : Str -> Option Value} (I : ObjM h x dx C mA) : ∃ od, PySem.W.InstAt h x (PySem.W.instObj C dx) C (some od) /\ ∀ name, PySem.W.lookIn name od = some (mA name) :=
  let ⟨od, ho, hl⟩ := xy4 I.ns
  ⟨od, ⟨I.obj, rfl, rfl, ho⟩, hl⟩
section
variable {prog : Program} {w : World} {A : Around} {E : Value -> Shared -> Prop} {s : Shared} {K : PySem.W.Frag} {x dx C f : Addr} {mA : Str -> Option Value} {name : Str} {v : Value}
theorem xp3 {expr : Bool} {Q : Value -> Shared -> Prop} (X : K.In s.heap) (I : ObjM s.heap x dx C mA) (hg : PySem.W.plainGet K C name = true) (hh : PySem.W.hasDictIn K C = true)
    (ha : PySem.W.findIn K (.ref C) name = some none) (hv : mA name = some v) (hv' : PySem.W.handedIn v = true) (h : Q v { s with toks := s.toks + 1 }) :
    wpAny (model prog w) A (getAttr (.ref x) name expr) Q E s := by
  obtain ⟨od, J, hl⟩ := I.look
  exact PySem.W.get_value X J (PySem.W.plainGet_of hg).1 (PySem.W.findObj_own hh ha rfl (by rw [hl, hv])) hv' h
theorem we9 {pl : Sem Bool} {Q : Value × List Value -> Shared -> Prop} (X : K.In s.heap) (I : ObjM s.heap x dx C mA) (hg : PySem.W.plainGet K C name = true)
    (hf : PySem.W.findIn K (.ref C) name = some (some (.ref f))) (ht : PySem.W.isFn K (.ref f) = true) (hv : mA name = none) (h : Q (.ref f, [.ref x]) s) :
    wpAny (model prog w) A (getMethod (.ref x) name pl) Q E s := by
  obtain ⟨od, J, hl⟩ := I.look
  exact PySem.W.method_fn X J (PySem.W.plainGet_of hg).1 (PySem.W.plainGet_of hg).2 hf (beq_iff_eq.mp ht) (by show (PySem.W.lookIn name od).map (·.isSome) = some false; rw [hl, hv]; rfl) h
theorem wl2 {ns : List Str} {Q : Unit -> Shared -> Prop} (X : K.In s.heap) (I : ObjM s.heap x dx C mA)
    (hs : PySem.W.findIn K (.ref C) "__setattr__" = some (some (.builtin "object.__setattr__"))) (hp : PySem.W.plainOver K C = true) (ht : PySem.W.takerIn K C name = some none) (hh : PySem.W.hasDictIn K C = true)
    (hw : PySem.Within mA ns) (hsz : ns.length <= sizeLine)
    (h : ∀ h', ObjM h' x dx C (fun y => if y = name then some v else mA y) -> Heap.SameBut dx s.heap h' -> Q () { s with heap := h', toks := s.toks + 2 }) :
    wpAny (model prog w) A (setAttr (.ref x) name v) Q E s := by
  obtain ⟨od, J, hl⟩ := I.look
  refine PySem.W.set_plain X J hs (PySem.W.osa_open (s := { s with toks := s.toks + 1 }) (r := none) X J hp ht fun b => ?_)
  obtain ⟨cd, hc, hd'⟩ := PySem.W.any_some hh
  have hx : s.heap.get? x = some ⟨.ref C, some dx, .plain, #[]⟩ := I.obj
  refine wpAny_bind (wpAny_pure (wpAny_bind (wpAny_bind (wpAny_loadPart hx (wpAny_bind (PySem.W.Looks.here (s := { s with toks := s.toks + 1 }) (PySem.W.looks_clsIn X hc) ?_))))))
  rw [hd']
  refine wpAny_pure (a := some dx) (wpAny_bind (wpAny_pure (wpAny_bind ?_)))
  refine wpAny_nsSet1 (s := { s with toks := s.toks + 1 }) I.ns fun h' hn2 hs2 => ?_
  obtain ⟨oD, esD, epD, hoD, hdD, hcD⟩ := hn2.count (PySem.Within.cons name v hw)
  refine wpAny_bind (wpAny_lookBehind hoD (by rw [hdD]; exact pastItsLine_dict (Nat.le_trans hcD (by rw [List.length_cons]; omega))) ?_)
  exact wpAny_pure (h _ ⟨(hs2.2 _ (Ne.symm I.ne)).trans I.obj, hn2, I.ne⟩ hs2)
theorem wf0 {R : Result -> Shared -> Prop} {vs : List Value} {kw : List (Str × Value)} (X : K.In s.heap) (hm : PySem.W.makesIn K C = true)
    (hi : PySem.W.findIn K (.ref C) "__init__" = some (some (.ref f))) (hf : PySem.W.typeIn K (.ref f) = some (.type "function"))
    (h : codeAny (model prog w) (A.under (.builtin "type.__call__" ⟨.ref C :: vs, kw⟩)) (.call (.ref f) ⟨.ref (s.heap.objs.size + 1) :: vs, kw⟩) (PySem.W.InitBack (s.heap.objs.size + 1) R)
      { s with heap := (s.heap.push PySem.W.emptyDict).push (PySem.W.instObj C s.heap.objs.size) }) :
    codeAny (model prog w) A (.call (.ref C) ⟨vs, kw⟩) R s := by
  obtain ⟨hh, g, d, t, os⟩ := s
  exact PySem.W.make_core (PySem.W.makes_of X hm) (PySem.W.looks_findIn X hi) (fun self => PySem.W.bind_fn X self hf) (.inl rfl) h
end
noncomputable def zq2 (f : Str) (v : V) : List (Str × V) -> List (Str × V)
  | [] => [(f, v)]
  | (g, x) :: r => if g = f then (g, v) :: r else (g, x) :: zq2 f v r
theorem yt5 (f g : Str) (v : V) : ∀ fs : List (Str × V), (zq2 f v fs).lookup g = if g = f then some v else fs.lookup g
  | [] => by
    show List.lookup g [(f, v)] = _
    by_cases h : g = f
    . have hb : (g == f) = true := beq_iff_eq.mpr h
      simp only [List.lookup, hb, if_pos h]
    . have hb : (g == f) = false := beq_eq_false_iff_ne.mpr h
      simp only [List.lookup, hb, if_neg h]
  | (k, x) :: r => by
    have ih := yt5 f g v r
    rw [show zq2 f v ((k, x) :: r) = (if k = f then (k, v) :: r else (k, x) :: zq2 f v r) from rfl]
    by_cases hk : k = f
    . rw [if_pos hk]
      by_cases h : g = k
      . have hb : (g == k) = true := beq_iff_eq.mpr h
        simp only [List.lookup, hb, if_pos (h.trans hk)]
      . have hb : (g == k) = false := beq_eq_false_iff_ne.mpr h
        simp only [List.lookup, hb, if_neg (fun e : g = f => h (e.trans hk.symm))]
    . rw [if_neg hk]
      by_cases h : g = k
      . have hb : (g == k) = true := beq_iff_eq.mpr h
        simp only [List.lookup, hb, if_neg (fun e : g = f => hk (h.symm.trans e))]
      . have hb : (g == k) = false := beq_eq_false_iff_ne.mpr h
        simp only [List.lookup, hb]
        exact ih
theorem yp3 (f : Str) (v : V) : ∀ fs : List (Str × V), f ∈ (zq2 f v fs).map (·.1) /\ ∀ g, g ∈ fs.map (·.1) -> g ∈ (zq2 f v fs).map (·.1)
  | [] => ⟨by simp [zq2], fun g h => by simp at h⟩
  | (k, x) :: r => by
    obtain ⟨i1, i2⟩ := yp3 f v r
    rw [show zq2 f v ((k, x) :: r) = (if k = f then (k, v) :: r else (k, x) :: zq2 f v r) from rfl]
    by_cases hk : k = f
    . rw [if_pos hk]
      subst hk
      exact ⟨by simp, fun g h => by simpa using h⟩
    . rw [if_neg hk]
      refine ⟨?_, fun g h => ?_⟩
      . rw [List.map_cons]
        exact List.mem_cons_of_mem _ i1
      . rw [List.map_cons] at h |-
        rcases List.mem_cons.mp h with e | e
        . exact List.mem_cons.mpr (.inl e)
        . exact List.mem_cons_of_mem _ (i2 g e)
theorem yt6 (f : Str) (v : V) : ∀ fs : List (Str × V), (zq2 f v fs).length <= fs.length + 1
  | [] => by simp [zq2]
  | (k, x) :: r => by
    have ih := yt6 f v r
    rw [show zq2 f v ((k, x) :: r) = (if k = f then (k, v) :: r else (k, x) :: zq2 f v r) from rfl]
    by_cases hk : k = f
    . rw [if_pos hk, List.length_cons, List.length_cons]; omega
    . rw [if_neg hk, List.length_cons, List.length_cons]; omega
theorem ya5.some_of {v : V} {o : Option Value} (r : ya5 (some v) o) : ∃ u, o = some u /\ zi6 v u := by
  cases o with
  | none => exact (show False from r).elim
  | some u => exact ⟨u, rfl, r⟩
theorem ya5.none_of {o : Option Value} (r : ya5 none o) : o = none := by
  cases o with
  | none => rfl
  | some u => exact (show False from r).elim
theorem xc3 {v : V} {u : Value} (r : zi6 v u) : PySem.W.handedIn u = true := by
  cases v with
  | non => cases (show u = Value.none from r); rfl
  | bl b => cases (show u = Value.bool b from r); rfl
  | int i => obtain ⟨t, e⟩ := (show ∃ t, u = Value.int i t from r); cases e; rfl
  | str x => obtain ⟨t, e⟩ := (show ∃ t, u = Value.str x t from r); cases e; rfl
  | byt b => obtain ⟨t, e⟩ := (show ∃ t, u = Value.bytes b t from r); cases e; rfl
  | flt b => obtain ⟨t, e⟩ := (show ∃ t, u = Value.float b t from r); cases e; rfl
  | ref a => cases (show u = Value.ref a from r); rfl
  | ty n => cases (show u = Value.type n from r); rfl
section
variable {P : Program} {w : World} {H H' : Hp} {h h' : Heap} {a C dx : Addr} {fs fs' : List (Str × V)}
theorem yr5 (hok : HOk P w H h) (e : H a = some (.ins C dx fs)) : ∃ mA, ObjM h a dx C mA /\ (∀ f, ya5 (fs.lookup f) (mA f)) /\ PySem.Within mA (fs.map (·.1)) /\ fs.length <= 1000 /\ H dx = some (.own a) := by
  obtain ⟨d, z, ne, ob, mA, n, r, q⟩ := (show zp0 P w H h a (.ins C dx fs) from hok a _ e)
  exact ⟨mA, ⟨ob, n, ne⟩, r, q, z, d⟩
end
structure Cls (K : PySem.W.Frag) (C : Addr) : Prop where
  pg : PySem.W.plainGet K C Str.empty = true
  hd : PySem.W.hasDictIn K C = true
  po : PySem.W.plainOver K C = true
  sa : PySem.W.findIn K (.ref C) "__setattr__" = some (some (.builtin "object.__setattr__"))
theorem Cls.get {K : PySem.W.Frag} {C : Addr} (c : Cls K C) (f : Str) : PySem.W.plainGet K C f = true := c.pg
noncomputable def zi1 (K : PySem.W.Frag) (C : Addr) (f : Str) : Prop := PySem.W.findIn K (.ref C) f = some none
theorem zi1.taker {K : PySem.W.Frag} {C : Addr} {f : Str} (n : zi1 K C f) : PySem.W.takerIn K C f = some none := by
  unfold PySem.W.takerIn
  rw [show PySem.W.findIn K (.ref C) f = some none from n]
  rfl
structure Con (K : PySem.W.Frag) (C : Addr) (f : Str) (v : V) (u : Value) : Prop where
  at_ : PySem.W.findIn K (.ref C) f = some (some u)
  rel : zi6 v u
  get : PySem.W.specialIn K u "__get__" = some none
  cp : PySem.W.copiedNames.contains f = false
structure Meth (K : PySem.W.Frag) (C : Addr) (m : Str) (f : Addr) : Prop where
  at_ : PySem.W.findIn K (.ref C) m = some (some (.ref f))
  fn : PySem.W.isFn K (.ref f) = true
  kp : PySem.W.keepIn K (.ref f) = true
section
variable {X : Cx} {pins : List (Addr × Obj)} {σ : St} {H : Hp} {s : Shared} {a C dx : Addr} {fs : List (Str × V)} {f : Str} {v : V} {A : Around} {E : Value -> Shared -> Prop}
theorem xs9 {b : Bool} {Q : Value -> Shared -> Prop} (I : Inv X pins σ H s) (e : H a = some (.ins C dx fs)) (c : Cls X.K C) (n : zi1 X.K C f) (l : fs.lookup f = some v)
    (h : ∀ u s', Inv X pins σ H s' -> zi6 v u -> Q u s') : wpAny (model X.prog X.w) A (getAttr (.ref a) f b) Q E s := by
  obtain ⟨mA, O, r, _, _, _⟩ := yr5 I.hok e
  obtain ⟨u, hu, ru⟩ := ya5.some_of (v := v) (o := mA f) (by rw [<- l]; exact r f)
  exact xp3 I.kIn O (c.get f) c.hd n hu (xc3 ru) (h u _ (I.tok _) ru)
theorem yw3 {m : Str} {g : Addr} {pl : Sem Bool} {Q : Value × List Value -> Shared -> Prop} (I : Inv X pins σ H s) (e : H a = some (.ins C dx fs)) (c : Cls X.K C) (k : Meth X.K C m g) (l : fs.lookup m = none)
    (h : Q (.ref g, [.ref a]) s) : wpAny (model X.prog X.w) A (getMethod (.ref a) m pl) Q E s := by
  obtain ⟨mA, O, r, _, _, _⟩ := yr5 I.hok e
  have hn : mA m = none := ya5.none_of (by rw [<- l]; exact r m)
  exact we9 I.kIn O (c.get m) k.at_ k.fn hn h
theorem xt0 {y : V} {u : Value} {Q : Unit -> Shared -> Prop} (I : Inv X pins σ H s) (e : H a = some (.ins C dx fs)) (c : Cls X.K C) (n : zi1 X.K C f) (hl : fs.length < 1000) (ry : zi6 y u)
    (h : ∀ s', Inv X pins σ (upd H a (.ins C dx (zq2 f y fs))) s' -> Q () s') : wpAny (model X.prog X.w) A (setAttr (.ref a) f u) Q E s := by
  obtain ⟨mA, O, r, wi, _, ho⟩ := yr5 I.hok e
  have hz : (fs.map (·.1)).length <= sizeLine := by rw [List.length_map, sizeLine_eq]; omega
  refine wl2 I.kIn O c.sa c.po n.taker c.hd wi hz fun h' O' sb => h _ ?_
  have hd : ∃ o, h'.get? dx = some o := let ⟨o, _, _, e', _⟩ := O'.ns; ⟨o, e'⟩
  refine I.write (x := a) (e := dx) (by rw [e]; exact True.intro) (.inr ho) (fun b q hb z => (sb.2 b hb).trans z) hd ?_
  refine ⟨by rw [zi0 O.ne]; exact ho, ?_, O.ne, O'.obj, _, O'.ns, fun g => ?_, fun g hg => ?_⟩
  . have := yt6 f y fs; omega
  . show ya5 ((zq2 f y fs).lookup g) (if g = f then some u else mA g)
    rw [yt5]
    by_cases q : g = f
    . rw [if_pos q, if_pos q]; exact ry
    . rw [if_neg q, if_neg q]; exact r g
  . by_cases q : g = f
    . rw [q]; exact (yp3 f y fs).1
    . refine (yp3 f y fs).2 g (wi g fun z => hg ?_)
      show (if g = f then some u else mA g) = none
      rw [if_neg q]; exact z
theorem Inv.made (I : Inv X pins σ H s) : Inv X pins σ (upd (upd H s.heap.objs.size (.own (s.heap.objs.size + 1))) (s.heap.objs.size + 1) (.ins C s.heap.objs.size []))
    { s with heap := (s.heap.push PySem.W.emptyDict).push (PySem.W.instObj C s.heap.objs.size) } := by
  have e1 : (s.heap.push PySem.W.emptyDict).get? s.heap.objs.size = some PySem.W.emptyDict := Heap.get?_push_size s.heap rfl
  have e2 : ((s.heap.push PySem.W.emptyDict).push (PySem.W.instObj C s.heap.objs.size)).get? (s.heap.objs.size + 1) = some (PySem.W.instObj C s.heap.objs.size) := by
    have := Heap.get?_push_size (s.heap.push PySem.W.emptyDict) (o := PySem.W.instObj C s.heap.objs.size) rfl
    rwa [Heap.size_push] at this
  have e3 : (s.heap.push PySem.W.emptyDict).Ns s.heap.objs.size (fun _ => none) := ⟨PySem.W.emptyDict, #[], _, e1, rfl, (fun e he => absurd he (by simp)), fun _ => rfl⟩
  have I1 := I.laid (a := s.heap.objs.size) (o := .own (s.heap.objs.size + 1)) (h' := s.heap.push PySem.W.emptyDict) (t' := s.toks) (fun b u q => Heap.get?_push_of_some _ q) (Nat.le_refl _) ⟨_, e1⟩
  refine I1.laid (a := s.heap.objs.size + 1) (o := .ins C s.heap.objs.size []) (t' := s.toks) (fun b u q => Heap.get?_push_of_some _ q) (Nat.le_of_eq (Heap.size_push _ _)) ?_
  have ne : s.heap.objs.size ≠ s.heap.objs.size + 1 := Nat.ne_of_lt (Nat.lt_succ_self _)
  refine ⟨by rw [zi0 ne, zm0], Nat.zero_le _, ne, e2, fun _ => none, (Heap.Ns1.of_empty e3).at fun o q => Heap.get?_push_of_some _ q, fun _ => True.intro, fun y hy => absurd rfl hy⟩
theorem xp4 {prog : Program} {w : World} {env : Env} {e : Expr} {f : Str} {pos : Pos} {s : Shared} {Q : Value -> Shared -> Prop} (hb : attributeBase e f env (eval e env) = eval e env)
    (h : wpAny (model prog w) A (eval e env) (fun o s₁ => wpAny (model prog w) A (getAttr o f true) Q E s₁) E s) : wpAny (model prog w) A (eval (.Attribute e f pos) env) Q E s :=
  Attribute_any_ h (by rw [arm_eval_Attribute, hb])
end
noncomputable def ka6 (K : PySem.W.Frag) (ta : TE) (f : Str) : TE := fun σ H Q => ta σ H fun x H1 => ∃ a C dx fs v, x = .ref a /\ H1 a = some (.ins C dx fs) /\ Cls K C /\ zi1 K C f /\ fs.lookup f = some v /\ Q v H1
noncomputable def ka7 (K : PySem.W.Frag) (ta tv : TE) (f : Str) : TS := fun D σ H => tv σ H fun y H1 => ta σ H1 fun x H2 => ∃ a C dx fs, x = .ref a /\ H2 a = some (.ins C dx fs) /\ Cls K C /\ zi1 K C f /\ fs.length < 1000 /\
  D.nx σ (upd H2 a (.ins C dx (zq2 f y fs)))
section
variable {X : Cx} {o e value : Expr} {f : Str} {pos pos' tpos : Pos} {ta tv : TE}
theorem wq4 (he : PE X e ta) (hb : attributeBase e f X.env (eval e X.env) = eval e X.env) : PE X (.Attribute e f pos) (ka6 X.K ta f) := by
  intro pins s σ H Q I h
  refine xp4 hb (thn (he pins s σ H _ I h) fun u s1 ⟨x, H1, I1, rx, a, C, dx, fs, v, ex, ea, c, n, l, q⟩ => ?_)
  subst ex
  obtain rfl : u = Value.ref a := rx
  exact xs9 I1 ea c n l fun u' s2 I2 ru => ⟨v, H1, I2, ru, q⟩
theorem wq5 (ha : PE X o ta) (hv : PE X value tv) (hs : swapsWith value (some (.Attribute o f pos')) pos.line X.env = pure false) : PS X (.Assign [.Attribute o f pos'] value pos) (ka7 X.K ta tv f) := by
  intro pins s σ H D I h
  refine plainObj_wpAny_Assign_Attribute (thn (hv pins s σ H _ I h) fun u s1 ⟨y, H1, I1, ry, q⟩ => thn (ha pins s1 σ H1 _ I1 q) fun ov s2 ⟨x, H2, I2, rx, a, C, dx, fs, ex, ea, c, n, l, q2⟩ => ?_) hs
  subst ex
  obtain rfl : ov = Value.ref a := rx
  exact xt0 I2 ea c n l ry fun s3 I3 => ⟨σ, _, I3, q2⟩
end
section
variable {X : Cx} {pins : List (Addr × Obj)} {σ : St} {H : Hp} {s : Shared} {A : Around} {E : Value -> Shared -> Prop} {Q : Value -> Shared -> Prop} {c : Value} {b : Bool}
inductive TyOf (K : PySem.W.Frag) (H : Hp) : V -> Value -> Prop where
  | non : TyOf K H .non (.type "NoneType")
  | bl (x : Bool) : TyOf K H (.bl x) (.type "bool")
  | int (i : Int) : TyOf K H (.int i) (.type "int")
  | str (x : Str) : TyOf K H (.str x) (.type "str")
  | flt (x : UInt64) : TyOf K H (.flt x) (.type "float")
  | lst {a : Addr} {xs : List V} (e : H a = some (.lst xs)) : TyOf K H (.ref a) (.type "list")
  | frz {a : Addr} {o : Obj} {xs : List V} (e : H a = some (.frz o (.lst xs))) : TyOf K H (.ref a) (.type "list")
  | tup {a : Addr} {xs : List V} (e : H a = some (.tup xs)) : TyOf K H (.ref a) (.type "tuple")
  | dK {a : Addr} {kvs : List (Key × V)} (e : H a = some (.dK kvs)) : TyOf K H (.ref a) (.type "dict")
  | dT {a : Addr} {kvs : List (List Key × V)} (e : H a = some (.dT kvs)) : TyOf K H (.ref a) (.type "dict")
  | ins {a C dx : Addr} {fs : List (Str × V)} (e : H a = some (.ins C dx fs)) (cl : Cls K C) (ha : PySem.W.findIn K (.ref C) "__class__" = some (some (.builtin "object.__class__")))
      (hn : PySem.W.specialIn K (.builtin "object.__class__") "__get__" = some (some (.builtin "getset_descriptor.__get__"))) (htk : PySem.W.takesIn K (.builtin "object.__class__") = some true)
      (hm : PySem.W.mroIn K C (.type "object") = some true) : TyOf K H (.ref a) (.ref C)
theorem xy5 {x : V} {u t : Value} (I : Inv X pins σ H s) (rx : zi6 x u) (ty : TyOf X.K H x t) (e : PySem.W.kitOne X.K t c = some b) (h : ∀ tk, Q (.bool b) { s with toks := tk }) :
    wpAny (model X.prog X.w) A (call (.builtin "isinstance") [u, c]) Q E s := by
  cases ty with
  | non => cases (show u = Value.none from rx); exact PySem.W.kia_one PySem.W.kitx_none I.kIn True.intro e (fun z => nomatch z) h
  | bl y => cases (show u = Value.bool y from rx); exact PySem.W.kia_one PySem.W.kitx_bool I.kIn True.intro e (fun z => nomatch z) h
  | int i => obtain ⟨t, q⟩ := (show ∃ t, u = Value.int i t from rx); cases q; exact PySem.W.kia_one PySem.W.kitx_int I.kIn True.intro e (fun z => nomatch z) h
  | str y => obtain ⟨t, q⟩ := (show ∃ t, u = Value.str y t from rx); cases q; exact PySem.W.kia_one PySem.W.kitx_str I.kIn True.intro e (fun z => nomatch z) h
  | flt y => obtain ⟨t, q⟩ := (show ∃ t, u = Value.float y t from rx); cases q; exact PySem.W.kia_one PySem.W.kitx_float I.kIn True.intro e (fun z => nomatch z) h
  | @lst a xs ea =>
    cases (show u = Value.ref a from rx)
    obtain ⟨_, _, n, _, h1⟩ := (show zp0 X.prog X.w H s.heap a (.lst xs) from I.hok a _ ea)
    exact PySem.W.kia_one PySem.W.kitx_list I.kIn ⟨_, h1, rfl⟩ e (fun z => nomatch z) h
  | @frz a ob xs ea =>
    cases (show u = Value.ref a from rx)
    obtain ⟨_, _, _, n, _, h1⟩ := (show zp0 X.prog X.w H s.heap a (.frz ob (.lst xs)) from I.hok a _ ea)
    exact PySem.W.kia_one PySem.W.kitx_list I.kIn ⟨_, h1, rfl⟩ e (fun z => nomatch z) h
  | @tup a xs ea =>
    cases (show u = Value.ref a from rx)
    obtain ⟨_, _, _, p⟩ := (show zp0 X.prog X.w H s.heap a (.tup xs) from I.hok a _ ea)
    obtain ⟨o, h1, h2, _⟩ := p
    exact PySem.W.kia_one PySem.W.kitx_tuple I.kIn ⟨o, h1, h2⟩ e (fun z => nomatch z) h
  | @dK a kvs ea =>
    cases (show u = Value.ref a from rx)
    obtain ⟨_, _, vs, _, p⟩ := (show zp0 X.prog X.w H s.heap a (.dK kvs) from I.hok a _ ea)
    obtain ⟨o, es, ep, h1, h2, _⟩ := p
    exact PySem.W.kia_one PySem.W.kitx_dict I.kIn ⟨o, h1, h2.1⟩ e (fun z => nomatch z) h
  | @dT a kvs ea =>
    cases (show u = Value.ref a from rx)
    obtain ⟨_, _, xs, _, o, es, ep, h1, h2, _⟩ := (show zp0 X.prog X.w H s.heap a (.dT kvs) from I.hok a _ ea)
    exact PySem.W.kia_one PySem.W.kitx_dict I.kIn ⟨o, h1, h2.1⟩ e (fun z => nomatch z) h
  | @ins a C dx fs ea cl ha hn htk hm =>
    cases (show u = Value.ref a from rx)
    obtain ⟨mA, O, _⟩ := yr5 I.hok ea
    obtain ⟨od, J, _⟩ := O.look
    exact PySem.W.kia_one (PySem.W.kitx_own (cl.get _) cl.hd ha hn htk hm) I.kIn J e (fun z => nomatch z) h
end
end L2
namespace L2
open PySem PySem.Spec PyProof.Rows
structure Room (k : Nat) (A : Around) : Prop where
  hd : A.handled = none
  dp : A.depth + 3 * k + 5 < recursionLimit
  un : A.units + 16 * k + 200 < cLine
theorem Room.mono {j k : Nat} {A : Around} (r : Room k A) (h : j <= k) : Room j A := ⟨r.hd, by have := r.dp; omega, by have := r.un; omega⟩
theorem Room.deeper {k : Nat} {A : Around} (r : Room (k + 1) A) (env : Env) : Room k (A.deeper env) :=
  ⟨r.hd, by have := r.dp; show A.depth + 1 + 3 * k + 5 < _; omega, by have := r.un; show A.units + 3 + 16 * k + 200 < _; omega⟩
theorem xt1 {A : Around} {C : Addr} {us : List Value} {kw : List (Str × Value)} : (A.under (.builtin "type.__call__" ⟨.ref C :: us, kw⟩)).depth = A.depth + 1 := by
  first | rfl | simp [Around.under, Code.weight, Code.isCreation, Code.isGuard, Code.isCaller, Code.frames, Code.isFrame, guardIds]
theorem xt2 {A : Around} {C : Addr} {us : List Value} {kw : List (Str × Value)} : (A.under (.builtin "type.__call__" ⟨.ref C :: us, kw⟩)).units = A.units + 1 := by
  first | rfl | simp [Around.under, Code.cUnits, Code.frames, Code.isFrame]
theorem Room.make {k : Nat} {A : Around} (r : Room (k + 1) A) (C : Addr) (us : List Value) (kw : List (Str × Value)) : Room k (A.under (.builtin "type.__call__" ⟨.ref C :: us, kw⟩)) :=
  ⟨r.hd, by have := r.dp; rw [xt1]; omega, by have := r.un; rw [xt2]; omega⟩
theorem Room.depth {k : Nat} {A : Around} (r : Room k A) : A.depth < recursionLimit := by have := r.dp; omega
theorem Room.units {k : Nat} {A : Around} (r : Room k A) : A.units + 64 < cLine := by have := r.un; omega
theorem Room.units0 {k : Nat} {A : Around} (r : Room k A) : A.units < cLine := by have := r.un; omega
noncomputable def wi5 : TA := fun _ H Q => Q [] H
noncomputable def wx9 (ta : TE) (tr : TA) : TA := fun σ H Q => ta σ H fun x H1 => tr σ H1 fun xs H2 => Q (x :: xs) H2
section
variable {X : Cx} {e : Expr} {es : List Expr} {te : TE} {t : TA} {pos : Pos}
theorem yc1 : PA X [] wi5 := fun _ _ _ _ H Q I h => Calls.spliced_nil ⟨[], H, I, .nil, h⟩
theorem zp6 (ha : PE X e te) (hr : PA X es t) (hs : starEach (e :: es) X.env = (false, eval e X.env) :: starEach es X.env := by rfl) : PA X (e :: es) (wx9 te t) := by
  intro pos pins s σ H Q I h
  rw [hs]
  show wpAny _ _ (spliced ((false, eval e X.env) :: backTo pos (starEach es X.env))) _ _ s
  refine Calls.spliced_cons (thn (ha pins s σ H _ I h) fun u s1 ⟨x, H1, I1, r1, q1⟩ => ?_)
  exact thn (hr pos pins s1 σ H1 _ I1 q1) fun us s2 ⟨xs, H2, I2, r2, q2⟩ => ⟨x :: xs, H2, I2, .cons r1 r2, q2⟩
noncomputable def ka8 (t : TA) : TE := fun σ H Q => t σ H fun xs H1 => xs.length <= sizeLine /\ ∀ p, H1 p = none -> Q (.ref p) (upd H1 p (.tup xs))
noncomputable def ka9 (t : TA) : TE := fun σ H Q => t σ H fun xs H1 => xs.length <= sizeLine /\ ∀ p, H1 p = none -> Q (.ref p) (upd H1 p (.lst xs))
theorem wq6 {x1} (h : PA X es t) : PE X (.Tuple es x1 pos) (ka8 t) := by
  intro pins s σ H Q I hq
  refine wpAny_Tuple_spliced (thn (h pos pins s σ H _ I hq) fun us s1 ⟨xs, H1, I1, r, z, q⟩ => ⟨by rw [<- r.length]; exact z, ?_⟩)
  have hf : H1 s1.heap.objs.size = none := I1.hok.fresh (Nat.le_refl _)
  refine ⟨.ref s1.heap.objs.size, upd H1 s1.heap.objs.size (.tup xs), I1.laid (t' := s1.toks) (fun b u e => Heap.get?_push_of_some _ e) (Nat.le_refl _) ?_, rfl, q _ hf⟩
  exact ⟨z, us, r, ⟨_, Heap.get?_push_size _ rfl, rfl, _, rfl⟩⟩
theorem wq7 (h : PA X es t) : PE X (.List es pos) (ka9 t) := by
  intro pins s σ H Q I hq
  refine wpAny_List_spliced (thn (h pos pins s σ H _ I hq) fun us s1 ⟨xs, H1, I1, r, z, q⟩ => ⟨by rw [<- r.length]; exact z, ?_⟩)
  have hf : H1 s1.heap.objs.size = none := I1.hok.fresh (Nat.le_refl _)
  refine ⟨.ref s1.heap.objs.size, upd H1 s1.heap.objs.size (.lst xs), I1.laid (t' := s1.toks) (fun b u e => Heap.get?_push_of_some _ e) (Nat.le_refl _) ?_, rfl, q _ hf⟩
  exact ⟨z, us, 0, r, Heap.get?_push_size _ rfl⟩
end
noncomputable abbrev Sp := List V -> Hp -> VK -> XK -> Prop
noncomputable abbrev CXT := List Env -> Hp -> Shared -> XK -> Value -> Shared -> Prop
structure Env0 (P : Program) (w : World) (K : PySem.W.Frag) (mg : Str -> Option Value) (base : Heap) (A : Around) (outer : List Env) (s : Shared) (H : Hp) : Prop where
  frames : A.frames = some outer
  mod : Mod K mg base
  bs : ∀ b o, base.get? b = some o -> s.heap.get? b = some o /\ H b = none
  bsz : base.objs.size <= s.heap.objs.size
  funs : s.heap.FunFrames base outer
  frf : ∀ b ∈ frs outer, H b = none
  hok : HOk P w H s.heap
  bare : AllBare s.gens
noncomputable def CE (outer : List Env) (P : Program) (w : World) (H : Hp) (s : Shared) (Q : VK) (u : Value) (s' : Shared) : Prop :=
  ∃ v H', s'.os = s.os /\ AllBare s'.gens /\ Un (frs outer) [] H H' s.heap s'.heap /\ HOk P w H' s'.heap /\ zi6 v u /\ Q v H'
noncomputable def CR (CX : CXT) (outer : List Env) (P : Program) (w : World) (H : Hp) (s : Shared) (Q : VK) (E : XK) (r : Result) (s' : Shared) : Prop :=
  match r with
  | .ok (.ret u) => CE outer P w H s Q u s'
  | .ok _ => False
  | .error e => CX outer H s E e s'
structure FnOk (P : Program) (w : World) (K : PySem.W.Frag) (mg : Str -> Option Value) (base : Heap) (CX : CXT) (k : Nat) (f : Addr) (fd : FuncData) (ps : List Str) (sp : Sp) : Prop where
  len : ∀ vs H Q E, sp vs H Q E -> vs.length = ps.length
  run : ∀ (A : Around) (outer : List Env) (s : Shared) (H : Hp) (args : Args) (us : List Value) (vs : List V) (Q : VK) (E : XK), Room k A -> Env0 P w K mg base A outer s H -> BindsTo s fd args (ps.zip us) -> zf5 vs us -> sp vs H Q E ->
    codeAny (model P w) A (.call (.ref f) args) (CR CX outer P w H s Q E) s
theorem FnOk.mono {P : Program} {w : World} {K : PySem.W.Frag} {mg : Str -> Option Value} {base : Heap} {CX : CXT} {j k : Nat} {f : Addr} {fd : FuncData} {ps : List Str} {sp : Sp} (F : FnOk P w K mg base CX j f fd ps sp) (h : j <= k) :
    FnOk P w K mg base CX k f fd ps sp := ⟨F.len, fun A outer s H args us vs Q E hr => F.run A outer s H args us vs Q E (hr.mono h)⟩
theorem FnOk.imp {P : Program} {w : World} {K : PySem.W.Frag} {mg : Str -> Option Value} {base : Heap} {CX : CXT} {k : Nat} {f : Addr} {fd : FuncData} {ps : List Str} {sp sp' : Sp} (F : FnOk P w K mg base CX k f fd ps sp)
    (h : ∀ vs H Q E, sp' vs H Q E -> sp vs H Q E) : FnOk P w K mg base CX k f fd ps sp' :=
  ⟨fun vs H Q E q => F.len vs H Q E (h _ _ _ _ q), fun A outer s H args us vs Q E hr he hb hv hs => F.run A outer s H args us vs Q E hr he hb hv (h _ _ _ _ hs)⟩
theorem Env0.make {P : Program} {w : World} {K : PySem.W.Frag} {mg : Str -> Option Value} {base : Heap} {A : Around} {outer : List Env} {s : Shared} {H : Hp} (e : Env0 P w K mg base A outer s H) (C : Addr) (us : List Value) (kw : List (Str × Value)) :
    Env0 P w K mg base (A.under (.builtin "type.__call__" ⟨.ref C :: us, kw⟩)) outer s H := ⟨by first | exact e.frames | (simpa [Around.under, Code.envs, Code.isFrame, pushEnvs] using e.frames), e.mod, e.bs, e.bsz, e.funs, e.frf, e.hok, e.bare⟩
section
variable {X : Cx} {pins : List (Addr × Obj)} {σ : St} {H : Hp} {s s' : Shared}
theorem Inv.env0 (I : Inv X pins σ H s) : Env0 X.prog X.w X.K X.mg X.base X.A X.stack s H :=
  ⟨I.ok.frames, I.ok.mod, I.bs, Nat.le_trans I.ok.bsz I.sz, I.stack, I.stkFree, I.hok, I.bare⟩
theorem Inv.after {Q : VK} {u : Value} (I : Inv X pins σ H s) (h : CE X.stack X.prog X.w H s Q u s') : EP X pins σ Q u s' := by
  obtain ⟨v, H', os, bare, un, hok, r, q⟩ := h
  obtain ⟨hh, g, d, t, os'⟩ := s'
  obtain rfl : os' = s.os := os
  exact ⟨v, H', I.call (h' := hh) (g' := g) (d' := d) (t' := t) (ch := []) un hok bare (fun b z => absurd z (by simp)), r, q⟩
end
noncomputable def wj7 (sp : Sp) (dvs : List V) (E : XK) (t : TA) : TE := fun σ H Q => t σ H fun vs H1 => sp (vs ++ dvs) H1 Q E
noncomputable def wj8 (C : Addr) (m : Str) (sp : Sp) (dvs : List V) (E : XK) (ta : TE) (t : TA) : TE := fun σ H Q => ta σ H fun x H1 => ∃ a dx fs, x = .ref a /\ H1 a = some (.ins C dx fs) /\ fs.lookup m = none /\
  t σ H1 fun vs H2 => sp (x :: (vs ++ dvs)) H2 Q E
noncomputable def wj9 (C : Addr) (sp : Sp) (dvs : List V) (E : XK) (t : TA) : TE := fun σ H Q => t σ H fun vs H1 => ∀ x dx, H1 x = none -> H1 dx = none -> dx ≠ x ->
  sp (.ref x :: (vs ++ dvs)) (upd (upd H1 dx (.own x)) x (.ins C dx [])) (fun v H2 => v = .non /\ Q (.ref x) H2) E
noncomputable def ya0 (K : PySem.W.Frag) (fd : FuncData) (ps : List Str) (ds : List Value) : Prop :=
  ∀ (s : Shared) (us : List Value), K.In s.heap -> (us ++ ds).length = ps.length -> BindsTo s fd ⟨us, []⟩ (ps.zip (us ++ ds))
theorem ya0.all {K : PySem.W.Frag} {fd : FuncData} {ps : List Str} (h : ∀ us : List Value, us.length = ps.length -> bindArgs fd ⟨us, []⟩ = pure (ps.zip us)) : ya0 K fd ps [] := fun s us _ hl => by
  rw [List.append_nil] at hl |-
  exact .of_eq (h us hl)
noncomputable def yf8 (CX : CXT) (X : Cx) (E : XK) : Prop := ∀ (pins : List (Addr × Obj)) (σ : St) (H : Hp) (s : Shared) (e : Value) (s' : Shared), Inv X pins σ H s -> CX X.stack H s E e s' -> X.xe e s'
section
variable {X : Cx} {CX : CXT} {k : Nat} {f C : Addr} {fd : FuncData} {ps : List Str} {sp : Sp} {dvs : List V} {ds : List Value} {E : XK} {x m : Str} {p pos apos : Pos} {e o : Expr} {es : List Expr} {ta : TE} {t : TA}
theorem xg9 {pins : List (Addr × Obj)} {σ : St} {H : Hp} {s : Shared} {Q : VK} {us : List Value} {vs : List V} (F : FnOk X.prog X.w X.K X.mg X.base CX k f fd ps sp) (hr : Room k X.A) (hb : ya0 X.K fd ps ds) (hd : zf5 dvs ds) (hx : yf8 CX X E)
    (I : Inv X pins σ H s) (r : zf5 vs us) (h : sp (vs ++ dvs) H Q E) : wpAny (model X.prog X.w) X.A (call (.ref f) us) (EP X pins σ Q) X.xe s := by
  have r2 : zf5 (vs ++ dvs) (us ++ ds) := r.append hd
  have hl : (us ++ ds).length = ps.length := by rw [<- r2.length]; exact F.len _ _ _ _ h
  refine wpAny_call (codeAny_mono (F.run X.A X.stack s H ⟨us, []⟩ (us ++ ds) (vs ++ dvs) Q E hr I.env0 (hb s us I.kIn hl) r2 h) fun r s' hq => ?_)
  cases r with
  | error e => exact hx pins σ H s e s' I hq
  | ok fl =>
    cases fl with
    | ret u => exact I.after hq
    | next => exact False.elim hq
    | brk => exact False.elim hq
    | cont => exact False.elim hq
theorem wl3 (F : FnOk X.prog X.w X.K X.mg X.base CX k f fd ps sp) (hr : Room k X.A) (hg : Gl X x) (hm : X.mg x = some (.ref f)) (hk : PySem.W.keepIn X.K (.ref f) = true) (hb : ya0 X.K fd ps ds) (hd : zf5 dvs ds) (hx : yf8 CX X E)
    (ha : PA X (e :: es) t) (hdb : (x == ("__debug__" : Str)) = false := by decide) (he : starEach (e :: es) X.env = (false, eval e X.env) :: starEach es X.env := by rfl) (hpl : (backTo pos (starEach es X.env)).any (·.1) = false := by rfl) :
    PE X (.Call (.Name x p) (e :: es) [] pos) (wj7 sp dvs E t) := by
  intro pins s σ H Q I h
  refine wpAny_Call_Name_kw (yr3 I hg hm ?_ hdb)
  refine PySem.W.callWith_K (h₀ := X.base) I.ok.mod.kin hk (thn (ha pos pins s σ H _ I h) fun us s1 ⟨vs, H1, I1, r, q⟩ => ⟨I1.kIn, ?_⟩) he hpl
  exact xg9 F hr hb hd hx I1 r q
theorem xp5 {pl : Sem Bool} (he : PE X o ta) (c : Cls X.K C) (hm : Meth X.K C m f) (F : FnOk X.prog X.w X.K X.mg X.base CX k f fd ps sp) (hr : Room k X.A) (hb : ya0 X.K fd ps ds) (hd : zf5 dvs ds) (hx : yf8 CX X E) (ha : PA X (e :: es) t)
    (hst : starEach (e :: es) X.env = (false, eval e X.env) :: starEach es X.env := by rfl) (hpl : (backTo pos (starEach es X.env)).any (·.1) = false := by rfl)
    (ht : eval (.Call (.Attribute o m apos) (e :: es) [] pos) X.env = (do
      let ov <- eval o X.env
      standAt apos.atName
      let (f, first) <- holding [ov] (getMethod ov m pl)
      callWith pos f first (backTo pos (starEach (e :: es) X.env)) (backToKw pos (keywordEach [] X.env))) := by rfl) :
    PE X (.Call (.Attribute o m apos) (e :: es) [] pos) (wj8 C m sp dvs E ta t) := by
  intro pins s σ H Q I h
  refine PySem.W.methodCall_KW (pl := pl) (thn (he pins s σ H _ I h) fun u s1 ⟨x, H1, I1, rx, a, dx, fs, ex, ea, l, q⟩ => ?_) ht
  subst ex
  obtain rfl : u = Value.ref a := rx
  refine yw3 I1 ea c hm l ?_
  refine PySem.W.callWith_K (first := [.ref a]) (h₀ := X.base) I.ok.mod.kin hm.kp (thn (ha pos pins s1 σ H1 _ I1 q) fun us s2 ⟨vs, H2, I2, r, q2⟩ => ⟨I2.kIn, ?_⟩) hst hpl
  exact xg9 (us := .ref a :: us) (vs := .ref a :: vs) F hr hb hd hx I2 (.cons rfl r) q2
theorem xh0 {pl : Sem Bool} (he : PE X o ta) (c : Cls X.K C) (hm : Meth X.K C m f) (F : FnOk X.prog X.w X.K X.mg X.base CX k f fd ps sp) (hr : Room k X.A) (hb : ya0 X.K fd ps ds) (hd : zf5 dvs ds) (hx : yf8 CX X E)
    (ht : eval (.Call (.Attribute o m apos) [] [] pos) X.env = (do
      let ov <- eval o X.env
      standAt apos.atName
      let (f, first) <- holding [ov] (getMethod ov m pl)
      callWith pos f first (backTo pos (starEach [] X.env)) (backToKw pos (keywordEach [] X.env))) := by rfl) :
    PE X (.Call (.Attribute o m apos) [] [] pos) (wj8 C m sp dvs E ta wi5) := by
  intro pins s σ H Q I h
  refine PySem.W.methodCall_KW (pl := pl) (thn (he pins s σ H _ I h) fun u s1 ⟨x, H1, I1, rx, a, dx, fs, ex, ea, l, q⟩ => ?_) ht
  subst ex
  obtain rfl : u = Value.ref a := rx
  refine yw3 I1 ea c hm l ?_
  exact PySem.W.callWith_K0 (first := [.ref a]) I1.kIn hm.kp (xg9 (us := [.ref a]) (vs := [.ref a]) F hr hb hd hx I1 (.cons rfl .nil) q)
structure Mk (K : PySem.W.Frag) (C f : Addr) : Prop where
  makes : PySem.W.makesIn K C = true
  init : PySem.W.findIn K (.ref C) "__init__" = some (some (.ref f))
  fn : PySem.W.isFn K (.ref f) = true
  kp : PySem.W.keepIn K (.ref C) = true
theorem xh1 {pins : List (Addr × Obj)} {σ : St} {H : Hp} {s : Shared} {Q : VK} {us : List Value} {vs : List V} (M : Mk X.K C f) (F : FnOk X.prog X.w X.K X.mg X.base CX k f fd ps sp) (hr : Room (k + 1) X.A) (hb : ya0 X.K fd ps ds) (hd : zf5 dvs ds)
    (hx : yf8 CX X E) (I : Inv X pins σ H s) (r : zf5 vs us)
    (h : ∀ x dx, H x = none -> H dx = none -> dx ≠ x -> sp (.ref x :: (vs ++ dvs)) (upd (upd H dx (.own x)) x (.ins C dx [])) (fun v H2 => v = .non /\ Q (.ref x) H2) E) :
    wpAny (model X.prog X.w) X.A (call (.ref C) us) (EP X pins σ Q) X.xe s := by
  have hq := h (s.heap.objs.size + 1) s.heap.objs.size (I.hok.fresh (Nat.le_succ _)) (I.hok.fresh (Nat.le_refl _)) (Nat.ne_of_lt (Nat.lt_succ_self _))
  have I2 := Inv.made (C := C) I
  have r2 : zf5 (V.ref (s.heap.objs.size + 1) :: (vs ++ dvs)) (Value.ref (s.heap.objs.size + 1) :: (us ++ ds)) := .cons rfl (r.append hd)
  have hl : (Value.ref (s.heap.objs.size + 1) :: us ++ ds).length = ps.length := by
    have e := r2.length
    rw [F.len _ _ _ _ hq] at e
    exact e.symm
  refine wpAny_call (wf0 (f := f) I.kIn M.makes M.init (beq_iff_eq.mp M.fn) (codeAny_mono (F.run _ X.stack _ _ ⟨Value.ref (s.heap.objs.size + 1) :: us, []⟩ (Value.ref (s.heap.objs.size + 1) :: (us ++ ds)) _ _ E (hr.make C us [])
    (I2.env0.make C us []) (hb _ (Value.ref (s.heap.objs.size + 1) :: us) I2.kIn hl) r2 hq) fun r s' hq' => ?_))
  cases r with
  | error e => exact hx pins σ _ _ e s' I2 hq'
  | ok fl =>
    cases fl with
    | ret u =>
      obtain ⟨v, H', I3, rv, ev, q3⟩ := I2.after hq'
      subst ev
      exact ⟨rv, ⟨V.ref (s.heap.objs.size + 1), H', I3, rfl, q3⟩⟩
    | next => exact False.elim hq'
    | brk => exact False.elim hq'
    | cont => exact False.elim hq'
theorem wl4 (M : Mk X.K C f) (F : FnOk X.prog X.w X.K X.mg X.base CX k f fd ps sp) (hr : Room (k + 1) X.A) (hg : Gl X x) (hm : X.mg x = some (.ref C)) (hb : ya0 X.K fd ps ds) (hd : zf5 dvs ds) (hx : yf8 CX X E)
    (ha : PA X (e :: es) t) (hdb : (x == ("__debug__" : Str)) = false := by decide) (he : starEach (e :: es) X.env = (false, eval e X.env) :: starEach es X.env := by rfl) (hpl : (backTo pos (starEach es X.env)).any (·.1) = false := by rfl) :
    PE X (.Call (.Name x p) (e :: es) [] pos) (wj9 C sp dvs E t) := by
  intro pins s σ H Q I h
  refine wpAny_Call_Name_kw (yr3 I hg hm ?_ hdb)
  refine PySem.W.callWith_K (h₀ := X.base) I.ok.mod.kin M.kp (thn (ha pos pins s σ H _ I h) fun us s1 ⟨vs, H1, I1, r, q⟩ => ⟨I1.kIn, ?_⟩) he hpl
  exact xh1 M F hr hb hd hx I1 r q
theorem wf1 (M : Mk X.K C f) (F : FnOk X.prog X.w X.K X.mg X.base CX k f fd ps sp) (hr : Room (k + 1) X.A) (hg : Gl X x) (hm : X.mg x = some (.ref C)) (hb : ya0 X.K fd ps ds) (hd : zf5 dvs ds) (hx : yf8 CX X E)
    (hdb : (x == ("__debug__" : Str)) = false := by decide) : PE X (.Call (.Name x p) [] [] pos) (wj9 C sp dvs E wi5) := by
  intro pins s σ H Q I h
  refine wpAny_Call_Name_kw (yr3 I hg hm ?_ hdb)
  exact PySem.W.callWith_K0 I.kIn M.kp (xh1 (us := []) M F hr hb hd hx I .nil h)
end
section
variable {X : Cx} {CX : CXT} {k : Nat} {f C : Addr} {fd : FuncData} {ps ks : List Str} {sp : Sp} {E : XK} {x m : Str} {p pos apos kpos : Pos} {e o : Expr} {es : List Expr} {kws : List Keyword} {te ta : TE} {t tk : TA} {nm : Option Str}
structure KBinds (K : PySem.W.Frag) (fd : FuncData) (ps ks : List Str) (g : List Value -> List Value -> List Value) (gV : List V -> List V -> List V) : Prop where
  to : ∀ (s : Shared) (us ws : List Value), K.In s.heap -> (g us ws).length = ps.length -> BindsTo s fd ⟨us, ks.zip ws⟩ (ps.zip (g us ws))
  rel : ∀ {vs : List V} {us : List Value} {zs : List V} {ws : List Value}, zf5 vs us -> zf5 zs ws -> zf5 (gV vs zs) (g us ws)
variable {g : List Value -> List Value -> List Value} {gV : List V -> List V -> List V}
end
structure FnScope (N P : List Str) (sc : Scope) : Prop where
  kind : sc.kind = .function
  co : sc.isCoroutine = false
  gen : sc.isGenerator = false
  nd : N.Nodup
  pre : N.take P.length = P
  par : ∀ x ∈ P, sc.names.lookup x = some .local \/ sc.names.lookup x = some .cell
  nofree : ∀ y ∈ sc.names, y.2 ≠ .free
theorem xc4 {kindOf : Str -> Option NameKind} {x : Str} : ∀ {binds : List (Str × Value)} {m : Str -> Option Value}, (∀ v, (x, v) ∉ binds) -> bindL kindOf binds m x = m x
  | [], _, _ => rfl
  | (n, v) :: r, m, h => by
    unfold bindL
    rw [xc4 fun w hw => h w (List.mem_cons_of_mem _ hw)]
    split
    . have : x ≠ n := by rintro rfl; exact h v List.mem_cons_self
      simp [this]
    . rfl
theorem xc5 {kindOf : Str -> Option NameKind} {x : Str} : ∀ {binds : List (Str × Value)} {m : Str -> Option Value}, (∀ v, (x, v) ∉ binds) -> bindC kindOf binds m x = m x
  | [], _, _ => rfl
  | (n, v) :: r, m, h => by
    unfold bindC
    rw [xc5 fun w hw => h w (List.mem_cons_of_mem _ hw)]
    split
    . rfl
    . have : x ≠ n := by rintro rfl; exact h v List.mem_cons_self
      simp [this]
theorem xc6 {kindOf : Str -> Option NameKind} {x : Str} {v : Value} : ∀ {P : List Str} {vs : List Value} {i : Nat} {m : Str -> Option Value}, P.Nodup -> P[i]? = some x -> vs[i]? = some v -> kindOf x = some .local ->
    bindL kindOf (P.zip vs) m x = some v
  | [], _, _, _, _, h, _, _ => by simp at h
  | _ :: _, [], _, _, _, _, h, _ => by simp at h
  | p :: P, w :: vs, 0, m, nd, h1, h2, hk => by
    simp at h1 h2; subst h1; subst h2
    show bindL kindOf ((p, w) :: P.zip vs) m p = _
    unfold bindL
    rw [xc4 fun v hv => (List.nodup_cons.mp nd).1 (List.of_mem_zip hv).1, if_pos hk]
    simp
  | p :: P, w :: vs, i + 1, m, nd, h1, h2, hk => by
    show bindL kindOf ((p, w) :: P.zip vs) m x = _
    unfold bindL
    exact xc6 (i := i) (List.nodup_cons.mp nd).2 (by simpa using h1) (by simpa using h2) hk
theorem xc7 {kindOf : Str -> Option NameKind} {x : Str} {v : Value} : ∀ {P : List Str} {vs : List Value} {i : Nat} {m : Str -> Option Value}, P.Nodup -> P[i]? = some x -> vs[i]? = some v -> kindOf x ≠ some .local ->
    bindC kindOf (P.zip vs) m x = some v
  | [], _, _, _, _, h, _, _ => by simp at h
  | _ :: _, [], _, _, _, _, h, _ => by simp at h
  | p :: P, w :: vs, 0, m, nd, h1, h2, hk => by
    simp at h1 h2; subst h1; subst h2
    show bindC kindOf ((p, w) :: P.zip vs) m p = _
    unfold bindC
    rw [xc5 fun v hv => (List.nodup_cons.mp nd).1 (List.of_mem_zip hv).1, if_neg hk]
    simp
  | p :: P, w :: vs, i + 1, m, nd, h1, h2, hk => by
    show bindC kindOf ((p, w) :: P.zip vs) m x = _
    unfold bindC
    exact xc7 (i := i) (List.nodup_cons.mp nd).2 (by simpa using h1) (by simpa using h2) hk
noncomputable def start (N : List Str) (vs : List V) : St := vs.map some ++ List.replicate (N.length - vs.length) none
noncomputable def yk2 (CX : CXT) (P : Program) (w : World) (K : PySem.W.Frag) (mg : Str -> Option Value) (base : Heap) (N : List Str) (qual : Str) (scope : Scope) (f : Addr) (cd : Value) (A : Around) (outer : List Env) (s : Shared) (H : Hp) (E : XK) : Cx where
  prog := P
  w := w
  K := K
  mg := mg
  base := base
  A := A.deeper (envOfC qual scope s.heap.objs.size f cd)
  N := N
  s₀ := s
  H₀ := H
  env := envOfC qual scope s.heap.objs.size f cd
  outer := outer
  stack := envOfC qual scope s.heap.objs.size f cd :: outer
  ex := []
  calm := true
  fn := fun _ => true
  pn := []
  xe := fun e s' => wpAny (model P w) (A.deeper (envOfC qual scope s.heap.objs.size f cd)) (leaving (envOfC qual scope s.heap.objs.size f cd) e) (fun _ s'' => CX outer H s E e s'') (fun e' s'' => CX outer H s E e' s'') s'
theorem xh2 {sc : Scope} {n : Nat} {x : Str} (h : sc.names.lookup x = some .cell) : ∃ c, (cellsFrom n sc.names []).lookup x = some c := by
  have q := PySem.W.cellsFrom_some sc.names n [] (.inl h)
  exact Option.isSome_iff_exists.mp q
theorem xy6 {CX : CXT} {P : Program} {w : World} {K : PySem.W.Frag} {mg : Str -> Option Value} {base : Heap} {N ps : List Str} {qual : Str} {scope : Scope} {f : Addr} {cd : Value} {A : Around} {outer : List Env} {s s1 : Shared} {H : Hp} {E : XK} {us : List Value} {vs : List V}
    (S : FnScope N ps scope) (hd : A.handled = none) (e0 : Env0 P w K mg base A outer s H) (hl : vs.length = ps.length) (r : zf5 vs us)
    (x : InCallC s s.heap.objs.size (bindL (envOfC qual scope s.heap.objs.size f cd).kindOf (ps.zip us) fun _ => none) (cellsFrom (s.heap.objs.size + 1) scope.names []) (bindC (envOfC qual scope s.heap.objs.size f cd).kindOf (ps.zip us) fun _ => none) s1) :
    Inv (yk2 CX P w K mg base N qual scope f cd A outer s H E) [] (start N vs) H s1 := by
  have hpl : ps.length <= N.length := by have := congrArg List.length S.pre; rw [List.length_take] at this; omega
  obtain ⟨h1, tk, rfl, hk⟩ := x.done
  have noA : ∀ b : Addr, b ∉ (yk2 CX P w K mg base N qual scope f cd A outer s H E).ex := fun b z => absurd (show b ∈ ([] : List Addr) from z) (by simp)
  refine ⟨⟨e0.mod, S.kind, rfl, rfl, Nat.le_refl _, fun y z c h1 h2 => ?_, fun y hy => ?_, fun y c _ h => ?_, fun _ => hd, Around.frames_deeper e0.frames, .inr ⟨rfl, rfl⟩, fun b z => absurd z (noA b), e0.bs, e0.bsz, fun b _ _ => noA b, fun b z => absurd z (noA b), e0.funs, e0.frf⟩,
    rfl, e0.bare, Un.kept hk, ⟨_, x.toInCall.ns, fun i y v h1 h2 h3 => ?_⟩, fun y c h => ⟨_, x.cell y c h⟩, e0.hok.fresh (Nat.le_refl _), fun y c h => ?_, fun p hp => absurd (show p ∈ ([] : List (Addr × Obj)) from hp) (by simp), e0.hok.kept hk, ?_⟩
  . exact name_of_addr x.apart (PySem.mem_of_lookup h1) (PySem.mem_of_lookup h2)
  . have hy : scope.names.lookup y = some .cell \/ scope.names.lookup y = some .free := hy
    rcases hy with hy | hy
    . exact xh2 hy
    . exact absurd rfl (S.nofree _ (PySem.mem_of_lookup hy))
  . exact Nat.le_of_lt (x.above y c (PySem.mem_of_lookup h))
  . have hi : i < vs.length := by
      unfold start at h2
      by_cases hi : i < vs.length
      . exact hi
      . rw [List.getElem?_append_right (by simpa using hi)] at h2
        rw [List.getElem?_replicate] at h2
        split at h2 <;> cases h2
    have ha : vs[i]? = some v := by
      unfold start at h2
      rw [List.getElem?_append_left (by simpa using hi), List.getElem?_map] at h2
      cases e : vs[i]? with
      | none => rw [e] at h2; cases h2
      | some a => rw [e] at h2; cases h2; rfl
    obtain ⟨u, hu, rv⟩ := r.get ha
    have hp : ps[i]? = some y := by
      rw [<- S.pre, List.getElem?_take_of_lt (by omega)]; exact h1
    have ndP : ps.Nodup := by rw [<- S.pre]; exact S.nd.sublist (List.take_sublist _ _)
    refine ⟨u, rv, ?_⟩
    rcases S.par y (List.mem_of_getElem? hp) with k | k
    . exact .inl ⟨k, xc6 ndP hp hu k⟩
    . obtain ⟨c, e⟩ := xh2 (n := s.heap.objs.size + 1) k
      refine .inr ⟨.inl k, c, e, ?_⟩
      have q := x.cell y c e
      rw [xc7 ndP hp hu (by show scope.names.lookup y ≠ _; rw [k]; decide)] at q
      exact q
  . exact e0.hok.fresh (Nat.le_of_lt (x.above y c (PySem.mem_of_lookup h)))
  . unfold start
    show _ = N.length
    rw [List.length_append, List.length_map, List.length_replicate]
    omega
theorem ww4 {CX : CXT} {P : Program} {w : World} {K : PySem.W.Frag} {mg : Str -> Option Value} {base : Heap} {k : Nat} {f : Addr} {name qual : Str} {params : Arguments} {body : List Stmt} {scope : Scope} {dV kV doc pm cdv ct oc : Value} {an od : Option Addr}
    {osl : Array (Option Value)} {N ps : List Str} {sp : Sp} (lk : K.lookup f = some ⟨oc, od, .func (PySem.W.fnOf name qual params body scope dV kV doc pm an cdv ct), osl⟩) (hcd : PySem.W.codeIn K cdv qual = true) (S : FnScope N ps scope)
    (len : ∀ vs H Q E, sp vs H Q E -> vs.length = ps.length)
    (hbody : ∀ (A : Around) (outer : List Env) (s : Shared) (H : Hp) (vs : List V) (Q : VK) (E : XK), Room k (A.deeper (envOfC qual scope s.heap.objs.size f cdv)) -> sp vs H Q E ->
      ∃ t, PSs (yk2 CX P w K mg base N qual scope f cdv A outer s H E) body t /\ t { nx := fun _ H' => Q .non H', rt := Q } (start N vs) H) :
    FnOk P w K mg base CX (k + 1) f (PySem.W.fnOf name qual params body scope dV kV doc pm an cdv ct) ps sp := by
  refine ⟨len, fun A outer s H args us vs Q E hr e0 hb r hsp => ?_⟩
  have hl := len _ _ _ _ hsp
  have KX : K.In s.heap := e0.mod.kin.keeps fun b o e => (e0.bs b o e).1
  have lim : s.heap.NoLimit := e0.mod.nolimit.keeps fun b o e => (e0.bs b o e).1
  have hkind : ∀ y ∈ ps.zip us, scope.names.lookup y.1 = some .local \/ (scope.names.lookup y.1 = some .cell /\ ((cellsFrom (s.heap.objs.size + 1) scope.names []).lookup y.1).isSome = true) := fun ⟨n, v⟩ hy => by
    rcases S.par n (List.of_mem_zip hy).1 with q | q
    . exact .inl q
    . exact .inr ⟨q, PySem.W.cellsFrom_some _ _ _ (.inl q)⟩
  refine codeAny_call_function hr.depth (KX _ _ lk) rfl S.co S.gen rfl (PySem.W.codeRec_of KX hcd) (hb _ _ _ _ ?_)
  refine wpAny_newFunctionEnv_cells S.kind hkind fun env he s1 x => ?_
  subst he
  refine ⟨lim.keeps x.toInCall.keep, codeAny_func ?_⟩
  obtain ⟨t, ht, hq⟩ := hbody A outer s H vs Q E (hr.deeper _) hsp
  have I : Inv (yk2 CX P w K mg base N qual scope f cdv A outer s H E) [] (start N vs) H s1 := xy6 S hr.hd e0 hl r x
  refine wpAny_mono (ht [] s1 (start N vs) H _ I hq) (fun fl s' hs => ?_) fun e s' hs => hs
  have fin : ∀ {σ' : St} {H' : Hp} {v : V} {u : Value}, Inv (yk2 CX P w K mg base N qual scope f cdv A outer s H E) [] σ' H' s' -> zi6 v u -> Q v H' -> CE outer P w H s Q u s' :=
    fun {σ' H' v u} J rv q => ⟨v, H', J.os, J.bare, J.base, J.hok, rv, q⟩
  cases fl with
  | ret u =>
    obtain ⟨v, σ', H', J, rv, q⟩ := hs
    exact fin J rv q
  | next =>
    obtain ⟨σ', H', J, q⟩ := hs
    exact fin (v := V.non) (u := Value.none) J rfl q
  | brk =>
    obtain ⟨_, _, _, q⟩ := hs
    exact False.elim q
  | cont =>
    obtain ⟨_, _, _, q⟩ := hs
    exact False.elim q
end L2
namespace L2
open PySem PySem.Spec PyProof.Rows
section
variable {X : Cx} {x : Str} {p pos : Pos} {e : Expr} {es : List Expr} {t : TA} {id T : String} {r : List V -> Hp -> VK -> Prop}
noncomputable def tCB (r : List V -> Hp -> VK -> Prop) (t : TA) : TE := fun σ H Q => t σ H fun vs H1 => r vs H1 Q
theorem yh5 (hc : zl2 X (.builtin id) r) (hg : Gl X x) (hm : X.mg x = none) (hv : bootBuiltins x = some (.builtin id)) (ha : PA X (e :: es) t) (hn : x ≠ "__name__" := by decide) (hdb : (x == ("__debug__" : Str)) = false := by decide)
    (he : starEach (e :: es) X.env = (false, eval e X.env) :: starEach es X.env := by rfl) (hpl : (backTo pos (starEach es X.env)).any (·.1) = false := by rfl) : PE X (.Call (.Name x p) (e :: es) [] pos) (tCB r t) := by
  intro pins s σ H Q I h
  refine wpAny_Call_Name_kw (yp1 I hg hm hv ?_ hn hdb)
  exact PyProof.Rows.callWith_builtin1 (thn (ha pos pins s σ H _ I h) fun us s1 ⟨vs, H1, I1, r1, q1⟩ => hc pins s1 σ H1 vs us Q I1 r1 q1) he hpl
theorem xy7 (hc : zl2 X (.type T) r) (hg : Gl X x) (hm : X.mg x = none) (hv : bootBuiltins x = some (.type T)) (ha : PA X (e :: es) t) (hn : x ≠ "__name__" := by decide) (hdb : (x == ("__debug__" : Str)) = false := by decide)
    (he : starEach (e :: es) X.env = (false, eval e X.env) :: starEach es X.env := by rfl) (hpl : (backTo pos (starEach es X.env)).any (·.1) = false := by rfl) : PE X (.Call (.Name x p) (e :: es) [] pos) (tCB r t) := by
  intro pins s σ H Q I h
  refine wpAny_Call_Name_kw (yp1 I hg hm hv ?_ hn hdb)
  exact PyProof.Rows.callWith_type1 (thn (ha pos pins s σ H _ I h) fun us s1 ⟨vs, H1, I1, r1, q1⟩ => hc pins s1 σ H1 vs us Q I1 r1 q1) he hpl
end
end L2
namespace HT
open PySem PyProof.Rows
section
open PySem.SeqAt
open PySem.AutoSeq1 (wpAny_loadPart')
open PySem.MeetsSeq PySem.MeetsSeq2 PySem.MeetsSeq3
end
end HT
namespace L2
open PySem PySem.Spec PyProof.Rows
noncomputable abbrev TO := St -> Hp -> (Option Int -> Hp -> Prop) -> Prop
noncomputable def PO (X : Cx) (e : Option Expr) (t : TO) : Prop :=
  ∀ (pins : List (Addr × Obj)) (s : Shared) (σ : St) (H : Hp) (Q : Option Int -> Hp -> Prop), Inv X pins σ H s -> t σ H Q ->
    wpAny (model X.prog X.w) X.A (evalPart e X.env) (fun u s' => ∃ o H', Inv X pins σ H' s' /\ IsPart u o /\ Q o H') X.xe s
noncomputable def wo4 : TO := fun _ H Q => Q none H
noncomputable def wy0 (t : TE) : TO := fun σ H Q => t σ H fun x H1 => ∃ i, x = .int i /\ Q (some i) H1
section
variable {X : Cx} {e : Expr} {te : TE} {lo hi : Option Expr} {tl th : TO} {pos p2 : Pos}
theorem wl5 : PO X none wo4 := by
  intro pins s σ H Q I h
  rw [evalPart_none]
  exact wpAny_pure ⟨none, H, I, .none, h⟩
theorem wl6 (h : PE X e te) : PO X (some e) (wy0 te) := by
  intro pins s σ H Q I hw
  rw [evalPart_some]
  refine thn (h pins s σ H _ I hw) fun u s1 ⟨x, H1, I1, r1, q1⟩ => ?_
  obtain ⟨i, rfl, q⟩ := q1
  obtain ⟨t, rfl⟩ := r1
  exact ⟨some i, H1, I1, .int i t, q⟩
noncomputable def SlR (X : Cx) (r : V -> Option Int -> Option Int -> Hp -> VK -> Prop) : Prop :=
  ∀ (pins : List (Addr × Obj)) (s : Shared) (σ : St) (H : Hp) (x : V) (v vl vu : Value) (lo hi : Option Int) (sl : Addr) (Q : VK), Inv X pins σ H s -> zi6 x v -> s.heap.IsSliceOf sl vl vu .none -> IsPart vl lo -> IsPart vu hi -> r x lo hi H Q ->
    ∃ T id, typeLookup (.type T) "__getitem__" = pure (some (.builtin id)) /\ s.TypeIs v T /\ wpAny (model X.prog X.w) X.A (getItem v (.ref sl)) (EP X pins σ Q) X.xe s
noncomputable def tSl (r : V -> Option Int -> Option Int -> Hp -> VK -> Prop) (te : TE) (tl th : TO) : TE := fun σ H Q => te σ H fun x H1 => tl σ H1 fun l H2 => th σ H2 fun u H3 => r x l u H3 Q
theorem wf2 {r : V -> Option Int -> Option Int -> Hp -> VK -> Prop} (hr : SlR X r) (he : PE X e te) (hl : PO X lo tl) (hu : PO X hi th) : PE X (.Subscript e (.Slice lo hi none p2) pos) (tSl r te tl th) := by
  intro pins s σ H Q I h
  refine Subscript_ (thn (he pins s σ H _ I h) fun v s1 ⟨x, H1, I1, r1, q1⟩ => ?_)
  refine wpAny_Slice (thn (hl pins s1 σ H1 _ I1 q1) fun vl s2 ⟨l, H2, I2, pl, q2⟩ => thn (hu pins s2 σ H2 _ I2 q2) fun vu s3 ⟨u, H3, I3, pu, q3⟩ => ?_)
  rw [evalPart_none]
  refine wpAny_pure ?_
  have I4 : Inv X pins σ H3 { s3 with heap := s3.heap.push { cls := .type "slice", data := .fields #[vl, vu, .none] } } := I3.kept (t' := s3.toks) fun b ob q => Heap.get?_push_of_some _ q
  obtain ⟨T, id, hT, ht, hg⟩ := hr pins { s3 with heap := s3.heap.push { cls := .type "slice", data := .fields #[vl, vu, .none] } } σ H3 x v vl vu l u s3.heap.objs.size Q I4 r1 (Heap.IsSliceOf.new ..) pl pu q3
  show wpAny (model X.prog X.w) X.A (subscriptTail e (.Slice lo hi none p2) v (.ref s3.heap.objs.size)) (EP X pins σ Q) X.xe { s3 with heap := s3.heap.push { cls := .type "slice", data := .fields #[vl, vu, .none] } }
  exact tail_any (ops := [.ref s3.heap.objs.size, v]) ht hT hg (by with_unfolding_all rfl)
end
end L2
namespace L2
open PySem PySem.Spec PyProof.Rows
noncomputable def ixN (n : Nat) (i : Int) : Option Nat := if 0 <= i then (if i < n then some i.toNat else none) else if -(n : Int) <= i then some (i + n).toNat else none
noncomputable def atI {α : Type} (xs : List α) (i : Int) : Option α := (ixN xs.length i).bind fun j => xs[j]?
theorem yr6 {n : Nat} {i : Int} {j : Nat} (h : ixN n i = some j) : seqIndex? i n = some j /\ j < n /\ -(n : Int) <= i /\ i < n := by
  unfold ixN at h
  by_cases h0 : 0 <= i
  . rw [if_pos h0] at h
    by_cases h1 : i < n
    . rw [if_pos h1] at h
      have e : i.toNat = j := Option.some.inj h
      exact ⟨by rw [seqIndex_of h0 h1, e], by omega, by omega, h1⟩
    . rw [if_neg h1] at h; cases h
  . rw [if_neg h0] at h
    by_cases h1 : -(n : Int) <= i
    . rw [if_pos h1] at h
      have e : (i + n).toNat = j := Option.some.inj h
      exact ⟨by rw [seqIndex_neg (by omega) h1, e], by omega, h1, by omega⟩
    . rw [if_neg h1] at h; cases h
theorem xa6 {α : Type} {xs : List α} {i : Int} {v : α} (h : atI xs i = some v) : ∃ j, seqIndex? i xs.length = some j /\ xs[j]? = some v /\ j < xs.length /\ -(xs.length : Int) <= i /\ i < xs.length := by
  unfold atI at h
  cases e : ixN xs.length i with
  | none => rw [e] at h; cases h
  | some j =>
    rw [e] at h
    obtain ⟨h1, h2, h3, h4⟩ := yr6 e
    exact ⟨j, h1, h, h2, h3, h4⟩
theorem xa7 {α : Type} {xs : List α} {j : Nat} {v : α} (h : xs[j]? = some v) : atI xs (j : Int) = some v := by
  have hj : j < xs.length := (List.getElem?_eq_some_iff.mp h).1
  have e : ixN xs.length (j : Int) = some j := by
    unfold ixN
    rw [if_pos (by omega), if_pos (by omega)]; simp
  unfold atI; rw [e]; exact h
theorem ze8 {α : Type} (xs : List α) (v : α) : atI (xs ++ [v]) (-1) = some v := by
  have hl : (xs ++ [v]).length = xs.length + 1 := by simp
  have e : ixN (xs ++ [v]).length (-1) = some xs.length := by
    unfold ixN
    rw [hl, if_neg (by decide), if_pos (by omega)]
    congr 1
    omega
  unfold atI
  rw [e]
  show (xs ++ [v])[xs.length]? = some v
  simp
noncomputable def ye4 (b : Expr) : Prop := ∀ o i, subscripted b false o i = operate [o, i] (getItem o i)
noncomputable def IxR (X : Cx) (r : R2) : Prop :=
  ∀ (value slice : Expr) (pins : List (Addr × Obj)) (s : Shared) (σ : St) (H : Hp) (x y : V) (v u : Value) (Q : VK), Inv X pins σ H s -> zi6 x v -> zi6 y u -> r x y H Q ->
    subscripted slice false v u = operate [v, u] (getItem v u) -> wpAny (model X.prog X.w) X.A (subscriptTail value slice v u) (EP X pins σ Q) X.xe s
noncomputable def MtR (X : Cx) (id : String) (r : V -> List V -> Hp -> VK -> Prop) : Prop :=
  ∀ (pins : List (Addr × Obj)) (s : Shared) (σ : St) (H : Hp) (x : V) (xs : List V) (v : Value) (us : List Value) (Q : VK), Inv X pins σ H s -> zi6 x v -> zf5 xs us -> r x xs H Q ->
    wpAny (model X.prog X.w) X.A (call (.builtin id) (v :: us)) (EP X pins σ Q) X.xe s
section
variable {X : Cx} {a b : Expr} {ta tb : TE} {pos : Pos}
theorem IxR.or {r r' : R2} (h : IxR X r) (h' : IxR X r') : IxR X (fun x y H Q => r x y H Q \/ r' x y H Q) := by
  intro value slice pins s σ H x y v u Q I rx ry q hs
  rcases q with q | q
  . exact h value slice pins s σ H x y v u Q I rx ry q hs
  . exact h' value slice pins s σ H x y v u Q I rx ry q hs
theorem xf6 {r : R2} (hr : IxR X r) (ha : PE X a ta) (hb : PE X b tb) (hs : ye4 b) : PE X (.Subscript a b pos) (tOp r ta tb) := by
  intro pins s σ H Q I h
  exact Subscript_ (we6 ha hb I h fun v u s2 x y H2 I2 rx ry q => hr a b pins s2 σ H2 x y v u Q I2 rx ry q (hs _ _))
noncomputable def wu9 (K : PySem.W.Frag) : R2 := fun x y H Q => ∃ p xs i v, x = .ref p /\ y = .int i /\ SqL K H p xs /\ atI xs i = some v /\ Q v H
noncomputable def wv0 (K : PySem.W.Frag) : R2 := fun x y H Q => ∃ p xs i v, x = .ref p /\ y = .int i /\ SqT K H p xs /\ atI xs i = some v /\ Q v H
noncomputable def wv1 : R2 := fun x y H Q => ∃ z i c, x = .str z /\ y = .int i /\ z.length <= sizeLine /\ atI z.cps.toList i = some c /\ Q (.str ⟨#[c]⟩) H
theorem xa8 : IxR X (wu9 X.K) := by
  intro value slice pins s σ H x y v u Q I rx ry h hs
  obtain ⟨p, xs, i, z, rfl, rfl, hq, he, q⟩ := h
  cases rx
  obtain ⟨t, rfl⟩ := ry
  obtain ⟨its, r, pl, hz⟩ := I.list hq
  obtain ⟨j, h1, h2, h3, h4, h5⟩ := xa6 he
  obtain ⟨w, ew, rw'⟩ := r.get h2
  have hl := r.length
  have hn := yh4
  have fin : EP X pins σ Q w s := ⟨z, H, I, rw', q⟩
  by_cases h0 : 0 <= i
  . have hj : i.toNat = j := by
      rw [seqIndex_of h0 h5] at h1
      exact Option.some.inj h1
    exact item_listR pl.isList h0 (by omega) (by rw [hj]; simpa using ew) fin hs
  . have hj : (i + (its.toArray.size : Int)).toNat = j := by
      rw [seqIndex_neg (by omega) h4] at h1
      rw [List.size_toArray, <- hl]
      exact Option.some.inj h1
    exact subscriptTail_builtinR (x := w) pl.isList.typeIs slot_list_getitem.lookup
      (wpAny_getItem_list_neg (Q := fun r s' => r = w /\ EP X pins σ Q r s') pl.isList (by omega) (by rw [List.size_toArray] <;> omega) (by omega) (by rw [hj]; simpa using ew) ⟨rfl, fin⟩) hs
theorem wq8 : IxR X (wv0 X.K) := by
  intro value slice pins s σ H x y v u Q I rx ry h hs
  obtain ⟨p, xs, i, z, rfl, rfl, hq, he, q⟩ := h
  cases rx
  obtain ⟨t, rfl⟩ := ry
  obtain ⟨its, r, pl, hz⟩ := I.tuple hq
  obtain ⟨j, h1, h2, h3, h4, h5⟩ := xa6 he
  obtain ⟨w, ew, rw'⟩ := r.get h2
  have hl := r.length
  have hn := yh4
  have fin : EP X pins σ Q w s := ⟨z, H, I, rw', q⟩
  exact subscriptTail_builtinR (x := w) pl.typeIs slot_tuple_getitem.lookup
    (getItem_tuple (j := j) (Q := fun r s' => r = w /\ EP X pins σ Q r s') pl (by omega) (by omega) (by rw [List.size_toArray, <- hl]; exact h1) (by simpa using ew) ⟨rfl, fin⟩) hs
theorem wq9 : IxR X wv1 := by
  intro value slice pins s σ H x y v u Q I rx ry h hs
  obtain ⟨z, i, c, rfl, rfl, hz, he, q⟩ := h
  obtain ⟨t, rfl⟩ := rx
  obtain ⟨t', rfl⟩ := ry
  obtain ⟨j, h1, h2, h3, h4, h5⟩ := xa6 he
  have hl : z.cps.toList.length = z.length := by simp [Str.length]
  rw [hl] at h1 h4 h5
  have hn := yh4
  exact tail_any (typeIs_str s z t) slot_str_getitem.lookup (getItem_str (c := c) (by
    have e1 : decide (i < -(2 ^ 63 : Int)) = false := decide_eq_false (by omega)
    have e2 : decide (i >= 2 ^ 63) = false := decide_eq_false (by omega)
    rw [e1, e2, Bool.or_false]) (by rw [h1]; simpa using h2) ⟨.str ⟨#[c]⟩, H, I.tok _, ⟨_, rfl⟩, q⟩) hs
noncomputable def rIx (K : PySem.W.Frag) : R2 := fun x y H Q => wu9 K x y H Q \/ wv0 K x y H Q \/ wv1 x y H Q
theorem xy8 : IxR X (rIx X.K) := xa8.or (wq8.or wq9)
theorem xt3 (its : List Value) (n j : Nat) (u : Value) : Obj.mapSeq (·.setIfInBounds j u) { cls := .type "list", data := .seq its.toArray n } = { cls := .type "list", data := .seq (its.set j u).toArray n } := by
  simp [Obj.mapSeq]
theorem Inv.lst {pins : List (Addr × Obj)} {σ : St} {H : Hp} {s : Shared} {p : Addr} {xs : List V} (I : Inv X pins σ H s) (h : H p = some (.lst xs)) :
    ∃ (its : List Value) (n : Nat), zf5 xs its /\ s.heap.get? p = some { cls := .type "list", data := .seq its.toArray n } /\ xs.length <= sizeLine := by
  obtain ⟨z, its, n, r, e⟩ := I.hok p _ h
  exact ⟨its, n, r, e, z⟩
theorem Inv.lstUpd {pins : List (Addr × Obj)} {σ : St} {H : Hp} {s : Shared} {p : Addr} {xs ys : List V} {its its' : List Value} {n n' : Nat} {f : Obj -> Obj} (I : Inv X pins σ H s) (h : H p = some (.lst xs))
    (ho : s.heap.get? p = some { cls := .type "list", data := .seq its.toArray n }) (hf : f { cls := .type "list", data := .seq its.toArray n } = { cls := .type "list", data := .seq its'.toArray n' }) (r : zf5 ys its') (hz : ys.length <= sizeLine) (t : Nat) :
    Inv X pins σ (upd H p (.lst ys)) { s with heap := s.heap.update p f, toks := t } := by
  have e : (s.heap.update p f).get? p = some { cls := .type "list", data := .seq its'.toArray n' } := by
    rw [Heap.get?_update_self f ho (by rw [hf] <;> rfl), hf]
  refine I.write (x := p) (e := p) (by rw [h]; trivial) (.inl rfl) (fun b u hb q => (Heap.get?_update_other _ _ (Ne.symm hb)).trans q) ⟨_, e⟩ ?_
  exact ⟨hz, its', n', r, e⟩
noncomputable def wy1 : V -> V -> V -> Hp -> (Hp -> Prop) -> Prop := fun o i v H Q => ∃ p xs k j, o = .ref p /\ i = .int k /\ H p = some (.lst xs) /\ ixN xs.length k = some j /\ Q (upd H p (.lst (xs.set j v)))
theorem wf3 : wu4 X wy1 := by
  intro pins s σ H o i v ov iv u Q I ro ri rv h
  obtain ⟨p, xs, k, j, rfl, rfl, hp, hj, q⟩ := h
  cases ro
  obtain ⟨t, rfl⟩ := ri
  obtain ⟨its, n, r, ho, hz⟩ := I.lst hp
  obtain ⟨h1, h2, h3, h4⟩ := yr6 hj
  have hl := r.length
  have hn := yh4
  have I' : Inv X pins σ (upd H p (.lst (xs.set j v))) { s with heap := s.heap.update p (Obj.mapSeq (·.setIfInBounds j u)) } :=
    I.lstUpd hp ho (xt3 its n j u) (r.set rv j) (by rw [List.length_set]; exact hz) s.toks
  by_cases h0 : 0 <= k
  . have hk : k.toNat = j := by
      rw [seqIndex_of h0 h4] at h1
      exact Option.some.inj h1
    exact PySem.W.ki_setAt ho h0 (by omega) (by rw [List.size_toArray, <- hl]; exact h4) (by rw [hk]; exact ⟨_, I', q⟩)
  . have hk : (k + (its.toArray.size : Int)).toNat = j := by
      rw [seqIndex_neg (by omega) h3] at h1
      rw [List.size_toArray, <- hl]
      exact Option.some.inj h1
    exact PySem.W.ki_setBack ho (by omega) (by rw [List.size_toArray, <- hl]; exact h3) (by omega) (by rw [hk]; exact ⟨_, I', q⟩)
noncomputable def zx4 : V -> Bool
  | .non => true
  | .bl _ => true
  | .int _ => true
  | .str _ => true
  | _ => false
noncomputable def eqV : V -> V -> Bool
  | .non, .non => true
  | .bl a, .bl b => a == b
  | .bl a, .int b => (if a then 1 else 0) == b
  | .int a, .bl b => a == (if b then 1 else 0)
  | .int a, .int b => a == b
  | .str a, .str b => a == b
  | _, _ => false
theorem wr0 {A : Around} {s : Shared} {y x : V} {u v : Value} (ry : zi6 y u) (rx : zi6 x v) (fy : zx4 y = true) (fx : zx4 x = true) : SeqAt.EqAt A s u v (eqV y x) := by
  cases y with
  | non =>
    cases ry
    cases x with
    | non => cases rx; exact SeqAt.EqAt.same _
    | bl b => cases rx; exact SeqAt.EqAt.none_bool b
    | int b => obtain ⟨t, rfl⟩ := rx; exact SeqAt.EqAt.none_int b t
    | str b => obtain ⟨t, rfl⟩ := rx; exact SeqAt.EqAt.none_str b t
    | _ => exact absurd (show false = true from fx) Bool.false_ne_true
  | bl a =>
    cases ry
    cases x with
    | non => cases rx; exact SeqAt.EqAt.bool_none a
    | bl b => cases rx; exact SeqAt.EqAt.bool_bool a b
    | int b => obtain ⟨t, rfl⟩ := rx; exact SeqAt.EqAt.bool_int a b t
    | str b => obtain ⟨t, rfl⟩ := rx; exact SeqAt.EqAt.bool_str a b t
    | _ => exact absurd (show false = true from fx) Bool.false_ne_true
  | int a =>
    obtain ⟨t', rfl⟩ := ry
    cases x with
    | non => cases rx; exact SeqAt.EqAt.int_none a t'
    | bl b => cases rx; exact SeqAt.EqAt.int_bool a t' b
    | int b => obtain ⟨t, rfl⟩ := rx; exact SeqAt.EqAt.int_int a t' b t
    | str b => obtain ⟨t, rfl⟩ := rx; exact SeqAt.EqAt.int_str a t' b t
    | _ => exact absurd (show false = true from fx) Bool.false_ne_true
  | str a =>
    obtain ⟨t', rfl⟩ := ry
    cases x with
    | non => cases rx; exact SeqAt.EqAt.str_none a t'
    | bl b => cases rx; exact SeqAt.EqAt.str_bool a t' b
    | int b => obtain ⟨t, rfl⟩ := rx; exact SeqAt.EqAt.str_int a t' b t
    | str b => obtain ⟨t, rfl⟩ := rx; exact SeqAt.EqAt.str_str a t' b t
    | _ => exact absurd (show false = true from fx) Bool.false_ne_true
  | _ => exact absurd (show false = true from fy) Bool.false_ne_true
noncomputable def eqU (x : V) (u : Value) : Bool := match u with
  | .none => eqV .non x
  | .bool b => eqV (.bl b) x
  | .int i _ => eqV (.int i) x
  | .str z _ => eqV (.str z) x
  | _ => false
theorem xy9 {x y : V} {u : Value} (r : zi6 y u) (f : zx4 y = true) : eqU x u = eqV y x := by
  cases y with
  | non => cases r; rfl
  | bl b => cases r; rfl
  | int i => obtain ⟨t, rfl⟩ := r; rfl
  | str z => obtain ⟨t, rfl⟩ := r; rfl
  | _ => exact absurd (show false = true from f) Bool.false_ne_true
theorem xa9 {x : V} : ∀ {xs : List V} {us : List Value}, zf5 xs us -> xs.all zx4 = true -> us.any (eqU x) = xs.any fun y => eqV y x
  | _, _, .nil, _ => rfl
  | y :: xs, u :: us, .cons r t, f => by
    rw [List.all_cons, Bool.and_eq_true] at f
    rw [List.any_cons, List.any_cons, xy9 r f.1, xa9 t f.2]
theorem yt8 {A : Around} {s : Shared} {x : V} {v : Value} (rx : zi6 x v) (fx : zx4 x = true) : ∀ {xs : List V} {us : List Value}, zf5 xs us -> xs.all zx4 = true -> ∀ u ∈ us, SeqAt.EqAt A s u v (eqU x u)
  | _, _, .nil, _ => fun u hu => by cases hu
  | y :: xs, u :: us, .cons r t, f => fun u' hu => by
    rw [List.all_cons, Bool.and_eq_true] at f
    rcases List.mem_cons.mp hu with rfl | hu
    . rw [xy9 r f.1]; exact wr0 r rx f.1 fx
    . exact yt8 rx fx t f.2 u' hu
noncomputable def inV (x : V) (xs : List V) : Bool := xs.any fun y => eqV y x
noncomputable def rIn (K : PySem.W.Frag) (neg : Bool) : R2 := fun x y H Q => ∃ p xs, y = .ref p /\ (SqL K H p xs \/ SqT K H p xs) /\ zx4 x = true /\ xs.all zx4 = true /\ Q (.bl (if neg then !inV x xs else inV x xs)) H
theorem xz0 : OpR X (compareOp .In) (rIn X.K false) := by
  intro pins s σ H x y v u Q I rx ry h
  obtain ⟨p, xs, rfl, hq, fx, fs, q⟩ := h
  cases ry
  rcases hq with hq | hq
  . obtain ⟨its, r, pl, hz⟩ := I.list hq
    refine SeqAt.in_listAt (eqU x) pl.isList (fun w hw => yt8 rx fx r fs w (by simpa using hw)) ⟨.bl _, H, I, rfl, ?_⟩
    rw [show its.toArray.any (eqU x) = its.any (eqU x) by simp, xa9 r fs]
    exact q
  . obtain ⟨its, r, pl, hz⟩ := I.tuple hq
    refine SeqAt.in_tupleAt (eqU x) pl (fun w hw => yt8 rx fx r fs w (by simpa using hw)) ⟨.bl _, H, I, rfl, ?_⟩
    rw [show its.toArray.any (eqU x) = its.any (eqU x) by simp, xa9 r fs]
    exact q
theorem zu8 : zl2 X (.builtin "len") (fun xs H Q => ∃ p ys, xs = [.ref p] /\ (SqL X.K H p ys \/ SqT X.K H p ys) /\ Q (.int ys.length) H) := by
  intro pins s σ H xs us Q I r h
  obtain ⟨p, ys, rfl, hq, q⟩ := h
  obtain ⟨u, rfl, rx⟩ := yf0 r
  cases rx
  have hn := yh4
  rcases hq with hq | hq
  . obtain ⟨its, r', pl, hz⟩ := I.list hq
    have hlen := r'.length
    exact Calls.call_len_list pl.isList (by simp only [List.size_toArray] <;> omega) ⟨.int ys.length, H, I.tok _, ⟨s.toks + 1, by rw [List.size_toArray, hlen]⟩, q⟩
  . obtain ⟨its, r', pl, hz⟩ := I.tuple hq
    have hlen := r'.length
    exact len_tuple pl (by simp only [List.size_toArray] <;> omega) ⟨.int ys.length, H, I.tok _, ⟨s.toks + 1, by rw [List.size_toArray, hlen]⟩, q⟩
theorem xh3 : zl2 X (.builtin "len") (fun xs H Q => ∃ z, xs = [.str z] /\ z.length <= sizeLine /\ Q (.int z.length) H) := by
  intro pins s σ H xs us Q I r h
  obtain ⟨z, rfl, hz, q⟩ := h
  obtain ⟨u, rfl, t, rfl⟩ := yf0 r
  have hn := yh4
  exact len_str (by omega) ⟨.int z.length, H, I.tok _, ⟨_, rfl⟩, q⟩
theorem yo9 : zl2 X (.type "tuple") (fun xs H Q => ∃ p ys, xs = [.ref p] /\ ((SqL X.K H p ys /\ ∀ l, H l = none -> Q (.ref l) (upd H l (.tup ys))) \/ (SqT X.K H p ys /\ Q (.ref p) H))) := by
  intro pins s σ H xs us Q I r h
  obtain ⟨p, ys, rfl, h⟩ := h
  obtain ⟨u, rfl, rx⟩ := yf0 r
  cases rx
  rcases h with ⟨hq, q⟩ | ⟨hq, q⟩
  . obtain ⟨its, r', pl, hz⟩ := I.list hq
    have hlen := r'.length
    refine call_tuple_list pl.isList (fun h' kp => ?_) (by simp only [List.size_toArray] <;> omega)
    have I1 : Inv X pins σ H { s with heap := h' } := I.kept (t' := s.toks) kp
    have I2 : Inv X pins σ (upd H h'.objs.size (.tup ys)) { s with heap := h'.push { cls := .type "tuple", data := .seq its.toArray } } :=
      I1.laid (t' := s.toks) (fun b o e => Heap.get?_push_of_some _ e) (Nat.le_refl _) (show zp0 X.prog X.w _ _ _ (.tup ys) from ⟨hz, its, r', IsTup.new _ _⟩)
    exact ⟨.ref h'.objs.size, _, I2, rfl, q _ (I1.hok.fresh (Nat.le_refl _))⟩
  . obtain ⟨its, r', pl, hz⟩ := I.tuple hq
    exact call_tuple_same pl ⟨.ref p, H, I, rfl, q⟩
noncomputable def tyV (K : PySem.W.Frag) (T : String) (x : V) (H : Hp) : Prop := match x with
  | .str _ => T = "str"
  | .int _ => T = "int"
  | .ref p => (T = "list" /\ ∃ xs, SqL K H p xs) \/ (T = "tuple" /\ ∃ o, K.lookup p = some o /\ o.cls = .type "tuple" /\ o.dict = none) \/
      (T = "dict" /\ ((∃ kvs, H p = some (.dK kvs)) \/ ∃ kvs, H p = some (.dT kvs))) \/ (T = "set" /\ ∃ S n, H p = some (.set S n))
  | _ => False
theorem xz1 {pins : List (Addr × Obj)} {σ : St} {H : Hp} {s : Shared} {T : String} {x : V} {v : Value} (I : Inv X pins σ H s) (r : zi6 x v) (ty : tyV X.K T x H) :
    s.TypeIs v T /\ ∀ a, v = .ref a -> ∃ ob, s.heap.get? a = some ob /\ ob.dict = none := by
  cases x with
  | str z =>
    obtain ⟨t, rfl⟩ := r
    cases (show T = "str" from ty)
    exact ⟨typeIs_str s z t, fun _ e => nomatch e⟩
  | int i =>
    obtain ⟨t, rfl⟩ := r
    cases (show T = "int" from ty)
    exact ⟨typeIs_int s i t, fun _ e => nomatch e⟩
  | ref p =>
    cases r
    rcases ty with ⟨rfl, xs, hq⟩ | ⟨rfl, o, hk, hc, hd⟩ | ⟨rfl, hk⟩ | ⟨rfl, S, n, hk⟩
    . obtain ⟨its, _, pl, _⟩ := I.list hq
      refine ⟨pl.isList.typeIs, fun a e => ?_⟩
      cases e
      obtain ⟨o, n, e, c, hd, _⟩ := pl
      exact ⟨o, e, hd⟩
    . refine ⟨⟨o, I.kIn p o hk, hc⟩, fun a e => ?_⟩
      cases e
      exact ⟨o, I.kIn _ o hk, hd⟩
    . have z : ∃ o, s.heap.get? p = some o /\ o.ExactDict := by
        rcases hk with ⟨kvs, hk⟩ | ⟨kvs, hk⟩
        . obtain ⟨_, _, _, _, o, _, _, e, ex, _⟩ := I.hok p _ hk
          exact ⟨o, e, ex⟩
        . obtain ⟨_, _, _, _, o, _, _, e, ex, _⟩ := I.hok p _ hk
          exact ⟨o, e, ex⟩
      obtain ⟨o, e, ex⟩ := z
      refine ⟨⟨o, e, ex.1⟩, fun a e2 => ?_⟩
      cases e2
      exact ⟨o, e, ex.2.1⟩
    . obtain ⟨o, _, _, _, e, ex, _⟩ := I.hok p _ hk
      refine ⟨⟨o, e, ex.1⟩, fun a e2 => ?_⟩
      cases e2
      exact ⟨o, e, ex.2.1⟩
  | _ => exact False.elim ty
noncomputable def kb0 (K : PySem.W.Frag) (T : String) (r : V -> List V -> Hp -> VK -> Prop) (to : TE) : TE := fun σ H Q => to σ H fun x H1 => tyV K T x H1 /\ r x [] H1 Q
noncomputable def tBM (K : PySem.W.Frag) (T : String) (r : V -> List V -> Hp -> VK -> Prop) (to : TE) (t : TA) : TE := fun σ H Q => to σ H fun x H1 => tyV K T x H1 /\ t σ H1 fun xs H2 => r x xs H2 Q
variable {o e : Expr} {es : List Expr} {to : TE} {t : TA} {name : Str} {apos cpos : Pos} {T id : String} {r : V -> List V -> Hp -> VK -> Prop}
theorem wr1 (pa : PlainAttrs T) (slot : Slot T name id) (hty : typeOf (.builtin id) = pure (.type "method_descriptor")) (hm : MtR X id r) (ho : PE X o to)
    (hbase : attributeBase o name X.env (eval o X.env) = eval o X.env := by rfl) (hline : (apos.endLine == cpos.line) = true := by rfl) : PE X (.Call (.Attribute o name apos) [] [] cpos) (kb0 X.K T r to) := by
  intro pins s σ H Q I h
  refine wpAny_Call_method0_late hbase hline (thn (ho pins s σ H _ I h) fun v s1 ⟨x, H1, I1, r1, ty, q1⟩ => ?_)
  obtain ⟨h1, h2⟩ := xz1 I1 r1 ty
  exact ⟨T, id, pa, slot, hty, h1, h2, Calls.callWith_builtin rfl (PySem.evalArgs_none (hm pins s1 σ H1 x [] v [] Q I1 r1 .nil q1))⟩
theorem wj2 (pa : PlainAttrs T) (slot : Slot T name id) (hty : typeOf (.builtin id) = pure (.type "method_descriptor")) (hm : MtR X id r) (ho : PE X o to) (ha : PA X (e :: es) t)
    (hbase : attributeBase o name X.env (eval o X.env) = eval o X.env := by rfl)
    (hfew : ((backTo cpos (starEach (e :: es) X.env)).all (fun x => !x.1) && (backToKw cpos (keywordEach [] X.env)).all (fun x => x.1.isSome)
      && decide ((e :: es).length + ([] : List Keyword).length + (if ([] : List Keyword).isEmpty then 0 else 1) < 30)) = true := by rfl)
    (hline : (apos.endLine == cpos.line) = true := by rfl) (hs : starEach (e :: es) X.env = (false, eval e X.env) :: starEach es X.env := by rfl) (hplain : (backTo cpos (starEach es X.env)).any (·.1) = false := by rfl) :
    PE X (.Call (.Attribute o name apos) (e :: es) [] cpos) (tBM X.K T r to t) := by
  intro pins s σ H Q I h
  refine wpAny_Call_method_late hbase hfew hline rfl (thn (ho pins s σ H _ I h) fun v s1 ⟨x, H1, I1, r1, ty, q1⟩ => ?_)
  obtain ⟨h1, h2⟩ := xz1 I1 r1 ty
  refine ⟨T, id, pa, slot, hty, h1, h2, ?_⟩
  have hA := ha cpos pins s1 σ H1 _ I1 q1
  rw [hs] at hA |-
  refine Calls.callWith_builtin (by show (false || (backTo cpos (starEach es X.env)).any (·.1)) = false; rw [hplain] <;> rfl) (Calls.evalArgs_plain ?_)
  exact thn hA fun us s2 ⟨vs, H2, I2, r2, q2⟩ => hm pins s2 σ H2 x vs v us Q I2 r1 r2 q2
end
end L2
namespace L2
open PySem PySem.Spec PyProof.Rows
noncomputable def MtM (X : Cx) (id : String) (r : V -> List V -> Hp -> VK -> Prop) : Prop :=
  ∀ (pins : List (Addr × Obj)) (s : Shared) (σ : St) (H : Hp) (x : V) (xs : List V) (v : Value) (us : List Value) (Q : VK), Inv X pins σ H s -> zi6 x v -> zf5 xs us -> r x xs H Q ->
    wpAny (model X.prog X.w) X.A (call (.builtin id) (v :: us)) (EP X pins σ Q) X.xe s
theorem zf5.one : ∀ {x : V} {us : List Value}, zf5 [x] us -> ∃ u, us = [u] /\ zi6 x u
  | _, _, .cons r .nil => ⟨_, rfl, r⟩
theorem zf5.zero : ∀ {us : List Value}, zf5 [] us -> us = []
  | _, .nil => rfl
theorem zf5.dropLast {xs : List V} {us : List Value} (h : zf5 xs us) : zf5 xs.dropLast us.dropLast := by
  induction h with
  | nil => exact .nil
  | cons r t ih =>
    cases t with
    | nil => exact .nil
    | cons q t' => exact .cons r ih
theorem zf5.rep {xs : List V} {us : List Value} (h : zf5 xs us) : ∀ k : Nat, zf5 (List.replicate k xs).flatten (List.replicate k us).flatten
  | 0 => .nil
  | k + 1 => by
    rw [List.replicate_succ, List.replicate_succ, List.flatten_cons, List.flatten_cons]
    exact zf5.append h (zf5.rep h k)
theorem xt4 {α : Type} (l : List α) : l.eraseIdx (l.length - 1) = l.dropLast := by
  induction l with
  | nil => rfl
  | cons a r ih =>
    cases r with
    | nil => rfl
    | cons b r =>
      have e : (a :: b :: r).length - 1 = ((b :: r).length - 1) + 1 := by
        have h1 : (a :: b :: r).length = r.length + 2 := rfl
        have h2 : (b :: r).length = r.length + 1 := rfl
        omega
      rw [e, List.eraseIdx_cons_succ, ih]
      all_goals rfl
section
variable {X : Cx} {pins : List (Addr × Obj)} {σ : St} {H : Hp} {s : Shared} {l b : Addr} {xs ys zs : List V}
theorem Inv.lset {its its' : List Value} {n : Nat} {f : Array Value -> Array Value} {t' : Nat} (I : Inv X pins σ H s) (hH : H l = some (.lst xs))
    (e : s.heap.get? l = some { cls := .type "list", data := .seq its.toArray n }) (hf : f its.toArray = its'.toArray) (hv : zf5 ys its') (hz : ys.length <= sizeLine) :
    Inv X pins σ (upd H l (.lst ys)) { s with heap := s.heap.update l (Obj.mapSeq f), toks := t' } := by
  have q := PySem.IsL.update e f
  rw [hf] at q
  refine I.write (x := l) (e := l) (by rw [hH]; exact trivial) (.inl rfl) (fun b' u hb hu => (Heap.get?_update_other s.heap (Obj.mapSeq f) (Ne.symm hb)).trans hu) ⟨_, q⟩ ?_
  exact ⟨hz, its', _, hv, q⟩
theorem Inv.lnew {its : List Value} {t' : Nat} (I : Inv X pins σ H s) (hv : zf5 ys its) (hz : ys.length <= sizeLine) :
    Inv X pins σ (upd H s.heap.objs.size (.lst ys)) { s with heap := s.heap.push { cls := .type "list", data := .seq its.toArray }, toks := t' } :=
  I.laid (fun _ _ q => Heap.get?_push_of_some _ q) (Nat.le_refl _) ⟨hz, its, 0, hv, Heap.get?_push_size _ rfl⟩
theorem Inv.fresh (I : Inv X pins σ H s) : H s.heap.objs.size = none := I.hok.fresh (Nat.le_refl _)
theorem Inv.lstM (I : Inv X pins σ H s) (hH : H l = some (.lst xs)) : xs.length <= sizeLine /\ ∃ (its : List Value) (n : Nat), zf5 xs its /\ xs.length = its.length /\ s.heap.get? l = some { cls := .type "list", data := .seq its.toArray n } := by
  obtain ⟨z, its, n, r, e⟩ := I.hok l _ hH
  exact ⟨z, its, n, r, r.length, e⟩
end
section
variable {X : Cx}
noncomputable def wo5 : V -> List V -> Hp -> VK -> Prop := fun x vs H Q => ∃ l xs y, x = .ref l /\ vs = [y] /\ H l = some (.lst xs) /\ xs.length < sizeLine /\ Q .non (upd H l (.lst (xs ++ [y])))
theorem xc8 : MtM X "list.append" wo5 := by
  intro pins s σ H x vs v us Q I rx rv h
  obtain ⟨l, xs, y, rfl, rfl, hH, hz, q⟩ := h
  cases rx
  obtain ⟨u, rfl, ru⟩ := rv.one
  obtain ⟨z, its, n, r, hl, e⟩ := I.lstM hH
  refine call_meets F.slot_list_append ⟨_, e, rfl⟩ F.entry_list_append (F.args_list_append_2 _ _) (PySem.list_append l its.toArray n u (by rw [List.size_toArray]; omega)) ⟨e, ?_⟩
  refine ⟨.non, _, I.lset (its' := its ++ [u]) hH e (by simp) (r.append (.cons ru .nil)) ?_, rfl, q⟩
  rw [List.length_append, List.length_singleton]
  omega
noncomputable def kb1 : V -> List V -> Hp -> VK -> Prop := fun x vs H Q => ∃ l xs y, x = .ref l /\ vs = [] /\ H l = some (.lst xs) /\ xs[xs.length - 1]? = some y /\ Q y (upd H l (.lst xs.dropLast))
theorem wr2 : MtM X "list.pop" kb1 := by
  intro pins s σ H x vs v us Q I rx rv h
  obtain ⟨l, xs, y, rfl, rfl, hH, hy, q⟩ := h
  cases rx
  have hus := rv.zero
  subst hus
  obtain ⟨z, its, n, r, hl, e⟩ := I.lstM hH
  obtain ⟨u, hu, ru⟩ := r.get hy
  have hy' : its.toArray[its.toArray.size - 1]? = some u := by
    show its.toArray[its.length - 1]? = some u
    rw [<- Array.getElem?_toList, <- hl]
    exact hu
  refine call_meets F.slot_list_pop ⟨_, e, rfl⟩ F.entry_list_pop (F.args_list_pop_1 _) (MeetsSeq.list_pop_last l its.toArray n u hy' (by rw [List.size_toArray]; omega)) ⟨e, ?_⟩
  refine ⟨y, _, I.lset (its' := its.dropLast) hH e ?_ r.dropLast ?_, ru, q⟩
  . show its.toArray.eraseIdxIfInBounds (its.toArray.size - 1) = its.dropLast.toArray
    rw [List.size_toArray, List.eraseIdxIfInBounds_toArray, xt4]
  . rw [List.length_dropLast]
    omega
end
end L2
namespace Att
open PySem PySem.W PySem.Calls PyProof.Rows
theorem yw4 {P : Params} {h : Heap} : ∀ (ns : List Int) (vs : List Value), WellAll P h vs (ns.map WData.int) -> IntsAre vs ns := by
  intro ns
  induction ns with
  | nil =>
    intro vs w
    rw [List.map_nil] at w
    cases w
    exact .nil
  | cons n ns ih =>
    intro vs w
    rw [List.map_cons] at w
    cases w with
    | cons a b =>
      cases a
      exact .cons _ _ (ih _ b)
theorem xz2 {l : OpenLaw} {n : Nat} (hn : l.most = some n) {P : Params} {h : Heap} {args : List WData} {vals : List Value}
    (hpre : l.row.toRowW.claim.pre args = true) (hwl : WellAll P h vals args) :
    ∃ a vs ns, vals = [Value.ref a] /\ args = [WData.list (ns.map WData.int)] /\ h.get? a = some { cls := .type "list", data := .seq vs.toArray } /\ IntsAre vs ns /\ ns.length <= n := by
  have hsh : WShape.hasAll [] args [.list .int] = true := (pre_splitW hpre).1
  have hc : l.pre.holds [] { args := args } = true := (pre_splitW hpre).2
  obtain ⟨d, r, rfl, h1, h2⟩ := hasAllW_cons hsh
  obtain rfl := hasAllW_nil h2
  obtain ⟨xs, rfl, h3⟩ := hasW_list h1
  obtain ⟨ns, rfl⟩ := items_int h3
  have hlen : ns.length <= n := by
    unfold OpenLaw.pre at hc
    have h4 : (WTm.not (.lt (.lit (.int (n : Int))) (.len (.arg 0)))).holds [] { args := [.list (ns.map .int)] } = true := by
      have h4 := (holds_andW hc).1
      rw [hn] at h4
      exact h4
    have h5 := condW_of h4 (w_not (w_lt w_lit (w_len_list (w_arg rfl))))
    rw [List.length_map] at h5
    refine Nat.le_of_not_lt fun q => ?_
    have q' : (n : Int) < ((ns.length : Nat) : Int) := by omega
    first
      | (rw [decide_eq_true q'] at h5; exact absurd h5 (by decide))
      | (simp at h5; omega)
  cases hwl with
  | cons w1 w2 =>
    cases w2
    cases w1 with
    | list ho hall => exact ⟨_, _, ns, rfl, rfl, ho, yw4 ns _ hall, hlen⟩
theorem xz3 (l : OpenLaw) (args : List WData) : l.row.toRowW.claim.post args (.bool true) args = true :=
  postW_of (r := l.row.toRowW) (X := (true == true))
    (show WShape.has [] (.bool true) .bool = true by first | rfl | decide | simp [WShape.has, WShape.arms, WShape.armsAll])
    (show (WTm.eq .res (.lit (.bool true))).value [] { args := args, res := some (.bool true), after := args } = some (.bool (true == true)) from w_eq_bool (w_res rfl) w_lit) rfl
theorem attach_call {l : OpenLaw} {n : Nat} {q : Program} {loose : List Str} {XP : (Str -> Option Value) -> Heap -> Prop} {YP : World -> Heap -> Prop} {d : DefRec}
    (hn : l.most = some n) (hdf : d.params.defaults = [])
    (call : ∀ (w : World) (s₀ s₁ : Shared) (mg mb : Str -> Option Value) (fa : Addr) (o : Obj) (pm cd doc : Value) (a : Addr) (vs : List Value) (ns : List Int),
      Ground q loose [] XP w s₀ mg mb s₁.heap -> YP w s₁.heap ->
      s₁.heap.get? fa = some o -> o.data = .func (docDef d.name d.params d.body d.scope pm cd doc) -> s₁.heap.CodeRec cd d.name -> mg d.name = some (.ref fa) ->
      s₁.heap.get? a = some { cls := .type "list", data := .seq vs.toArray } -> IntsAre vs ns -> ns.length <= n -> s₁.gens = #[] ->
      codeAny (model l.prog w) callerA (.call (.ref fa) ⟨[.ref a], []⟩) (fun r s' => r = .ok (.ret (.bool true)) /\ OldK s₁.heap s'.heap /\ s'.os = s₁.os /\ AllBare s'.gens) s₁) :
    WalkO q loose XP YP l.row.toRowW d [] (fun f vs => PySem.call f vs) := by
  intro w s₀ s₁ mg mb G Y fa o pm cd doc dV kV ho hd hcd hD hmg hg args vals as hpre hlay hrd hwl hlo
  obtain rfl : dV = .none := Dflts.none hD hdf
  obtain rfl : kV = .none := Dflts.noKw hD
  obtain ⟨a, vs, ns, rfl, rfl, hobj, hints, hlen⟩ := xz2 hn hpre hwl
  refine enter_call (codeAny_mono (call w s₀ s₁ mg mb fa o pm cd doc a vs ns G Y ho (fd_plain hd) hcd hmg hobj hints hlen hg) fun r s' hq => ?_)
  obtain ⟨rfl, h2, h3, h4⟩ := hq
  exact ⟨.inl ⟨.bool true, .bool true, [], rfl, fun _ => rfl, .bool true, xz3 l _, fun _ => ⟨List.Pairwise.nil, fun _ hm => (nomatch hm)⟩⟩, h2, h3, h4⟩
end Att
namespace L2
open PySem PySem.Spec PyProof.Rows
theorem xc9 : ∀ {vs : List Value} {ns : List Int}, IntsAre vs ns -> zf5 (ns.map V.int) vs
  | _, _, .nil => .nil
  | _, _, .cons n t h => .cons ⟨t, rfl⟩ (xc9 h)
noncomputable def wi6 (H : Hp) : Prop := ∀ b, H b = none \/ ∃ o xs, H b = some (.frz o (.lst xs))
theorem wf4 {P : Program} {w : World} {K : PySem.W.Frag} {mg mb : Str -> Option Value} {CX : CXT} {k : Nat} {fa a : Addr} {fd : FuncData} {x : Str} {sp : Sp} {s₁ : Shared} {vs : List Value} {ns : List Int}
    (KX : K.In s₁.heap) (hns : s₁.heap.Ns mainGlobals mg) (hb : s₁.heap.Ns builtinsNs mb) (hbb : ∀ x : Str, x ≠ "__name__" -> mb x = bootBuiltins x) (hlim : s₁.heap.NoLimit) (hg : s₁.gens = #[])
    (ha : s₁.heap.get? a = some { cls := .type "list", data := .seq vs.toArray }) (hi : IntsAre vs ns) (hl : ns.length <= sizeLine) (hr : Room k callerA)
    (F : ∀ base : Heap, K.In base -> base.Ns mainGlobals mg -> FnOk P w K mg base CX k fa fd [x] sp) (hbind : ∀ (s : Shared) (u : Value), BindsTo s fd ⟨[u], []⟩ [(x, u)])
    (hsp : ∀ H : Hp, wi6 H -> SqL K H a (ns.map V.int) -> sp [.ref a] H (fun v _ => v = .bl true) fun _ _ _ => False)
    (hCX : ∀ H e s', CX [] H s₁ (fun _ _ _ => False) e s' -> False) :
    codeAny (model P w) callerA (.call (.ref fa) ⟨[.ref a], []⟩) (fun r s' => r = .ok (.ret (.bool true)) /\ OldK s₁.heap s'.heap /\ s'.os = s₁.os /\ AllBare s'.gens) s₁ := by
  have rv := xc9 hi
  have lenV := hi.length
  have core : ∀ H : Hp, wi6 H -> SqL K H a (ns.map V.int) -> HOk P w H s₁.heap -> (∀ b, H b ≠ none -> b = a) -> (H a ≠ none -> K.lookup a = none) ->
      codeAny (model P w) callerA (.call (.ref fa) ⟨[.ref a], []⟩) (fun r s' => r = .ok (.ret (.bool true)) /\ OldK s₁.heap s'.heap /\ s'.os = s₁.os /\ AllBare s'.gens) s₁ := by
    intro H hO hS hok hA hK
    have base_of : ∀ {b : Addr} {o : Obj}, s₁.heap.get? b = some o -> H b = none -> (yo2 s₁.heap H).get? b = some o := fun e n => we2 e n
    have noA : ∀ {b : Addr} {o : Obj} {es : Array DictEntry} {ep : Nat}, s₁.heap.get? b = some o -> o.data = .dict es ep -> H b = none := fun {b o es ep} e d => by
      cases q : H b with
      | none => rfl
      | some u =>
        have e' : b = a := hA b (by rw [q]; simp)
        subst e'
        rw [ha] at e; cases e
        have d' : Data.seq vs.toArray _ = Data.dict es ep := d
        cases d'
    have nsK : ∀ {b : Addr} {m : Str -> Option Value}, s₁.heap.Ns b m -> (yo2 s₁.heap H).Ns b m := fun {b m} ⟨o, es, ep, e, d, r⟩ => ⟨o, es, ep, base_of e (noA e d), d, r⟩
    have hKb : K.In (yo2 s₁.heap H) := fun b o e => base_of (KX b o e) (by
      cases q : H b with
      | none => rfl
      | some u =>
        have e' : b = a := hA b (by rw [q]; simp)
        subst e'
        rw [hK (by rw [q]; simp)] at e; cases e)
    have hM : Mod K mg (yo2 s₁.heap H) := ⟨hKb, nsK hns, ⟨mb, nsK hb, hbb⟩, let ⟨mc, h1, h2⟩ := hlim; ⟨mc, nsK h1, h2⟩⟩
    have e0 : Env0 P w K mg (yo2 s₁.heap H) callerA [] s₁ H := ⟨rfl, hM, fun b o e => wk7 e, Nat.le_of_eq (xw9 _ _), trivial, fun b hb => absurd (show b ∈ ([] : List Addr) from hb) (by simp), hok, .of_eq hg⟩
    refine codeAny_mono ((F _ hKb (nsK hns)).run callerA [] s₁ H ⟨[.ref a], []⟩ [.ref a] [.ref a] _ _ hr e0 (hbind s₁ (.ref a)) (.cons rfl .nil) (hsp H hO hS)) fun r s' h => ?_
    cases r with
    | error e => exact (hCX H e s' h).elim
    | ok fl =>
      cases fl with
      | next => exact False.elim h
      | brk => exact False.elim h
      | cont => exact False.elim h
      | ret u =>
        obtain ⟨v, H', os, bare, un, hok', r', q⟩ := h
        have q' : v = .bl true := q
        subst q'
        obtain rfl : u = Value.bool true := r'
        refine ⟨rfl, OldK.of_keep fun b o e => ?_, os, bare⟩
        cases q : H b with
        | none => exact un.keep b o e q (by intro z; exact absurd (show b ∈ ([] : List Addr) from z) (by simp)) (by simp)
        | some u =>
          rcases hO b with z | ⟨ob, xs, z⟩
          . rw [q] at z; cases z
          . have z2 := un.frzs b ob _ z
            obtain ⟨e1, _⟩ := hok b _ z
            obtain ⟨e2, _⟩ := hok' b _ z2
            rw [e] at e1; cases e1
            exact e2
  cases hk : K.lookup a with
  | some o =>
    have e := KX a o hk
    rw [ha] at e
    cases e
    refine core (fun _ => none) (fun _ => .inl rfl) (.inr ⟨_, vs.toArray, _, hk, rfl, rfl, rfl, by rw [List.size_toArray, lenV]; exact hl, by simpa using rv⟩) (fun b u z => by have z' : (none : Option HO) = some u := z; cases z') (fun b z => absurd rfl z) fun z => absurd rfl z
  | none =>
    refine core (fun b => if b = a then some (.frz { cls := .type "list", data := .seq vs.toArray } (.lst (ns.map V.int))) else none) (fun b => ?_) (.inl (.inr ⟨{ cls := .type "list", data := .seq vs.toArray }, if_pos rfl⟩)) (fun b u z => ?_) (fun b z => ?_) fun _ => hk
    . by_cases hb : b = a
      . exact .inr ⟨_, _, if_pos hb⟩
      . exact .inl (if_neg hb)
    . by_cases hb : b = a
      . have z' := (if_pos hb).symm.trans z
        cases z'
        subst hb
        exact ⟨ha, by rw [List.length_map]; exact hl, vs, _, rv, ha⟩
      . have z' := (if_neg hb).symm.trans z
        cases z'
    . by_cases hb : b = a
      . exact hb
      . exact absurd (if_neg hb) z
end L2
namespace L2
open PySem PySem.Spec PyProof.Rows
theorem wl7 {l : PySem.W.OpenLaw} {n k : Nat} {q : Program} {loose : List Str} {XP : (Str -> Option Value) -> Heap -> Prop} {YP : World -> Heap -> Prop} {d : DefRec} {K : Params -> PySem.W.Frag} {CX : World -> CXT} {sp : World -> Sp} {x : Str}
    (hn : l.most = some n) (hn2 : n <= sizeLine) (hdf : d.params.defaults = []) (hr : Room k callerA)
    (hY : ∀ (w : World) (h : Heap), YP w h -> (K w.params).In h)
    (F : ∀ (w : World) (mg : Str -> Option Value) (fa : Addr) (h : Heap), (K w.params).In h -> h.Ns mainGlobals mg -> mg d.name = some (.ref fa) ->
      ∃ fd : FuncData, (∀ (s : Shared) (u : Value), BindsTo s fd ⟨[u], []⟩ [(x, u)]) /\
        ∀ base : Heap, (K w.params).In base -> base.Ns mainGlobals mg -> FnOk l.prog w (K w.params) mg base (CX w) k fa fd [x] (sp w))
    (hsp : ∀ (w : World) (H : Hp) (a : Addr) (ns : List Int), ns.length <= n -> wi6 H -> SqL (K w.params) H a (ns.map V.int) -> sp w [.ref a] H (fun v _ => v = .bl true) fun _ _ _ => False)
    (hCX : ∀ (w : World) (H : Hp) (s : Shared) (e : Value) (s' : Shared), CX w [] H s (fun _ _ _ => False) e s' -> False) :
    PySem.W.WalkO q loose XP YP l.row.toRowW d [] (fun f vs => PySem.call f vs) := by
  refine Att.attach_call hn hdf fun w s₀ s₁ mg mb fa o pm cd doc a vs ns G Y ho hd hcd hmg hobj hints hlen hg => ?_
  have KX := hY w _ Y
  obtain ⟨fd, hb, hF⟩ := F w mg fa _ KX G.T.g hmg
  exact wf4 KX G.T.g G.T.b G.T.builtins G.T.nolimit hg hobj hints (Nat.le_trans hlen hn2) hr hF hb (fun H hO hS => hsp w H a ns hlen hO hS) fun H e s' => hCX w H s₁ e s'
end L2
namespace L2
open PySem PySem.Spec PyProof.Rows
noncomputable def ya1 (s : Stmt) (j : Nat) : Stmt := match s with
  | .ClassDef _ _ _ body _ _ _ _ _ _ _ => body.getD j (.Pass ⟨0, 0, 0, 0⟩)
  | _ => .Pass ⟨0, 0, 0, 0⟩
noncomputable def zi2 (s : Stmt) : Arguments := match s with
  | .FunctionDef _ a _ _ _ _ _ _ _ _ => a
  | _ => { posonlyargs := [], args := [], vararg := none, kwonlyargs := [], kw_defaults := [], kwarg := none, defaults := [] }
noncomputable def zh3 (s : Stmt) : List Stmt := match s with
  | .FunctionDef _ _ b _ _ _ _ _ _ _ => b
  | _ => []
noncomputable def zc7 (s : Stmt) : Scope := match s with
  | .FunctionDef _ _ _ _ _ _ sc _ _ _ => sc
  | _ => { kind := .function, names := [], isGenerator := false, isCoroutine := false }
noncomputable abbrev CX0 : CXT := fun _ _ _ _ _ _ => False
noncomputable abbrev E0 : XK := fun _ _ _ => False
theorem ym5 {X : Cx} : yf8 CX0 X E0 := fun _ _ _ _ _ _ _ h => h.elim
structure Fun (K : PySem.W.Frag) (x qual : Str) (st : Stmt) (f : Addr) (fd : FuncData) : Prop where
  ex : ∃ (oc : Value) (od : Option Addr) (kV doc pm : Value) (an : Option Addr) (cdv ct : Value) (osl : Array (Option Value)),
    fd = PySem.W.fnOf x qual (zi2 st) (zh3 st) (zc7 st) .none kV doc pm an cdv ct /\ K.lookup f = some ⟨oc, od, .func fd, osl⟩ /\ PySem.W.codeIn K cdv qual = true
  kp : PySem.W.keepIn K (.ref f) = true
section
variable {P : Program} {w : World} {K : PySem.W.Frag} {mg : Str -> Option Value} {base : Heap}
theorem Fun.ok {x qual : Str} {st : Stmt} {f : Addr} {fd : FuncData} {N ps : List Str} {k : Nat} {sp : Sp} (F : Fun K x qual st f fd) (S : FnScope N ps (zc7 st)) (len : ∀ vs H Q E, sp vs H Q E -> vs.length = ps.length)
    (hbody : ∀ (cdv : Value) (A : Around) (outer : List Env) (s : Shared) (H : Hp) (vs : List V) (Q : VK) (E : XK), Room k (A.deeper (envOfC qual (zc7 st) s.heap.objs.size f cdv)) -> sp vs H Q E ->
      ∃ t, PSs (yk2 CX0 P w K mg base N qual (zc7 st) f cdv A outer s H E).nox (zh3 st) t /\ t { nx := fun _ H' => Q .non H', rt := Q } (start N vs) H) : FnOk P w K mg base CX0 (k + 1) f fd ps sp := by
  obtain ⟨oc, od, kV, doc, pm, an, cdv, ct, osl, rfl, lk, hcd⟩ := F.ex
  refine ww4 lk hcd S len fun A outer s H vs Q E hr hsp => ?_
  obtain ⟨t, h, q⟩ := hbody cdv A outer s H vs Q E hr hsp
  exact ⟨t, h.nox, q⟩
theorem Fun.binds {x qual : Str} {st : Stmt} {f : Addr} {fd : FuncData} {ps : List Str} (F : Fun K x qual st f fd)
    (h : ∀ (kV doc pm : Value) (an : Option Addr) (cdv ct : Value) (us : List Value), us.length = ps.length -> bindArgs (PySem.W.fnOf x qual (zi2 st) (zh3 st) (zc7 st) .none kV doc pm an cdv ct) ⟨us, []⟩ = pure (ps.zip us)) : ya0 K fd ps [] := by
  obtain ⟨oc, od, kV, doc, pm, an, cdv, ct, osl, rfl, lk, hcd⟩ := F.ex
  exact .all (h kV doc pm an cdv ct)
theorem zo3 {x qual : Str} {st : Stmt} {f : Addr} {oc : Value} {od an : Option Addr} {osl : Array (Option Value)} {kV doc pm cdv ct : Value} (l : K.lookup f = some ⟨oc, od, .func (PySem.W.fnOf x qual (zi2 st) (zh3 st) (zc7 st) .none kV doc pm an cdv ct), osl⟩)
    (c : PySem.W.codeIn K cdv qual = true) (k : PySem.W.keepIn K (.ref f) = true) : Fun K x qual st f (PySem.W.fnOf x qual (zi2 st) (zh3 st) (zc7 st) .none kV doc pm an cdv ct) := ⟨⟨oc, od, kV, doc, pm, an, cdv, ct, osl, rfl, l, c⟩, k⟩
end
theorem xd0 {n : Nat} (h : n <= 1000) : n < sizeLine := Nat.lt_of_le_of_lt h (by decide)
section
variable {X : Cx}
theorem pv (i : Nat) {x : Str} {pos : Pos} (hN : X.N[i]? = some x := by rfl) (hv : Vis X.env.scope x := by first | exact Or.inl rfl | exact Or.inr (Or.inl rfl) | exact Or.inr (Or.inr rfl)) (hd : (x == ("__debug__" : Str)) = false := by decide)
    (hcd : (x == ("__classdict__" : Str)) = false := by decide) : PE X (.Name x pos) (wu2 i) := yk8 hN hv hd hcd
end
theorem wy5 {c A B : Prop} [Decidable c] (h1 : c -> A) (h2 : ¬ c -> B) : if c then A else B := by
  by_cases h : c
  . rw [if_pos h]
    exact h1 h
  . rw [if_neg h]
    exact h2 h
noncomputable def xw5 (H H' : Hp) : Prop := ∀ b o, H b = some o -> H' b = some o
theorem xw5.free {H H' : Hp} (e : xw5 H H') {l : Addr} (h : H' l = Option.none) : H l = Option.none := by
  cases q : H l with
  | none => rfl
  | some o =>
    rw [e l o q] at h
    cases h
end L2
namespace L2
open PySem PySem.Spec PyProof.Rows
section
variable {κ : Type} [DecidableEq κ]
noncomputable def yj0 (kvs : List (κ × V)) (k : κ) : Option V := (kvs.find? fun kv => decide (kv.1 = k)).map (·.2)
theorem yt9 {p : κ × V} {r : List (κ × V)} {k : κ} (e : p.1 = k) : yj0 (p :: r) k = some p.2 := by simp [yj0, List.find?_cons, e]
theorem yu0 {p : κ × V} {r : List (κ × V)} {k : κ} (e : ¬ p.1 = k) : yj0 (p :: r) k = yj0 r k := by simp [yj0, List.find?_cons, e]
theorem xh4 (k : κ) : ∀ kvs : List (κ × V), (kvs.any fun kv => decide (kv.1 = k)) = (yj0 kvs k).isSome
  | [] => rfl
  | p :: r => by
    rw [List.any_cons]
    by_cases e : p.1 = k
    . simp only [yt9 e, decide_eq_true e, Bool.true_or, Option.isSome_some]
    . rw [yu0 e, decide_eq_false e, Bool.false_or]; exact xh4 k r
theorem ya5.isSome_eq {o : Option V} {u : Option Value} (r : ya5 o u) : o.isSome = u.isSome := by
  cases o with
  | none => cases u with
    | none => rfl
    | some _ => exact (show False from r).elim
  | some _ => cases u with
    | none => exact (show False from r).elim
    | some _ => rfl
theorem KV.val {kvs : List (κ × V)} {vs : List (κ × Value)} (r : KV kvs vs) (k : κ) : ya5 (yj0 kvs k) (valueAt vs k) := by
  unfold KV at r
  induction r with
  | nil => exact True.intro
  | @cons p q ps qs h t ih =>
    obtain ⟨h1, h2⟩ := h
    by_cases e : p.1 = k
    . have e' : q.1 = k := h1.symm.trans e
      have b : valueAt (q :: qs) k = some q.2 := by simp [valueAt, List.find?_cons, e']
      rw [yt9 e, b]; exact h2
    . have e' : ¬ q.1 = k := fun z => e (h1.trans z)
      have b : valueAt (q :: qs) k = valueAt qs k := by simp [valueAt, List.find?_cons, e']
      rw [yu0 e, b]; exact ih
end
theorem wj3 {P : Program} {w : World} {k : Key} {u : Value} (r : zi6 (kV k) u) : (zx1 P w).is k u = true := by
  cases k with
  | inl i => obtain ⟨t, e⟩ := (show ∃ t, u = Value.int i t from r); subst e; exact xn6 P w i t
  | inr x => obtain ⟨t, e⟩ := (show ∃ t, u = Value.str x t from r); subst e; exact zk6 P w x t
noncomputable def xw6 (i : Expr) : Prop := ∀ ov iv, subscripted i false ov iv = operate [ov, iv] (getItem ov iv)
theorem wl8 {prog : Program} {w : World} {A : Around} {E : Value -> Shared -> Prop} {s : Shared} {env : Env} {value slice : Expr} {pos : Pos} {T id : String} {Q : Value -> Shared -> Prop}
    (hl : typeLookup (.type T) "__getitem__" = pure (some (.builtin id))) (hs : xw6 slice)
    (h : wpAny (model prog w) A (eval value env) (fun o s₁ => wpAny (model prog w) A (eval slice env) (fun i s₂ => s₂.TypeIs o T /\ wpAny (model prog w) A (getItem o i) Q E s₂) E s₁) E s) :
    wpAny (model prog w) A (eval (.Subscript value slice pos) env) Q E s := by
  refine Subscript_ (wpAny_mono h (fun o s₁ h₁ => wpAny_mono h₁ (fun i s₂ h₂ => ?_) fun _ _ x => x) fun _ _ x => x)
  obtain ⟨hT, h₂⟩ := h₂
  unfold subscriptTail
  refine wpAny_bind ?_
  rw [getitemInPython_of_ne hT.not_modules]
  refine wpAny_bind (wpAny_specialOf hT hl ?_)
  have fin : wpAny (model prog w) A (subscripted slice false o i) (fun r s₃ => wpAny (model prog w) A (letTemporaryGo value o r >>= fun _ => pure r) Q E s₃) E s₂ := by
    rw [hs o i]
    exact wpAny_operating (wpAny_mono h₂ (fun r s₃ h₃ => wpAny_bind (wpAny_letTemporaryGo (wpAny_pure h₃))) fun _ _ x => x)
  first
    | exact wpAny_pure (wpAny_bind fin)
    | exact wpAny_bind (wpAny_pure (wpAny_bind fin))
    | exact wpAny_bind fin
structure M1 (X : Cx) (o : Expr) (m : Str) (apos : Pos) (e : Expr) (cpos : Pos) : Prop where
  base : attributeBase o m X.env (eval o X.env) = eval o X.env
  few : ((backTo cpos (starEach [e] X.env)).all (fun x => !x.1) && (backToKw cpos (keywordEach [] X.env)).all (fun x => x.1.isSome)
    && decide (([e] : List Expr).length + ([] : List Keyword).length + (if ([] : List Keyword).isEmpty then 0 else 1) < 30)) = true
  line : (apos.endLine == cpos.line) = true
  trees : backTo cpos (starEach [e] X.env) = [(false, eval e X.env)]
structure M2 (X : Cx) (o : Expr) (m : Str) (apos : Pos) (e f : Expr) (cpos : Pos) : Prop where
  base : attributeBase o m X.env (eval o X.env) = eval o X.env
  few : ((backTo cpos (starEach [e, f] X.env)).all (fun x => !x.1) && (backToKw cpos (keywordEach [] X.env)).all (fun x => x.1.isSome)
    && decide (([e, f] : List Expr).length + ([] : List Keyword).length + (if ([] : List Keyword).isEmpty then 0 else 1) < 30)) = true
  line : (apos.endLine == cpos.line) = true
  trees : backTo cpos (starEach [e, f] X.env) = [(false, eval e X.env), (false, eval f X.env)]
end L2
namespace L2
open PySem PySem.Spec PyProof.Rows
structure Dn (K : PySem.W.Frag) (mg : Str -> Option Value) (x : Str) (st : Stmt) (ps : List Str) (f : Addr) (fd : FuncData) : Prop where
  F : Fun K x x st f fd
  b : ya0 K fd ps []
  m : mg x = some (.ref f)
section
variable {X : Cx} {x : Str} {st : Stmt} {ps : List Str} {f : Addr} {fd : FuncData} {k : Nat} {sp : Sp} {p pos : Pos} {e : Expr} {es : List Expr} {t : TA}
theorem xt5 (D : Dn X.K X.mg x st ps f fd) (G : FnOk X.prog X.w X.K X.mg X.base CX0 k f fd ps sp) (hr : Room k X.A) (hg : Gl X x) (ha : PA X (e :: es) t)
    (hdb : (x == ("__debug__" : Str)) = false := by decide) (he : starEach (e :: es) X.env = (false, eval e X.env) :: starEach es X.env := by rfl) (hpl : (backTo pos (starEach es X.env)).any (·.1) = false := by rfl) :
    PE X (.Call (.Name x p) (e :: es) [] pos) (wj7 sp [] E0 t) := wl3 G hr hg D.m D.F.kp D.b .nil ym5 ha hdb he hpl
end
theorem wf5 {H : Hp} {p : Addr} (h : H p = none) (o : HO) : xw5 H (upd H p o) := fun b u q => by rw [zi0 (zz4 q h)]; exact q
theorem xf7 {n : Nat} (h : n <= 1000) : n <= sizeLine := Nat.le_of_lt (xd0 h)
noncomputable def ym2 (H : Hp) : V -> Option String
  | .non => some "NoneType"
  | .bl _ => some "bool"
  | .int _ => some "int"
  | .str _ => some "str"
  | .ref a => match H a with
    | some (.lst _) => some "list"
    | some (.frz _ (.lst _)) => some "list"
    | some (.tup _) => some "tuple"
    | some (.dK _) => some "dict"
    | _ => none
  | _ => none
noncomputable def zj4 (t c : String) : Bool := decide (t = c) || (decide (t = "bool") && decide (c = "int"))
noncomputable def kinds : List String := ["NoneType", "bool", "int", "str", "list", "tuple", "dict"]
theorem xh5 (K : PySem.W.Frag) : ∀ t ∈ kinds, ∀ c ∈ ["bool", "int", "str", "list", "tuple", "dict"], PySem.W.kitOne K (.type t) (.type c) = some (zj4 t c) := by
  intro t ht c hc
  simp only [kinds, List.mem_cons, List.not_mem_nil, or_false] at ht hc
  rcases ht with rfl | rfl | rfl | rfl | rfl | rfl | rfl <;> rcases hc with rfl | rfl | rfl | rfl | rfl | rfl <;> rfl
theorem xz4 {K : PySem.W.Frag} {H : Hp} {x : V} {t : String} (h : ym2 H x = some t) : TyOf K H x (.type t) /\ t ∈ kinds := by
  cases x with
  | non => cases h; exact ⟨.non, by decide⟩
  | bl b => cases h; exact ⟨.bl b, by decide⟩
  | int i => cases h; exact ⟨.int i, by decide⟩
  | str x => cases h; exact ⟨.str x, by decide⟩
  | ref a =>
    have h' : (match H a with
      | some (.lst _) => some "list"
      | some (.frz _ (.lst _)) => some "list"
      | some (.tup _) => some "tuple"
      | some (.dK _) => some "dict"
      | _ => none) = some t := h
    cases e : H a with
    | none => rw [e] at h'; cases h'
    | some o =>
      rw [e] at h'
      cases o with
      | lst xs => cases h'; exact ⟨.lst e, by decide⟩
      | tup xs => cases h'; exact ⟨.tup e, by decide⟩
      | dK kvs => cases h'; exact ⟨.dK e, by decide⟩
      | frz ob u =>
        cases u with
        | lst xs => cases h'; exact ⟨.frz e, by decide⟩
        | _ => cases h'
      | _ => cases h'
  | _ => cases h
section
variable {X : Cx}
theorem wf6 : zl2 X (.builtin "isinstance") (fun xs H Q => ∃ x c t, xs = [x, .ty c] /\ ym2 H x = some t /\ c ∈ ["bool", "int", "str", "list", "tuple", "dict"] /\ Q (.bl (zj4 t c)) H) := by
  intro pins s σ H xs us Q I r h
  obtain ⟨x, c, t, rfl, ht, hc, q⟩ := h
  obtain ⟨u, v, rfl, rx, rc⟩ := xf5 r
  cases (show v = Value.type c from rc)
  obtain ⟨ty, hk⟩ := xz4 (K := X.K) ht
  exact xy5 I rx ty (xh5 X.K t hk c hc) fun tk => ⟨.bl (zj4 t c), H, I.tok tk, rfl, q⟩
noncomputable def sLt (i j : Str) : Bool := decide (i.cps.toList < j.cps.toList)
theorem xz5 : OpR X (compareOp .LtE) (fun x y H Q => ∃ i j, x = .str i /\ y = .str j /\ Q (.bl (!sLt j i)) H) := by
  intro pins s σ H x y v u Q I rx ry h
  obtain ⟨i, j, rfl, rfl, q⟩ := h
  obtain ⟨t, rfl⟩ := rx
  obtain ⟨t', rfl⟩ := ry
  exact PySem.P.le_str (zj6 I q rfl)
theorem xd1 : ∀ {bs : List Bool} {us : List Value}, zf5 (bs.map V.bl) us -> LSm.BoolsAre us bs
  | [], _, .nil => .nil
  | b :: bs, _, .cons r t => by
    cases (show _ = Value.bool b from r)
    exact .cons b (xd1 t)
theorem xz6 (hc : X.calm = true) : zl2 X (.builtin "all") (fun xs H Q => ∃ (a : Addr) (bs : List Bool), xs = [.ref a] /\ SqL X.K H a (bs.map V.bl) /\ Q (.bl (bs.all id)) H) := by
  intro pins s σ H xs us Q I r h
  obtain ⟨a, bs, rfl, hq, q⟩ := h
  obtain ⟨u, rfl, rx⟩ := yf0 r
  cases (show u = Value.ref a from rx)
  obtain ⟨its, rv, p, hz⟩ := I.list hq
  have hl := p.isList
  have hb := xd1 rv
  have hlt : a < s.heap.objs.size := by obtain ⟨_, e, _⟩ := hl; exact Heap.lt_size e
  refine call_all_walk (wpAny_pyIter_list hl ?_)
  refine ⟨s.heap.objs.size, [s.heap.objs.size, a], [s.heap.objs.size], its.toArray.size, _, _, fun i => (bs[i]?).getD true, rfl, Walks.list (A := X.A.in1) (I.ok.hd hc) _ a (Nat.ne_of_lt hlt) its.toArray,
    ⟨⟨_, Heap.get?_push_size _ rfl, rfl, rfl⟩, hl.push _⟩, fun i v s' Q' E' hP hQ => ?_, fun h' tk hk => ?_⟩
  . obtain ⟨b, e, rfl⟩ := hb.get i v (by simpa using hP)
    simp only [e, Option.getD_some] at hQ
    exact wpAny_truthy_bool hQ
  . have e : ((List.range its.toArray.size).all fun i => (bs[i]?).getD true) = bs.all id := by
      rw [List.size_toArray, hb.length]; exact LSm.range_all bs
    rw [e]
    exact ⟨.bl (bs.all id), H, I.kept (LSm.kept_iter hk), rfl, q⟩
end
end L2
namespace L2
open PySem PySem.Spec PyProof.Rows
theorem ym6 {env : Env} : ∀ (names : List (Str × NameKind)) (cs : List (Str × Addr)),
    (∀ y ∈ names, y.2 = .free -> ∃ c, env.cells.lookup y.1 = some c) -> (∀ x c, cs.lookup x = some c -> env.cells.lookup x = some c) ->
    ∃ cl, (forIn names cs fun (y : Str × NameKind) (r : List (Str × Addr)) =>
        (if (y.2 == .free) = true then (do let a <- cellOf env y.1; pure (ForInStep.yield ((y.1, a) :: r))) else pure (ForInStep.yield r) : Sem (ForInStep (List (Str × Addr))))) = pure cl /\
      (∀ x c, cl.lookup x = some c -> env.cells.lookup x = some c) /\ (∀ x c, cs.lookup x = some c -> ∃ c', cl.lookup x = some c') /\ (∀ y ∈ names, y.2 = .free -> ∃ c, cl.lookup y.1 = some c)
  | [], cs, _, hc => ⟨cs, rfl, hc, fun x c h => ⟨c, h⟩, fun y hy => absurd hy (List.not_mem_nil)⟩
  | (n, k) :: r, cs, hn, hc => by
    have hr : ∀ y ∈ r, y.2 = .free -> ∃ c, env.cells.lookup y.1 = some c := fun y hy => hn y (List.mem_cons_of_mem _ hy)
    by_cases hk : k = .free
    . subst hk
      obtain ⟨c, e⟩ := hn (n, .free) List.mem_cons_self rfl
      have hc' : ∀ x c', ((n, c) :: cs).lookup x = some c' -> env.cells.lookup x = some c' := fun x c' h => by
        rw [List.lookup_cons] at h
        cases hx : x == n with
        | true =>
          rw [hx] at h
          have e1 : x = n := by simpa using hx
          have e2 : c = c' := Option.some.inj h
          rw [e1, <- e2]; exact e
        | false => rw [hx] at h; exact hc x c' h
      obtain ⟨cl, h1, h2, h3, h4⟩ := ym6 (env := env) r ((n, c) :: cs) hr hc'
      refine ⟨cl, ?_, h2, fun x c' h => ?_, fun y hy hf => ?_⟩
      . rw [List.forIn_cons]
        have e0 : cellOf env n = pure c := by unfold cellOf; rw [e]
        simp only [e0]
        exact h1
      . cases hx : x == n with
        | true =>
          have e1 : x = n := by simpa using hx
          exact h3 x c (by rw [List.lookup_cons, hx])
        | false => exact h3 x c' (by rw [List.lookup_cons, hx]; exact h)
      . rcases List.mem_cons.mp hy with e1 | hy
        . rw [e1]; exact h3 n c (by rw [List.lookup_cons]; simp)
        . exact h4 y hy hf
    . obtain ⟨cl, h1, h2, h3, h4⟩ := ym6 (env := env) r cs hr hc
      refine ⟨cl, ?_, h2, h3, fun y hy hf => ?_⟩
      . rw [List.forIn_cons]
        have e0 : (k == NameKind.free) = false := by simpa using hk
        simp only [e0]
        exact h1
      . rcases List.mem_cons.mp hy with e1 | hy
        . rw [e1] at hf; exact absurd hf hk
        . exact h4 y hy hf
theorem xt6 {env : Env} {scope : Scope} (h : ∀ y ∈ scope.names, y.2 = .free -> ∃ c, env.cells.lookup y.1 = some c) :
    ∃ cl, closureFor scope env = pure cl /\ (∀ x c, cl.lookup x = some c -> env.cells.lookup x = some c) /\ (∀ y ∈ scope.names, y.2 = .free -> ∃ c, cl.lookup y.1 = some c) := by
  obtain ⟨cl, h1, h2, _, h4⟩ := ym6 (env := env) scope.names [] h (fun x c e => by simp at e)
  refine ⟨cl, ?_, h2, h4⟩
  have e : ((forIn scope.names [] fun (y : Str × NameKind) (r : List (Str × Addr)) =>
        (if (y.2 == .free) = true then (do let a <- cellOf env y.1; pure (ForInStep.yield ((y.1, a) :: r))) else pure (ForInStep.yield r) : Sem (ForInStep (List (Str × Addr))))) >>= fun s => pure s) = pure cl := by rw [h1]; rfl
  exact e
structure CScope (sc : Scope) (NX N : List Str) (pick : List (Option Nat)) (scope : Scope) : Prop where
  kind : scope.kind = .function
  nocell : ∀ y ∈ scope.names, y.2 ≠ .cell
  names : ∀ y ∈ scope.names, y.2 = .local -> scope.names.lookup y.1 = some .local
  frees : ∀ y ∈ scope.names, y.2 = .free -> sc.names.lookup y.1 = some .cell \/ sc.names.lookup y.1 = some .free
  pk : ∀ p ∈ N.zip pick, ∀ j ∈ p.2, NX[j]? = some p.1 /\ scope.names.lookup p.1 = some .free
  nd : N.Nodup
  len : pick.length = N.length
noncomputable def yg3 (pick : List (Option Nat)) (σ : St) : St := pick.map fun o => o.bind fun j => (σ[j]?).join
noncomputable def cxB (X : Cx) (N : List Str) (scope : Scope) (cl : List (Str × Addr)) (fp : List Addr) (s : Shared) (H : Hp) : Cx where
  prog := X.prog
  w := X.w
  K := X.K
  mg := X.mg
  base := X.base
  A := X.A
  N := N
  s₀ := s
  H₀ := H
  env := compEnvC scope cl s.heap.objs.size X.env
  outer := X.stack
  stack := X.stack
  ex := fp
  fn := fun _ => false
  calm := X.calm
  pn := []
  xe := fun _ _ => False
noncomputable def PTs (X : Cx) (ifs : List Expr) (t : TT) : Prop :=
  ∀ (pins : List (Addr × Obj)) (s : Shared) (σ : St) (H : Hp) (Q : Bool -> Hp -> Prop), Inv X pins σ H s -> t σ H Q ->
    wpAny (model X.prog X.w) X.A (forIn ifs true fun c r => if r = true then do let ok <- isTrue c X.env (eval c X.env); pure (ForInStep.yield ok) else pure (ForInStep.yield r)) (TP X pins σ Q) X.xe s
noncomputable def kb2 : TT := fun _ H Q => Q true H
theorem wr3 {X : Cx} : PTs X [] kb2 := fun pins s σ H Q I h => wpAny_tests_nil ⟨H, I, h⟩
section
variable {prog : Program} {w : World} {A : Around} {R : Result -> Shared -> Prop} {s : Shared}
theorem xz7 {elt target iter : Expr} {ifs : List Expr} {scope : Scope} {pos : Pos} {it acc : Value} {env : Env} (I : Nat -> Shared -> Prop)
    (turn : ∀ n s, I n s -> wpAny (model prog w) A (pyNext it) (fun r s1 => match r with
      | none => R (.ok .next) s1
      | some v => wpAny (model prog w) A (letOwnedTupleGo target it v) (fun _ s1 => wpAny (model prog w) A (assign target env v) (fun _ s2 =>
          wpAny (model prog w) A (forIn ifs true fun c r => if r = true then do let ok <- isTrue c env (eval c env); pure (ForInStep.yield ok) else pure (ForInStep.yield r)) (fun ok s3 =>
            if ok = true then wpAny (model prog w) A (eval elt env) (fun x s4 =>
              wpAny (model prog w) A (call (.builtin "list.append") [acc, x]) (fun _ s5 => ∃ m, m < n /\ I m s5) (fun _ _ => False) s4) (fun _ _ => False) s3
            else ∃ m, m < n /\ I m s3) (fun _ _ => False) s2) (fun _ _ => False) s1) (fun _ _ => False) s1) (fun _ _ => False) s)
    (n : Nat) (h : I n s) : codeAny (model prog w) A (.compLoop (.ListComp elt [⟨target, iter, ifs, 0⟩] scope pos) 0 it acc env) R s := by
  refine codeAny_loop rfl I (fun n s hI => ?_) n h
  show wpAny _ A ((compTurn (.ListComp elt [⟨target, iter, ifs, 0⟩] scope pos) 0 it acc env).onRaise (fun x => do noteFrame x env; theTreesLotGoes x)) _ _ s
  refine wpAny_noted ?_
  rw [compTurn_list]
  refine wpAny_bind (wpAny_standAt (wpAny_bind (wpAny_mono (turn n s hI) (fun r s1 h1 => ?_) fun _ _ z => z.elim)))
  cases r with
  | none => exact wpAny_pure h1
  | some v =>
    refine wpAny_bind (wpAny_mono h1 (fun _ s1 h1 => wpAny_bind (wpAny_mono h1 (fun _ s2 h2 => wpAny_bind (wpAny_mono h2 (fun ok s3 h3 => ?_) fun _ _ z => z.elim)) fun _ _ z => z.elim)) fun _ _ z => z.elim)
    cases ok with
    | false => exact wpAny_pure ⟨rfl, h3⟩
    | true =>
      exact wpAny_bind (wpAny_bind (wpAny_mono h3 (fun x s4 h4 => wpAny_bind (wpAny_mono h4 (fun _ s5 h5 => wpAny_pure (wpAny_pure ⟨rfl, h5⟩)) fun _ _ z => z.elim)) fun _ _ z => z.elim))
end
noncomputable def wv2 (pick : List (Option Nat)) (wi : TI) (g : TG) (tt : TT) (te : TE) (σ : St) (H : Hp) (Q : Addr -> Hp -> Prop) : Prop := wi σ H fun J H1 => ∀ D, H1 D = none ->
  ∃ W : Nat -> Nat -> St -> Hp -> Prop, (∃ m, W 0 m (yg3 pick σ) (upd H1 D (.lst []))) /\ ∀ i m σ' H', W i m σ' H' ->
    (J.stop i H' /\ Q D H') \/ (J.go i H' /\ ∀ x H2, J.yld i H' x H2 -> g x σ' H2 fun σ3 H3 => tt σ3 H3 fun b H4 =>
      if b = true then te σ3 H4 fun y H5 => ∃ ys, H5 D = some (.lst ys) /\ ys.length < sizeLine /\ ∃ m', m' < m /\ W (i + 1) m' σ3 (upd H5 D (.lst (ys ++ [y]))) else ∃ m', m' < m /\ W (i + 1) m' σ3 H4)
noncomputable def wy2 (pick : List (Option Nat)) (wi : TI) (g : TG) (tt : TT) (te : TE) : TE := fun σ H Q => wv2 pick wi g tt te σ H fun D H' => Q (.ref D) H'
section
variable {X : Cx} {sc : Scope} {NX N : List Str} {pick : List (Option Nat)} {elt tg iter : Expr} {ifs : List Expr} {scope : Scope} {pos : Pos} {wi : TI} {g : TG} {tt : TT} {te : TE}
theorem zs9 {env : Env} : ∀ {names : List (Str × NameKind)} {x : Str} {k : NameKind}, (∀ y ∈ names, y.2 ≠ .cell) ->
    (names.map fun (n, k) => if (k == NameKind.free && env.scope.kind == .function && env.kindOf n == some .cell) then (n, NameKind.cell) else (n, k)).lookup x = some k -> (k = .cell \/ k = .free) -> (x, NameKind.free) ∈ names
  | [], _, _, _, h, _ => by simp at h
  | (n, k0) :: r, x, k, hn, h, hk => by
    have hr : ∀ y ∈ r, y.2 ≠ .cell := fun y hy => hn y (List.mem_cons_of_mem _ hy)
    have h' : List.lookup x ((if (k0 == NameKind.free && env.scope.kind == .function && env.kindOf n == some .cell) = true then (n, NameKind.cell) else (n, k0)) :: (r.map fun (n, k) => if (k == NameKind.free && env.scope.kind == .function && env.kindOf n == some .cell) then (n, NameKind.cell) else (n, k))) = some k := h
    by_cases hc : (k0 == NameKind.free && env.scope.kind == .function && env.kindOf n == some .cell) = true
    . rw [if_pos hc, List.lookup_cons] at h'
      cases hx : x == n with
      | true =>
        have e1 : x = n := by simpa using hx
        have e2 : k0 = .free := by
          simp only [Bool.and_eq_true, beq_iff_eq] at hc
          exact hc.1.1
        rw [e1, e2]; exact List.mem_cons_self
      | false => rw [hx] at h'; exact List.mem_cons_of_mem _ (zs9 hr h' hk)
    . rw [if_neg hc, List.lookup_cons] at h'
      cases hx : x == n with
      | true =>
        rw [hx] at h'
        have e1 : x = n := by simpa using hx
        have e2 : k0 = k := Option.some.inj h'
        have e3 : k0 = .free := by
          rcases hk with z | z
          . exact absurd (e2.trans z) (hn (n, k0) List.mem_cons_self)
          . exact e2.trans z
        rw [e1, e3]; exact List.mem_cons_self
      | false => rw [hx] at h'; exact List.mem_cons_of_mem _ (zs9 hr h' hk)
theorem yj2 {env : Env} : ∀ {names : List (Str × NameKind)} {x : Str}, names.lookup x = some .free ->
    (names.map fun (n, k) => if (k == NameKind.free && env.scope.kind == .function && env.kindOf n == some .cell) then (n, NameKind.cell) else (n, k)).lookup x = some .cell \/
    (names.map fun (n, k) => if (k == NameKind.free && env.scope.kind == .function && env.kindOf n == some .cell) then (n, NameKind.cell) else (n, k)).lookup x = some .free
  | [], _, h => by simp at h
  | (n, k0) :: r, x, h => by
    have ih := @yj2 env r x
    show List.lookup x ((if (k0 == NameKind.free && env.scope.kind == .function && env.kindOf n == some .cell) = true then (n, NameKind.cell) else (n, k0)) :: _) = _ \/ List.lookup x ((if (k0 == NameKind.free && env.scope.kind == .function && env.kindOf n == some .cell) = true then (n, NameKind.cell) else (n, k0)) :: _) = _
    rw [List.lookup_cons] at h
    cases hx : x == n with
    | true =>
      rw [hx] at h
      have e : k0 = .free := Option.some.inj h
      subst e
      by_cases hc : (NameKind.free == NameKind.free && env.scope.kind == .function && env.kindOf n == some .cell) = true
      . rw [if_pos hc]; left; rw [List.lookup_cons, hx]
      . rw [if_neg hc]; right; rw [List.lookup_cons, hx]
    | false =>
      rw [hx] at h
      rcases ih h with z | z
      . left
        by_cases hc : (k0 == NameKind.free && env.scope.kind == .function && env.kindOf n == some .cell) = true
        . rw [if_pos hc, List.lookup_cons, hx]; exact z
        . rw [if_neg hc, List.lookup_cons, hx]; exact z
      . right
        by_cases hc : (k0 == NameKind.free && env.scope.kind == .function && env.kindOf n == some .cell) = true
        . rw [if_pos hc, List.lookup_cons, hx]; exact z
        . rw [if_neg hc, List.lookup_cons, hx]; exact z
theorem xz8 {pins : List (Addr × Obj)} {σ : St} {H : Hp} {s : Shared} {cl : List (Str × Addr)} {fp : List Addr} {h' : Heap} {tk : Nat} (S : CScope sc NX N pick scope) (hsc : X.env.scope = sc) (hNX : X.N = NX)
    (I : Inv X pins σ H s) (hf : ∀ b ∈ fp, yi9 X pins H b) (ho : ∀ b ∈ fp, ∃ o, s.heap.get? b = some o)
    (c1 : ∀ x c, cl.lookup x = some c -> X.env.cells.lookup x = some c) (c2 : ∀ y ∈ scope.names, y.2 = .free -> ∃ c, cl.lookup y.1 = some c)
    (hns : h'.Ns s.heap.objs.size fun _ => none) (hk : ∀ b o, s.heap.get? b = some o -> h'.get? b = some o) :
    Inv (cxB X N scope cl fp s H) [] (yg3 pick σ) H { s with heap := h', toks := tk } := by
  have lt : ∀ b ∈ fp, b < s.heap.objs.size := fun b hb => by obtain ⟨o, e⟩ := ho b hb; exact Heap.lt_size e
  refine ⟨⟨I.ok.mod, S.kind, I.ok.glob, I.ok.blt, Nat.le_refl _, fun x y c h1 h2 => I.ok.inj x y c (c1 x c h1) (c1 y c h2), fun x hx => ?_, fun x c z => absurd z (by simp [cxB]), I.ok.hd, I.ok.frames, .inl rfl,
    fun b hb => ⟨Nat.ne_of_lt (lt b hb), fun x c e => (hf b hb).2.2.2.2.1 x c (c1 x c e)⟩, I.bs, Nat.le_trans I.ok.bsz I.sz, fun b o e hb => ?_, fun b hb z => ?_, I.stack, I.stkFree⟩,
    rfl, I.bare, Un.kept hk, ⟨_, hns, fun i x v h1 h2 h3 => ?_⟩, fun x c e => ?_, I.hok.fresh (Nat.le_refl _), fun x c e => I.freeC x c (c1 x c e), fun p hp => absurd (show p ∈ ([] : List (Addr × Obj)) from hp) (by simp), I.hok.kept hk, ?_⟩
  . have hx' : (relabel scope X.env).names.lookup x = some .cell \/ (relabel scope X.env).names.lookup x = some .free := hx
    have hm : (x, NameKind.free) ∈ scope.names := by
      rcases hx' with z | z
      . exact zs9 S.nocell z (.inl rfl)
      . exact zs9 S.nocell z (.inr rfl)
    exact c2 _ hm rfl
  . rcases (hf b hb).2.2.2.1 with z | z
    . exact I.ok.noex b o e z
    . exact absurd (Nat.lt_of_lt_of_le (Heap.lt_size e) (Nat.le_trans I.ok.bsz z)) (Nat.lt_irrefl _)
  . rcases List.mem_cons.mp (I.stkSub b z) with z | z
    . exact (hf b hb).2.1 z
    . exact (hf b hb).2.2.1 z
  ·
    have hN' : N[i]? = some x := h1
    have h2' : (yg3 pick σ)[i]? = some (some v) := h2
    unfold yg3 at h2'
    rw [List.getElem?_map] at h2'
    cases ep : pick[i]? with
    | none => rw [ep] at h2'; cases h2'
    | some o =>
      rw [ep] at h2'
      cases o with
      | none => cases h2'
      | some j =>
        have h4 : (σ[j]?).join = some v := Option.some.inj h2'
        have h5 : σ[j]? = some (some v) := by
          cases e : σ[j]? with
          | none => rw [e] at h4; cases h4
          | some q => rw [e] at h4; exact congrArg some h4
        have hz : (x, some j) ∈ N.zip pick := by
          refine List.mem_of_getElem? (i := i) ?_
          rw [List.getElem?_zip_eq_some]; exact ⟨hN', ep⟩
        obtain ⟨h6, h7⟩ := S.pk _ hz j rfl
        have hfr : (x, NameKind.free) ∈ scope.names := PySem.mem_of_lookup h7
        have hcf := S.frees _ hfr rfl
        have hcf' : X.env.kindOf x = some .cell \/ X.env.kindOf x = some .free := by
          show X.env.scope.names.lookup x = _ \/ X.env.scope.names.lookup x = _
          rw [hsc]; exact hcf
        obtain ⟨m, hn, hl⟩ := I.loc
        obtain ⟨u, ru, lk⟩ := hl j x v (by rw [hNX]; exact h6) h5 (.inr hcf')
        refine ⟨u, ru, .inr ⟨yj2 h7, ?_⟩⟩
        obtain ⟨c, ec⟩ := c2 _ hfr rfl
        refine ⟨c, ec, ?_⟩
        rcases lk with ⟨k1, _⟩ | ⟨_, c', ec', hcell⟩
        . rcases hcf' with z | z
          . rw [k1] at z; cases z
          . rw [k1] at z; cases z
        . have e' := c1 x c ec
          rw [ec'] at e'
          cases e'
          obtain ⟨o, e1, e2⟩ := hcell
          exact ⟨o, hk _ _ e1, e2⟩
  . obtain ⟨v, o, e1, e2⟩ := I.cell x c (c1 x c e)
    exact ⟨v, o, hk _ _ e1, e2⟩
  . show (yg3 pick σ).length = N.length
    unfold yg3
    rw [List.length_map]; exact S.len
theorem xt7 {pins : List (Addr × Obj)} {σ σ' : St} {H H' : Hp} {s s' : Shared} {cl : List (Str × Addr)} {fp : List Addr} (I : Inv X pins σ H s) (hf : ∀ b ∈ fp, yi9 X pins H b)
    (J : Inv (cxB X N scope cl fp s H) [] σ' H' s') : Inv X pins σ H' s' :=
  I.call' (ch := fp) J.os J.base J.hok J.bare fun b hb => ⟨(hf b hb).2.2.2.1, (hf b hb).2.1, (hf b hb).2.2.2.2.1, (hf b hb).2.2.2.2.2⟩
theorem xt8 {pins : List (Addr × Obj)} {σ : St} {H2 : Hp} {s2 : Shared} {cl : List (Str × Addr)} {J : It} {fp : List Addr} {it : Addr} {tn : Nat -> Heap -> Prop} {RR : Value -> Addr -> Result -> Shared -> Prop} {E : Value -> Shared -> Prop} {Q : Addr -> Hp -> Prop}
    (S : CScope sc NX N pick scope) (hsc : X.env.scope = sc) (hNX : X.N = NX) (hc : X.calm = true)
    (hg : ∀ cl fp s H, PG (cxB X N scope cl fp s H) tg g) (ht : ∀ cl fp s H, PTs (cxB X N scope cl fp s H) ifs tt) (he : ∀ cl fp s H, PE (cxB X N scope cl fp s H) elt te)
    (I2 : Inv X pins σ H2 s2) (T : Turn X.prog X.w X.K tg J fp it tn) (st2 : tn 0 s2.heap) (f2 : ∀ b ∈ fp, yi9 X pins H2 b)
    (c1 : ∀ x c, cl.lookup x = some c -> X.env.cells.lookup x = some c) (c2 : ∀ y ∈ scope.names, y.2 = .free -> ∃ c, cl.lookup y.1 = some c)
    (q : ∀ D, H2 D = none -> ∃ W : Nat -> Nat -> St -> Hp -> Prop, (∃ m, W 0 m (yg3 pick σ) (upd H2 D (.lst []))) /\ ∀ i m σ' H', W i m σ' H' ->
      (J.stop i H' /\ Q D H') \/ (J.go i H' /\ ∀ x H2, J.yld i H' x H2 -> g x σ' H2 fun σ3 H3 => tt σ3 H3 fun b H4 =>
        if b = true then te σ3 H4 fun y H5 => ∃ ys, H5 D = some (.lst ys) /\ ys.length < sizeLine /\ ∃ m', m' < m /\ W (i + 1) m' σ3 (upd H5 D (.lst (ys ++ [y]))) else ∃ m', m' < m /\ W (i + 1) m' σ3 H4))
    (fin : ∀ D C H' s', Inv X pins σ H' s' -> H' C = none -> X.s₀.heap.objs.size <= C -> C ≠ X.env.locals -> (∀ x c, X.env.cells.lookup x = some c -> c ≠ C) -> (∀ p ∈ X.pn ++ pins, p.1 ≠ C) -> (∃ m, s'.heap.Ns C m) -> Q D H' -> RR (.ref D) C (.ok .next) s') :
    wpAny (model X.prog X.w) X.A (newList []) (fun acc s3 => wpAny (model X.prog X.w) X.A (newFunctionEnv scope X.env.globals cl [] X.env.qual none .none (some X.env)) (fun cenv s4 =>
      codeAny (model X.prog X.w) X.A (.compStart (.ListComp elt [⟨tg, iter, ifs, 0⟩] scope pos) 0 (.ref it) acc { cenv with scope := relabel scope X.env }) (RR acc cenv.locals) s4) E s3) E s2 := by
  have hD : H2 s2.heap.objs.size = none := I2.hok.fresh (Nat.le_refl _)
  obtain ⟨W, ⟨m0, w0⟩, turn⟩ := q _ hD
  refine wpAny_newObj_type (wpAny_newFunctionEnv S.nocell (by intro y hy; simp at hy) (fun h1 hns hsb => ?_) S.kind)
  have I3 : Inv X pins σ (upd H2 s2.heap.objs.size (.lst [])) { s2 with heap := s2.heap.push { cls := .type "list", dict := none, data := .seq ([] : List Value).toArray } } :=
    I2.lnew (t' := s2.toks) (its := []) (ys := []) .nil (Nat.zero_le _)
  have ne : ∀ b ∈ fp, b ≠ s2.heap.objs.size := fun b hb z => by
    obtain ⟨o, e, _⟩ := T.obj _ _ st2 b hb
    exact absurd (Heap.lt_size e) (by rw [z]; exact Nat.lt_irrefl _)
  have f3 : ∀ b ∈ fp, yi9 X pins (upd H2 s2.heap.objs.size (.lst [])) b := fun b hb => ⟨by rw [zi0 (ne b hb)]; exact (f2 b hb).1, (f2 b hb).2⟩
  have ho3 : ∀ b ∈ fp, ∀ o, s2.heap.get? b = some o -> (s2.heap.push { cls := .type "list", dict := none, data := .seq ([] : List Value).toArray }).get? b = some o := fun b _ o e => Heap.get?_push_of_some _ e
  have st3 := T.keep _ _ _ st2 ho3
  generalize hH3 : s2.heap.push { cls := .type "list", dict := none, data := .seq ([] : List Value).toArray } = H3 at hns hsb I3 ho3 st3 |-
  dsimp only at hns hsb |-
  have hk : ∀ b o, H3.get? b = some o -> h1.get? b = some o := fun b o e => hsb.extBut b o (Nat.ne_of_lt (Heap.lt_size e)) (Heap.get?_push_of_some _ e)
  have B0 : Inv (cxB X N scope cl fp { s2 with heap := H3 } (upd H2 s2.heap.objs.size (.lst []))) [] (yg3 pick σ) (upd H2 s2.heap.objs.size (.lst [])) { s2 with heap := h1, toks := s2.toks + ([] : List (Str × Value)).length } :=
    xz8 (s := { s2 with heap := H3 }) S hsc hNX I3 f3 (fun b hb => by obtain ⟨o, e, _⟩ := T.obj _ _ st3 b hb; exact ⟨o, e⟩) c1 c2 hns hk
  have st4 : tn 0 h1 := T.keep _ _ _ st3 fun b _ o e => hk b o e
  have fpY : ∀ {H' : Hp}, (∀ b ∈ fp, H' b = none) -> ∀ b ∈ fp, yi9 (cxB X N scope cl fp { s2 with heap := H3 } (upd H2 s2.heap.objs.size (.lst []))) [] H' b := fun hn b hb =>
    ⟨hn b hb, (B0.ok.exf b hb).1, B0.ok.exfs b hb, .inl hb, (B0.ok.exf b hb).2, fun p hp => absurd (show p ∈ ([] : List (Addr × Obj)) from hp) (by simp)⟩
  have loop : ∀ s4 : Shared, s4 = { s2 with heap := h1, toks := s2.toks + ([] : List (Str × Value)).length } ->
      codeAny (model X.prog X.w) X.A (.compLoop (.ListComp elt [⟨tg, iter, ifs, 0⟩] scope pos) 0 (.ref it) (.ref s2.heap.objs.size) (compEnvC scope cl H3.objs.size X.env)) (RR (.ref s2.heap.objs.size) H3.objs.size) s4 := by
    rintro s4 rfl
    refine xz7 (fun n s' => ∃ i σ' H', Inv (cxB X N scope cl fp { s2 with heap := H3 } (upd H2 s2.heap.objs.size (.lst []))) [] σ' H' s' /\ tn i s'.heap /\ (∀ b ∈ fp, H' b = none) /\ W i n σ' H') ?_ m0
      ⟨0, _, _, B0, st4, fun b hb => (f3 b hb).1, w0⟩
    rintro n s5 ⟨i, σ5, H5, I5, st5, fr5, w5⟩
    rcases turn i n σ5 H5 w5 with ⟨stop, qn⟩ | ⟨go, step⟩
    . refine thn (T.done (cxB X N scope cl fp { s2 with heap := H3 } (upd H2 s2.heap.objs.size (.lst []))) rfl rfl rfl hc i [] s5 σ5 H5 _ I5 (fpY fr5) st5 stop) fun r s6 ⟨hr, I6⟩ => ?_
      subst hr
      obtain ⟨m, hm, _⟩ := I6.loc
      have sz : X.s₀.heap.objs.size <= H3.objs.size := I3.sz
      refine fin _ _ H5 s6 (xt7 I3 f3 I6) I6.free sz (Nat.ne_of_gt I3.lt) (fun x c e z => ?_) (fun p hp z => ?_) ⟨m, hm⟩ qn
      . obtain ⟨v, z2⟩ := I3.cell x c e
        exact absurd z2.lt (by rw [z]; exact Nat.lt_irrefl _)
      . exact absurd (Heap.lt_size (I3.pin p hp).1) (by rw [z]; exact Nat.lt_irrefl _)
    . refine thn (T.item (cxB X N scope cl fp { s2 with heap := H3 } (upd H2 s2.heap.objs.size (.lst []))) rfl rfl rfl hc i [] s5 σ5 H5 _ I5 (fpY fr5) st5 go) fun r s6 ⟨u, hr, h6⟩ => ?_
      subst hr
      refine thn h6 fun _ s7 ⟨x, H7, I7, r7, y7, st7, fr7⟩ => ?_
      have I7' := I7.pinned (fpY fr7) (T.obj _ _ st7)
      have back : ∀ {σ8 : St} {H8 : Hp} {s8 : Shared}, Inv (cxB X N scope cl fp { s2 with heap := H3 } (upd H2 s2.heap.objs.size (.lst []))) ([] ++ ym1 fp s7.heap) σ8 H8 s8 ->
          tn (i + 1) s8.heap /\ ∀ b ∈ fp, H8 b = none := fun {σ8 H8 s8} I8 => by
        refine ⟨T.keep _ _ _ st7 fun b hb o e => (I8.pin (b, o) (List.mem_append_right _ (List.mem_append_right _ (yg6 hb e)))).1, fun b hb => ?_⟩
        obtain ⟨o, e, d⟩ := T.obj _ _ st7 b hb
        exact (I8.pin (b, o) (List.mem_append_right _ (List.mem_append_right _ (yg6 hb e)))).2.1
      refine thn (hg _ _ _ _ _ s7 σ5 H7 x u _ I7' r7 (step x H7 y7)) fun _ s8 ⟨σ8, H8, I8, q8⟩ => ?_
      refine thn (ht _ _ _ _ _ s8 σ8 H8 _ I8 q8) fun ok s9 ⟨H9, I9, q9⟩ => ?_
      cases ok with
      | false =>
        rw [if_neg (by decide)] at q9 |-
        obtain ⟨m', hm, w9⟩ := q9
        obtain ⟨b1, b2⟩ := back I9
        exact ⟨m', hm, i + 1, σ8, H9, I9.unpinned, b1, b2, w9⟩
      | true =>
        rw [if_pos rfl] at q9 |-
        refine thn (he _ _ _ _ _ s9 σ8 H9 _ I9 q9) fun v s10 ⟨y, H10, I10, ry, ys, hys, hlen, m', hm, w10⟩ => ?_
        have ap := xc8 (X := cxB X N scope cl fp { s2 with heap := H3 } (upd H2 s2.heap.objs.size (.lst []))) ([] ++ ym1 fp s7.heap) s10 σ8 H10 (.ref s2.heap.objs.size) [y] (.ref s2.heap.objs.size) [v]
          (fun z H' => z = .non /\ H' = upd H10 s2.heap.objs.size (.lst (ys ++ [y]))) I10 rfl (.cons ry .nil) ⟨_, ys, y, rfl, rfl, hys, hlen, rfl, rfl⟩
        refine thn ap fun z s11 ⟨z', H11, I11, _, _, e11⟩ => ?_
        subst e11
        obtain ⟨b1, b2⟩ := back I11
        exact ⟨m', hm, i + 1, σ8, _, I11.unpinned, b1, b2, w10⟩
  exact codeAny_compStart_list (loop _ rfl) (T.self _ _ _ _ _ st4 (loop _ rfl))
theorem wl9 (S : CScope sc NX N pick scope) (hsc : X.env.scope = sc) (hNX : X.N = NX) (hc : X.calm = true) (hi : PI X tg iter wi)
    (hg : ∀ cl fp s H, PG (cxB X N scope cl fp s H) tg g) (ht : ∀ cl fp s H, PTs (cxB X N scope cl fp s H) ifs tt) (he : ∀ cl fp s H, PE (cxB X N scope cl fp s H) elt te)
    (hs : ∀ x, foldedSetIterable iter X.env x = pure x := by intro _; rfl) : PE X (.ListComp elt [⟨tg, iter, ifs, 0⟩] scope pos) (wy2 pick wi g tt te) := by
  intro pins s σ H Q I h
  rw [eval_ListComp]
  have hfr : ∀ y ∈ scope.names, y.2 = .free -> ∃ c, X.env.cells.lookup y.1 = some c := fun y hy hf => I.ok.has y.1 (by
    show X.env.scope.names.lookup y.1 = _ \/ X.env.scope.names.lookup y.1 = _
    rw [hsc]; exact S.frees y hy hf)
  obtain ⟨cl, hcl, c1, c2⟩ := xt6 hfr
  refine wpAny_comprehension_free (use := none) rfl hs hcl S.kind S.names (thn (hi pins s σ H _ I h) fun v s1 h1 => thn h1 fun itv s2 h2 => ?_)
  obtain ⟨it, fp, tn, J, H2, e, I2, T, st2, f2, q⟩ := h2
  subst e
  refine xt8 (RR := fun acc C => compPost (model X.prog X.w) X.A X.xe none (EP X pins σ Q) acc C) (Q := fun D H' => Q (.ref D) H') S hsc hNX hc hg ht he I2 T st2 f2 c1 c2 q ?_
  intro D C H' s' I' n1 n2 n3 n4 n5 ⟨m, hm⟩ q'
  exact ⟨m, hm, fun h' hb => ⟨.ref D, H', I'.turned (t' := s'.toks) (it := C) (fun b o hbc e => (hb.2 b hbc).trans e) n1 n3 (.inr n2) n4 n5, rfl, q'⟩⟩
end
end L2
namespace L2
open PySem PySem.Spec PyProof.Rows
noncomputable def Its (x : Str) : It := ⟨fun i _ => i < x.cps.size, fun i H v H' => H' = H /\ ∃ c, x.cps[i]? = some c /\ v = .str ⟨#[c]⟩, fun i _ => x.cps.size <= i⟩
theorem wf7 {P : Program} {w : World} {K : PySem.W.Frag} {tg : Expr} (x : Str) (t : Tok) (it : Addr) : Turn P w K tg (Its x) [it] it (fun i h => h.IsStrIter it "str_ascii_iterator" x t i) where
  mem := by simp
  obj := fun i h st b hb => by
    have e : b = it := by simpa using hb
    subst e
    obtain ⟨o, e, c, d⟩ := st
    exact ⟨o, e, fun v z => by rw [d] at z; cases z⟩
  keep := fun i h h' st k => by
    obtain ⟨o, e, c, d⟩ := st
    exact ⟨o, k it (by simp) o e, c, d⟩
  item := by
    intro X hP hw hK hc i pins s σ H E I hf st hg
    subst hP hw hK
    have hx : x.cps[i]? = some x.cps[i] := Array.getElem?_eq_getElem hg
    obtain ⟨f0, f1, f2, f3, f4, f5⟩ := hf it (by simp)
    refine wpAny_pyNext_ascii_item st hx fun h' st' sb => ?_
    have I1 : Inv X pins σ H { s with heap := h', toks := s.toks + 1 } := I.turned (t' := s.toks + 1) (fun b o hb e => (sb.2 b hb).trans e) f0 f1 f3 f4 f5
    obtain ⟨o, e, c, d⟩ := id st'
    exact ⟨_, rfl, xf4 (s := { s with heap := h', toks := s.toks + 1 }) e c d (by decide) ⟨.str ⟨#[x.cps[i]]⟩, H, I1, ⟨_, rfl⟩, ⟨rfl, _, hx, rfl⟩, st', fun b hb => (hf b hb).1⟩⟩
  done := by
    intro X hP hw hK hc i pins s σ H E I hf st hg
    subst hP hw hK
    obtain ⟨f0, f1, f2, f3, f4, f5⟩ := hf it (by simp)
    exact wpAny_pyNext_ascii_end (I.ok.hd hc) st (Array.getElem?_eq_none hg) fun h' eb => ⟨rfl, I.turned (t' := s.toks) (fun b o hb e => eb b o hb e) f0 f1 f3 f4 f5⟩
  self := fun _ _ _ _ _ st h => wpAny_pyIter_striter_ascii st h
noncomputable def kb3 (tl : TE) : TI := fun σ H R => tl σ H fun x H1 => ∃ z, x = .str z /\ z.cps.all (· < 128) = true /\ R (Its z) H1
section
variable {X : Cx} {tg : Expr}
theorem wr4 {l : Expr} {tl : TE} (hl : PE X l tl) : PI X tg l (kb3 tl) := by
  intro pins s σ H R I h
  refine thn (hl pins s σ H _ I h) fun v s1 ⟨x, H1, I1, r1, q1⟩ => ?_
  obtain ⟨z, e, ha, q⟩ := q1
  subst e
  obtain ⟨t, rfl⟩ := r1
  refine wpAny_pyIter_ascii ha ?_
  refine ⟨s1.heap.objs.size, [s1.heap.objs.size], _, _, H1, rfl, I1.kept (t' := s1.toks) fun b o e => Heap.get?_push_of_some _ e, wf7 z t _, ⟨_, Heap.get?_push_size _ rfl, rfl, rfl⟩, fun b hb => ?_, q⟩
  have e : b = s1.heap.objs.size := by simpa using hb
  subst e
  exact I1.fpOk (Nat.le_refl _) (I1.hok.fresh (Nat.le_refl _))
theorem xd2 : ∀ (l : List (Str × Tok)), zf5 ((l.map (·.1)).map V.str) (strValues l)
  | [] => .nil
  | (x, t) :: r => .cons ⟨t, rfl⟩ (xd2 r)
theorem xh6 : ∀ {ys : List Str} {us : List Value}, zf5 (ys.map V.str) us -> StrsAre us ys
  | [], _, .nil => .nil
  | y :: ys, _, .cons r t => by
    obtain ⟨k, rfl⟩ := r
    exact .cons y k (xh6 t)
theorem wf8 : MtR X "str.split" (fun x xs H Q => ∃ z y, x = .str z /\ xs = [.str y] /\ (y.length == 0) = false /\ z.length < 1000000 /\ ∀ p, H p = none -> Q (.ref p) (upd H p (.lst ((Txt.split z y).map V.str)))) := by
  intro pins s σ H x xs v us Q I rx r h
  obtain ⟨z, y, rfl, rfl, hy, hz, q⟩ := h
  obtain ⟨t, rfl⟩ := rx
  obtain ⟨u, rfl, t', rfl⟩ := yf0 r
  have hs : sizeLine = 16777216 := sizeLine_eq
  have hsz : z.length <= sizeLine := by omega
  have hoc := StrLaws.occ_length_le_len z y 0 z.length (z.length + 1)
  have hpb : (Builtin.Str.partsBetween z (Builtin.Str.occurrences z y 0 z.length (z.length + 1)) y.length).length <= z.length + 2 := by
    unfold Builtin.Str.partsBetween
    rw [List.length_map, List.length_zip]
    simp only [List.length_cons, List.length_map, List.length_append, List.length_nil]
    omega
  have hn : H s.heap.objs.size = none := I.fresh
  have fin : ∀ (l : List (Str × Tok)) (tk : Nat), l.map (·.1) = Txt.split z y -> l.length <= sizeLine -> EP X pins σ Q (.ref s.heap.objs.size) { s with heap := s.heap.push { cls := .type "list", data := .seq (strValues l).toArray }, toks := tk } := fun l tk e hl => by
    refine ⟨.ref s.heap.objs.size, _, I.lnew (t' := tk) (ys := (l.map (·.1)).map V.str) (xd2 l) (by rw [List.length_map, List.length_map]; exact hl), rfl, ?_⟩
    rw [e]; exact q _ hn
  cases h1 : (decide (z.length < y.length) || decide (Builtin.Str.strKind z < Builtin.Str.strKind y))
  . cases hf : (Builtin.Str.occurrences z y 0 z.length (z.length + 1)).isEmpty
    . refine call_meets F.slot_str_split (typeIs_str _ _ _) F.entry_str_split (F.args_str_split_2 _ _) (meets_str_split_sep z y t t' h1 hy hf hsz (by omega)) ?_
      show wants _ _ _ { s with toks := _, heap := s.heap.push { cls := .type "list", data := .seq (strsFrom s.toks (Builtin.Str.partsBetween z (Builtin.Str.occurrences z y 0 z.length (z.length + 1)) y.length)).toArray } }
      rw [strsFrom_eq]
      refine fin (numbered s.toks _) _ ((numbered_texts _ _).trans ((if_neg (ne_true_of_eq_false h1)).trans (if_neg (ne_true_of_eq_false hf))).symm) ?_
      have e := congrArg List.length (numbered_texts s.toks (Builtin.Str.partsBetween z (Builtin.Str.occurrences z y 0 z.length (z.length + 1)) y.length))
      rw [List.length_map] at e
      omega
    . exact call_meets F.slot_str_split (typeIs_str _ _ _) F.entry_str_split (F.args_str_split_2 _ _) (meets_str_split_not_found z y t t' h1 hy hf) (fin [(z, t)] s.toks ((if_neg (ne_true_of_eq_false h1)).trans (if_pos hf)).symm (by simp; omega))
  . exact call_meets F.slot_str_split (typeIs_str _ _ _) F.entry_str_split (F.args_str_split_2 _ _) (meets_str_split_cannot_occur z y t t' h1) (fin [(z, t)] s.toks (if_pos h1).symm (by simp; omega))
theorem wm0 : MtR X "str.join" (fun x xs H Q => ∃ (z : Str) (a : Addr) (ys : List Str), x = .str z /\ xs = [.ref a] /\ SqL X.K H a (ys.map V.str) /\ z.length <= 16 /\ (ys.map (·.length)).sum + ys.length <= 1048576 /\ Q (.str (Txt.join z ys)) H) := by
  intro pins s σ H x xs v us Q I rx r h
  obtain ⟨z, a, ys, rfl, rfl, hq, hz, hw, q⟩ := h
  obtain ⟨t, rfl⟩ := rx
  obtain ⟨u, rfl, ru⟩ := yf0 r
  cases (show u = Value.ref a from ru)
  obtain ⟨its, rv, p, hl⟩ := I.list hq
  exact join_listW p.isList (by simpa using xh6 rv) hz hw fun t' k => ⟨.str _, H, I.tok k, ⟨_, rfl⟩, q⟩
end
end L2
namespace L2
open PySem PySem.Spec PyProof.Rows
section
variable {X : Cx}
theorem wr5 : SlR X (fun x lo hi H Q => ∃ z : Str, x = .str z /\ z.length <= sizeLine /\ Q (.str (Txt.slice z lo hi)) H) := by
  intro pins s σ H x v vl vu lo hi sl Q I rx hs pl pu h
  obtain ⟨z, rfl, hz, q⟩ := h
  obtain ⟨t, rfl⟩ := rx
  refine ⟨"str", _, F.slot_str_getitem.lookup, typeIs_str _ _ _, ?_⟩
  have fin : ∀ t' k, EP X pins σ Q (.str (Txt.slice z lo hi) t') { s with toks := k } := fun t' k => ⟨.str _, H, I.tok k, ⟨_, rfl⟩, q⟩
  cases pl with
  | none =>
    cases pu with
    | none => exact wpAny_getItem_str_slice (l := none) (u := none) (st := none) hs rfl (post_val_or_str ⟨Nat.le_trans (Txt.slice_le z _ _) hz, fun t' k => fin t' k⟩)
    | int j u => exact wpAny_getItem_str_slice (l := none) (u := some (j, u)) (st := none) hs rfl (post_val_or_str ⟨Nat.le_trans (Txt.slice_le z _ _) hz, fun t' k => fin t' k⟩)
  | int i u' =>
    cases pu with
    | none => exact wpAny_getItem_str_slice (l := some (i, u')) (u := none) (st := none) hs rfl (post_val_or_str ⟨Nat.le_trans (Txt.slice_le z _ _) hz, fun t' k => fin t' k⟩)
    | int j u => exact wpAny_getItem_str_slice (l := some (i, u')) (u := some (j, u)) (st := none) hs rfl (post_val_or_str ⟨Nat.le_trans (Txt.slice_le z _ _) hz, fun t' k => fin t' k⟩)
end
end L2
namespace L2
open PySem PySem.Spec PyProof.Rows
mutual
inductive Dp (K : PySem.W.Frag) (H : Hp) : V -> PyData -> Prop
  | non : Dp K H .non .none
  | bl (b : Bool) : Dp K H (.bl b) (.bool b)
  | int (i : Int) : Dp K H (.int i) (.int i)
  | str (x : Str) : Dp K H (.str x) (.str x)
  | lst {a : Addr} {xs : List V} {ds : List PyData} : SqL K H a xs -> DpAll K H xs ds -> Dp K H (.ref a) (.list ds)
  | tup {a : Addr} {xs : List V} {ds : List PyData} : SqT K H a xs -> DpAll K H xs ds -> Dp K H (.ref a) (.tuple ds)
inductive DpAll (K : PySem.W.Frag) (H : Hp) : List V -> List PyData -> Prop
  | nil : DpAll K H [] []
  | cons {v : V} {vs : List V} {d : PyData} {ds : List PyData} : Dp K H v d -> DpAll K H vs ds -> DpAll K H (v :: vs) (d :: ds)
end
section
variable {X : Cx} {pins : List (Addr × Obj)} {σ : St} {H : Hp} {s : Shared}
mutual
theorem Dp.reads (I : Inv X pins σ H s) : ∀ {v : V} {d : PyData} {u : Value}, Dp X.K H v d -> zi6 v u -> ∃ as, Reads s.heap u d as
  | _, _, u, .non, r => by cases (show u = Value.none from r); exact ⟨_, .none⟩
  | _, _, u, .bl b, r => by cases (show u = Value.bool b from r); exact ⟨_, .bool b⟩
  | _, _, u, .int i, r => by obtain ⟨t, rfl⟩ := r; exact ⟨_, .int i t⟩
  | _, _, u, .str x, r => by obtain ⟨t, rfl⟩ := r; exact ⟨_, .str x t⟩
  | _, _, u, .lst (a := a) h hs, r => by
    cases (show u = Value.ref a from r)
    obtain ⟨its, rv, p, hz⟩ := I.list h
    obtain ⟨as, ra⟩ := DpAll.reads I hs rv
    obtain ⟨o, e, c, n, d⟩ := p.isList
    exact ⟨_, .list e c d (by simpa using ra)⟩
  | _, _, u, .tup (a := a) h hs, r => by
    cases (show u = Value.ref a from r)
    obtain ⟨its, rv, p, hz⟩ := I.tuple h
    obtain ⟨as, ra⟩ := DpAll.reads I hs rv
    obtain ⟨o, e, c, n, d⟩ := p
    exact ⟨_, .tuple e c d (by simpa using ra)⟩
theorem DpAll.reads (I : Inv X pins σ H s) : ∀ {vs : List V} {ds : List PyData} {us : List Value}, DpAll X.K H vs ds -> zf5 vs us -> ∃ as, ReadsAll s.heap us ds as
  | _, _, _, .nil, .nil => ⟨_, .nil⟩
  | _, _, _, .cons h hs, .cons r rs => by
    obtain ⟨as, ra⟩ := Dp.reads I h r
    obtain ⟨bs, rb⟩ := DpAll.reads I hs rs
    exact ⟨_, .cons ra rb⟩
end
end
section
variable {X : Cx}
noncomputable def wv3 (K : PySem.W.Frag) (neg : Bool) : R2 := fun x y H Q => ∃ d e, Dp K H x d /\ Dp K H y e /\ d.canLay0 = true /\ e.canLay0 = true /\ d.depth <= 60 /\ Q (.bl (if neg then !PyData.eqv d e else PyData.eqv d e)) H
theorem wr6 (hu : X.A.units + 64 < cLine) : OpR X (compareOp .Eq) (wv3 X.K false) := by
  intro pins s σ H x y v u Q I rx ry h
  obtain ⟨d, e, hx, hy, cx, cy, dz, q⟩ := h
  obtain ⟨as, ra⟩ := hx.reads I rx
  obtain ⟨bs, rb⟩ := hy.reads I ry
  exact SeqAt.compareEq_reads ra rb cx cy (by have := Nat.min_le_left d.depth e.depth; omega) ⟨.bl _, H, I, rfl, q⟩
theorem wr7 (hu : X.A.units + 64 < cLine) : OpR X (compareOp .NotEq) (wv3 X.K true) := by
  intro pins s σ H x y v u Q I rx ry h
  obtain ⟨d, e, hx, hy, cx, cy, dz, q⟩ := h
  obtain ⟨as, ra⟩ := hx.reads I rx
  obtain ⟨bs, rb⟩ := hy.reads I ry
  exact SeqAt.compareNe_reads ra rb cx cy (by have := Nat.min_le_left d.depth e.depth; omega) ⟨.bl _, H, I, rfl, q⟩
end
end L2
namespace L2
open PySem PySem.Spec PyProof.Rows
section
variable {prog : Program} {w : World} {A : Around} {E : Value -> Shared -> Prop} {s : Shared} {env : Env}
theorem xn7 {l : Addr} {items : Array Value} {elts : List Expr} {k : Nat} {pos : Pos} {Q : Unit -> Shared -> Prop} (hh : A.handled = none) (hl : s.heap.IsList l items) (hn : (assignEach elts env).length = items.size)
    (hstar : (assignEach elts env).findIdx? (·.1) = none) (h : ∀ h', Heap.ExtBut s.heap.objs.size s.heap h' -> wpAny (model prog w) A (assignInOrder ((assignEach elts env).map (·.2)) items.toList) Q E { s with heap := h' }) :
    wpAny (model prog w) A (assign (.Tuple elts k pos) env (.ref l)) Q E s := by
  rw [assign_Tuple]
  refine wpAny_bind (wpAny_standAt ?_)
  unfold unpack
  rw [hn, hstar]
  exact wpAny_bind (wpAny_holding (PySem.W.kun_itemsOf hh hl h))
end
section
variable {X : Cx} {pos : Pos}
noncomputable def wv4 (K : PySem.W.Frag) (n : Nat) (t : TGs) : TG := fun v σ H Q => ∃ a xs, v = .ref a /\ SqL K H a xs /\ xs.length = n /\ t xs σ H Q
theorem wr8 {es : List Expr} {k : Nat} {t : TGs} {n : Nat} (hc : X.calm = true) (h : PGs X es t)
    (hn : (assignEach es X.env).length = n := by rfl) (hst : (assignEach es X.env).findIdx? (·.1) = none := by rfl) : PG X (.Tuple es k pos) (wv4 X.K n t) := by
  intro pins s σ H v u Q I r hw
  obtain ⟨a, xs, e1, hq, hl, hw⟩ := hw
  subst e1
  cases r
  obtain ⟨its, rv, ht, hz⟩ := I.list hq
  refine xn7 (I.ok.hd hc) ht.isList (by simp [hn, <- hl, rv.length]) hst fun h' hx => ?_
  have I1 : Inv X pins σ H { s with heap := h' } := I.kept (t' := s.toks) fun b o e => hx b o (Nat.ne_of_lt (Heap.lt_size e)) e
  exact h pins _ σ H xs _ Q I1 (by simpa using rv) hw
end
end L2
namespace L2
open PySem PySem.Spec PyProof.Rows
inductive AreC : List Expr -> List V -> Prop
  | nil : AreC [] []
  | int {i : Int} {j : Nat} {pos : Pos} {es : List Expr} {vs : List V} : AreC es vs -> AreC (.Constant (.int i) j pos :: es) (.int i :: vs)
  | str {x : Str} {j : Nat} {pos : Pos} {es : List Expr} {vs : List V} : AreC es vs -> AreC (.Constant (.str x) j pos :: es) (.str x :: vs)
  | bl {b : Bool} {j : Nat} {pos : Pos} {es : List Expr} {vs : List V} : AreC es vs -> AreC (.Constant (.bool b) j pos :: es) (.bl b :: vs)
  | non {j : Nat} {pos : Pos} {es : List Expr} {vs : List V} : AreC es vs -> AreC (.Constant .none j pos :: es) (.non :: vs)
noncomputable def yz2 (vs : List V) : TA := fun _ H Q => Q vs H
theorem xz9 {X : Cx} {es : List Expr} {vs : List V} (h : AreC es vs) : PA X es (yz2 vs) := by
  induction h with
  | nil => exact yc1
  | int _ ih => exact fun pos pins s σ H Q I q => zp6 (t := yz2 _) zs3 ih rfl pos pins s σ H Q I q
  | str _ ih => exact fun pos pins s σ H Q I q => zp6 (t := yz2 _) xx2 ih rfl pos pins s σ H Q I q
  | bl _ ih => exact fun pos pins s σ H Q I q => zp6 (t := yz2 _) wi9 ih rfl pos pins s σ H Q I q
  | non _ ih => exact fun pos pins s σ H Q I q => zp6 (t := yz2 _) xx1 ih rfl pos pins s σ H Q I q
end L2
namespace L2
open PySem PySem.Spec PyProof.Rows
inductive D where
  | non | bl (b : Bool) | int (i : Int) | str (x : Str) | ty (n : String)
  | tup (xs : List D) | con (xs : List D) | lst (o : Bool) (xs : List D) | dic (o : Bool) (ks : List Key) (vs : List D) | obj (o : Bool) (C : Str) (ns : List Str) (vs : List D)
mutual
noncomputable def D.imm : D -> Bool
  | .tup xs => D.imms xs
  | .con xs => D.imms xs
  | .lst o xs => !o && D.imms xs
  | .dic o _ vs => !o && D.imms vs
  | .obj o _ _ vs => !o && D.imms vs
  | _ => true
noncomputable def D.imms : List D -> Bool
  | [] => true
  | d :: ds => d.imm && D.imms ds
end
noncomputable def kd : HO -> Bool
  | .lst _ => true
  | .tup _ => true
  | .dK _ => true
  | .ins _ _ _ => true
  | .frz _ _ => true
  | _ => false
noncomputable def tf : HO -> Bool
  | .tup _ => true
  | .frz _ _ => true
  | _ => false
theorem ya9 {o : HO} (h : tf o = true) : kd o = true := by cases o <;> first | rfl | cases h
noncomputable def SqF (K : PySem.W.Frag) (H : Hp) (a : Addr) (xs : List V) : Prop := (∃ o, H a = some (.frz o (.lst xs))) \/
  ∃ (o : Obj) (its : Array Value) (n : Nat), K.lookup a = some o /\ o.cls = .type "list" /\ o.dict = none /\ o.data = .seq its n /\ its.size <= sizeLine /\ zf5 xs its.toList
mutual
inductive Rep (K : PySem.W.Frag) (κ : Str -> Addr) (H : Hp) : V -> D -> List Addr -> Prop
  | non : Rep K κ H .non .non []
  | bl (b : Bool) : Rep K κ H (.bl b) (.bl b) []
  | int (i : Int) : Rep K κ H (.int i) (.int i) []
  | str (x : Str) : Rep K κ H (.str x) (.str x) []
  | ty (n : String) : Rep K κ H (.ty n) (.ty n) []
  | tup {a : Addr} {vs : List V} {ds : List D} : SqT K H a vs -> Reps K κ H vs ds [] -> Rep K κ H (.ref a) (.tup ds) []
  | con {a : Addr} {vs : List V} {ds : List D} : SqF K H a vs -> Reps K κ H vs ds [] -> Rep K κ H (.ref a) (.con ds) []
  | lst {a : Addr} {vs : List V} {ds : List D} {fp : List Addr} : H a = some (.lst vs) -> Reps K κ H vs ds fp -> Rep K κ H (.ref a) (.lst true ds) (a :: fp)
  | lstF {a : Addr} {o : Obj} {vs : List V} {ds : List D} : H a = some (.frz o (.lst vs)) -> Reps K κ H vs ds [] -> Rep K κ H (.ref a) (.lst false ds) []
  | dic {a : Addr} {kvs : List (Key × V)} {ks : List Key} {ds : List D} {fp : List Addr} : H a = some (.dK kvs) -> kvs.map (·.1) = ks -> Reps K κ H (kvs.map (·.2)) ds fp -> Rep K κ H (.ref a) (.dic true ks ds) (a :: fp)
  | dicF {a : Addr} {o : Obj} {kvs : List (Key × V)} {ks : List Key} {ds : List D} : H a = some (.frz o (.dK kvs)) -> kvs.map (·.1) = ks -> Reps K κ H (kvs.map (·.2)) ds [] -> Rep K κ H (.ref a) (.dic false ks ds) []
  | obj {a dx : Addr} {C : Str} {fs : List (Str × V)} {ns : List Str} {ds : List D} {fp : List Addr} : H a = some (.ins (κ C) dx fs) -> fs.map (·.1) = ns -> Reps K κ H (fs.map (·.2)) ds fp -> Rep K κ H (.ref a) (.obj true C ns ds) (a :: fp)
  | objF {a dx : Addr} {o : Obj} {C : Str} {fs : List (Str × V)} {ns : List Str} {ds : List D} : H a = some (.frz o (.ins (κ C) dx fs)) -> fs.map (·.1) = ns -> Reps K κ H (fs.map (·.2)) ds [] -> Rep K κ H (.ref a) (.obj false C ns ds) []
inductive Reps (K : PySem.W.Frag) (κ : Str -> Addr) (H : Hp) : List V -> List D -> List Addr -> Prop
  | nil : Reps K κ H [] [] []
  | cons {v : V} {vs : List V} {d : D} {ds : List D} {f g : List Addr} : Rep K κ H v d f -> Reps K κ H vs ds g -> Reps K κ H (v :: vs) (d :: ds) (f ++ g)
end
section
variable {K : PySem.W.Frag} {κ : Str -> Addr} {H H' : Hp}
theorem SqT.tf (t : ∀ a o, H a = some o -> tf o = true -> H' a = some o) {a : Addr} {xs : List V} (h : SqT K H a xs) : SqT K H' a xs := by
  rcases h with (h | ⟨o, h⟩) | h
  . exact .inl (.inl (t _ _ h rfl))
  . exact .inl (.inr ⟨o, t _ _ h rfl⟩)
  . exact .inr h
theorem SqF.tf (t : ∀ a o, H a = some o -> tf o = true -> H' a = some o) {a : Addr} {xs : List V} (h : SqF K H a xs) : SqF K H' a xs := h.elim (fun ⟨o, h⟩ => .inl ⟨o, t _ _ h rfl⟩) .inr
theorem SqF.l {a : Addr} {xs : List V} (h : SqF K H a xs) : SqL K H a xs := h.elim (fun ⟨o, h⟩ => .inl (.inr ⟨o, h⟩)) .inr
theorem zr3 {P : Addr -> Prop} : ∀ a ∈ ([] : List Addr), P a := fun _ h => nomatch h
theorem Reps.move (t : ∀ a o, H a = some o -> tf o = true -> H' a = some o) {vs : List V} {ds : List D} {fp : List Addr} (h : Reps K κ H vs ds fp) : (∀ a ∈ fp, H' a = H a) -> Reps K κ H' vs ds fp :=
  Reps.rec (motive_1 := fun v d fp _ => (∀ a ∈ fp, H' a = H a) -> Rep K κ H' v d fp) (motive_2 := fun vs ds fp _ => (∀ a ∈ fp, H' a = H a) -> Reps K κ H' vs ds fp)
    (fun _ => .non) (fun b _ => .bl b) (fun b _ => .int b) (fun b _ => .str b) (fun b _ => .ty b) (fun h _ ih _ => .tup (h.tf t) (ih zr3)) (fun h _ ih _ => .con (h.tf t) (ih zr3))
    (fun h _ ih k => .lst ((k _ List.mem_cons_self).trans h) (ih fun a ha => k a (List.mem_cons_of_mem _ ha))) (fun h _ ih _ => .lstF (t _ _ h rfl) (ih zr3))
    (fun h e _ ih k => .dic ((k _ List.mem_cons_self).trans h) e (ih fun a ha => k a (List.mem_cons_of_mem _ ha))) (fun h e _ ih _ => .dicF (t _ _ h rfl) e (ih zr3))
    (fun h e _ ih k => .obj ((k _ List.mem_cons_self).trans h) e (ih fun a ha => k a (List.mem_cons_of_mem _ ha))) (fun h e _ ih _ => .objF (t _ _ h rfl) e (ih zr3))
    (fun _ => .nil) (fun _ _ i1 i2 k => .cons (i1 fun a ha => k a (List.mem_append_left _ ha)) (i2 fun a ha => k a (List.mem_append_right _ ha))) h
theorem Reps.nil_fp {vs : List V} {fp : List Addr} (h : Reps K κ H vs [] fp) : vs = [] /\ fp = [] := by cases h; exact ⟨rfl, rfl⟩
theorem Reps.one_inv {vs : List V} {d : D} {fp : List Addr} (r : Reps K κ H vs [d] fp) : ∃ v, vs = [v] /\ Rep K κ H v d fp := by
  cases r with
  | cons h hs =>
    obtain ⟨rfl, rfl⟩ := hs.nil_fp
    exact ⟨_, rfl, by rw [List.append_nil]; exact h⟩
theorem Reps.one {v : V} {d : D} {f : List Addr} (h : Rep K κ H v d f) : Reps K κ H [v] [d] f := by have := Reps.cons h (Reps.nil (K := K) (κ := κ) (H := H)); rwa [List.append_nil] at this
theorem Rep.move (t : ∀ a o, H a = some o -> tf o = true -> H' a = some o) {v : V} {d : D} {fp : List Addr} (h : Rep K κ H v d fp) (k : ∀ a ∈ fp, H' a = H a) : Rep K κ H' v d fp := by
  obtain ⟨u, e, r⟩ := ((Reps.one h).move t k).one_inv
  cases e; exact r
theorem Reps.own {vs : List V} {ds : List D} {fp : List Addr} (h : Reps K κ H vs ds fp) : ∀ a ∈ fp, ∃ o, H a = some o /\ kd o = true /\ tf o = false :=
  Reps.rec (motive_1 := fun _ _ fp _ => ∀ a ∈ fp, ∃ o, H a = some o /\ kd o = true /\ tf o = false) (motive_2 := fun _ _ fp _ => ∀ a ∈ fp, ∃ o, H a = some o /\ kd o = true /\ tf o = false)
    zr3 (fun _ => zr3) (fun _ => zr3) (fun _ => zr3) (fun _ => zr3) (fun _ _ _ => zr3) (fun _ _ _ => zr3)
    (fun h _ ih a ha => (List.mem_cons.mp ha).elim (fun e => e ▸ ⟨_, h, rfl, rfl⟩) (ih a)) (fun _ _ _ => zr3)
    (fun h _ _ ih a ha => (List.mem_cons.mp ha).elim (fun e => e ▸ ⟨_, h, rfl, rfl⟩) (ih a)) (fun _ _ _ _ => zr3)
    (fun h _ _ ih a ha => (List.mem_cons.mp ha).elim (fun e => e ▸ ⟨_, h, rfl, rfl⟩) (ih a)) (fun _ _ _ _ => zr3)
    zr3 (fun _ _ i1 i2 a ha => (List.mem_append.mp ha).elim (i1 a) (i2 a)) h
theorem Rep.own {v : V} {d : D} {fp : List Addr} (h : Rep K κ H v d fp) : ∀ a ∈ fp, ∃ o, H a = some o /\ kd o = true /\ tf o = false := (Reps.one h).own
theorem Rep.imm {v : V} {d : D} {fp : List Addr} (h : Rep K κ H v d fp) (e : d.imm = true) : fp = [] := by
  cases h <;> first | rfl | exact nomatch e
theorem Reps.imm : ∀ {vs : List V} {ds : List D} {fp : List Addr}, Reps K κ H vs ds fp -> D.imms ds = true -> fp = []
  | _, _, _, .nil, _ => rfl
  | _, _, _, .cons h hs, e => by
    rw [D.imms, Bool.and_eq_true] at e
    rw [h.imm e.1, Reps.imm hs e.2]; rfl
theorem Reps.length : ∀ {vs : List V} {ds : List D} {fp : List Addr}, Reps K κ H vs ds fp -> vs.length = ds.length
  | _, _, _, .nil => rfl
  | _, _, _, .cons _ hs => by rw [List.length_cons, List.length_cons, Reps.length hs]
theorem Reps.get : ∀ {vs : List V} {ds : List D} {fp : List Addr} {i : Nat} {d : D}, Reps K κ H vs ds fp -> ds[i]? = some d -> ∃ v f, vs[i]? = some v /\ Rep K κ H v d f /\ ∀ a ∈ f, a ∈ fp
  | _, _, _, _, _, .nil, e => by simp at e
  | _, _, _, 0, _, .cons h _, e => by simp at e; subst e; exact ⟨_, _, rfl, h, fun a ha => List.mem_append_left _ ha⟩
  | _, _, _, i + 1, _, .cons _ hs, e => by
    obtain ⟨v, f, h1, h2, h3⟩ := Reps.get (i := i) hs (by simpa using e)
    exact ⟨v, f, by simpa using h1, h2, fun a ha => List.mem_append_right _ (h3 a ha)⟩
theorem Reps.append : ∀ {vs : List V} {ds : List D} {f : List Addr} {us : List V} {es : List D} {g : List Addr}, Reps K κ H vs ds f -> Reps K κ H us es g -> Reps K κ H (vs ++ us) (ds ++ es) (f ++ g)
  | _, _, _, _, _, _, .nil, r => r
  | _, _, _, _, _, _, .cons h hs, r => by rw [List.append_assoc]; exact .cons h (Reps.append hs r)
theorem Reps.split : ∀ {vs : List V} {d : D} {ds : List D} {fp : List Addr}, Reps K κ H vs (d :: ds) fp -> ∃ v us f g, vs = v :: us /\ Rep K κ H v d f /\ Reps K κ H us ds g /\ fp = f ++ g
  | _, _, _, _, .cons h hs => ⟨_, _, _, _, rfl, h, hs, rfl⟩
theorem Reps.nilp : ∀ {vs : List V} {ds : List D}, Reps K κ H vs ds [] -> Paired (fun v d => Rep K κ H v d []) vs ds := by
  intro vs ds h
  generalize e : ([] : List Addr) = fp at h
  induction h using Reps.rec (motive_1 := fun _ _ _ _ => True) with
  | nil => exact .nil
  | cons h hs _ ih =>
    obtain ⟨e1, e2⟩ := List.append_eq_nil_iff.mp e.symm
    subst e1; subst e2
    exact .cons h (ih rfl)
  | _ => trivial
theorem Reps.ofp : ∀ {vs : List V} {ds : List D}, Paired (fun v d => Rep K κ H v d []) vs ds -> Reps K κ H vs ds []
  | _, _, .nil => .nil
  | _, _, .cons h hs => .cons (f := []) (g := []) h (Reps.ofp hs)
end
theorem Paired.app {α β : Type} {R : α -> β -> Prop} : ∀ {l₁ : List α} {l₂ : List β} {m₁ : List α} {m₂ : List β}, Paired R l₁ l₂ -> Paired R m₁ m₂ -> Paired R (l₁ ++ m₁) (l₂ ++ m₂)
  | _, _, _, _, .nil, r => r
  | _, _, _, _, .cons h t, r => .cons h (Paired.app t r)
structure SameK (H H' : Hp) : Prop where
  keep : ∀ a o, H a = some o -> kd o = true -> H' a = some o
  grow : ∀ a, H' a = none -> H a = none
theorem SameK.refl (H : Hp) : SameK H H := ⟨fun _ _ h _ => h, fun _ h => h⟩
theorem SameK.trans {H H1 H2 : Hp} (a : SameK H H1) (b : SameK H1 H2) : SameK H H2 := ⟨fun c o h k => b.keep c o (a.keep c o h k) k, fun c h => a.grow c (b.grow c h)⟩
theorem SameK.of {H H' : Hp} (h : xw5 H H') : SameK H H' := ⟨fun a o e _ => h a o e, fun a e => h.free e⟩
theorem SameK.new {H : Hp} {p : Addr} (h : H p = none) (o : HO) : SameK H (upd H p o) := .of (wf5 h o)
section
variable {K : PySem.W.Frag} {κ : Str -> Addr} {H H' : Hp}
theorem Rep.same (e : SameK H H') {v : V} {d : D} {fp : List Addr} (r : Rep K κ H v d fp) : Rep K κ H' v d fp :=
  r.move (fun a o h t => e.keep a o h (ya9 t)) fun a ha => by obtain ⟨o, h, k, _⟩ := r.own a ha; rw [h]; exact e.keep a o h k
theorem Reps.same (e : SameK H H') {v : List V} {d : List D} {fp : List Addr} (r : Reps K κ H v d fp) : Reps K κ H' v d fp :=
  r.move (fun a o h t => e.keep a o h (ya9 t)) fun a ha => by obtain ⟨o, h, k, _⟩ := r.own a ha; rw [h]; exact e.keep a o h k
end
theorem PE.imp {X : Cx} {e : Expr} {t t' : TE} (h : PE X e t) (k : ∀ σ H Q, t' σ H Q -> t σ H Q) : PE X e t' := fun pins s σ H Q I q => h pins s σ H Q I (k σ H Q q)
theorem PT.imp {X : Cx} {e : Expr} {t t' : TT} (h : PT X e t) (k : ∀ σ H Q, t' σ H Q -> t σ H Q) : PT X e t' := fun pins s σ H Q I q => h pins s σ H Q I (k σ H Q q)
theorem PW.imp {X : Cx} {e : Expr} {t t' : TT} (h : PW X e t) (k : ∀ σ H Q, t' σ H Q -> t σ H Q) : PW X e t' := fun wh pins s σ H Q I q => h wh pins s σ H Q I (k σ H Q q)
theorem PA.imp {X : Cx} {e : List Expr} {t t' : TA} (h : PA X e t) (k : ∀ σ H Q, t' σ H Q -> t σ H Q) : PA X e t' := fun pos pins s σ H Q I q => h pos pins s σ H Q I (k σ H Q q)
theorem PS.imp {X : Cx} {st : Stmt} {t t' : TS} (h : PS X st t) (k : ∀ D σ H, t' D σ H -> t D σ H) : PS X st t' := fun pins s σ H D I q => h pins s σ H D I (k D σ H q)
theorem PSs.imp {X : Cx} {st : List Stmt} {t t' : TS} (h : PSs X st t) (k : ∀ D σ H, t' D σ H -> t D σ H) : PSs X st t' := fun pins s σ H D I q => h pins s σ H D I (k D σ H q)
noncomputable abbrev PSt := List (Option D)
noncomputable def WS (K : PySem.W.Frag) (κ : Str -> Addr) (H : Hp) (σ : St) (ps : PSt) : Prop := ∀ (i : Nat) (d : D), ps[i]? = some (some d) -> ∃ v fp, σ[i]? = some (some v) /\ Rep K κ H v d fp
theorem WS.same {K : PySem.W.Frag} {κ : Str -> Addr} {H H' : Hp} {σ : St} {ps : PSt} (w : WS K κ H σ ps) (e : SameK H H') : WS K κ H' σ ps := fun i d h => by
  obtain ⟨v, fp, h1, h2⟩ := w i d h
  exact ⟨v, fp, h1, h2.same e⟩
noncomputable def zx2 (K : PySem.W.Frag) (κ : Str -> Addr) (H : Hp) (d : D) (Q : VK) : Prop := ∀ v H' fv, SameK H H' -> (∀ a ∈ fv, H a = none) -> fv.Nodup -> Rep K κ H' v d fv -> Q v H'
noncomputable def wv5 (K : PySem.W.Frag) (κ : Str -> Addr) (H : Hp) (d : D) (Q : VK) : Prop := ∀ v H' fp, SameK H H' -> Rep K κ H' v d fp -> Q v H'
noncomputable def tV (K : PySem.W.Frag) (κ : Str -> Addr) (f : PSt -> Option D) : TE := fun σ H Q => ∃ ps d, WS K κ H σ ps /\ f ps = some d /\ wv5 K κ H d Q
noncomputable def tP (K : PySem.W.Frag) (κ : Str -> Addr) (f : PSt -> Option D) : TE := fun σ H Q => ∃ ps d, WS K κ H σ ps /\ f ps = some d /\ zx2 K κ H d Q
noncomputable def tQ (K : PySem.W.Frag) (κ : Str -> Addr) (f : PSt -> Option Bool) : TT := fun σ H Q => ∃ ps b, WS K κ H σ ps /\ f ps = some b /\ ∀ H', SameK H H' -> Q b H'
noncomputable def tVA (K : PySem.W.Frag) (κ : Str -> Addr) (f : PSt -> Option (List D)) : TA := fun σ H Q => ∃ ps ds, WS K κ H σ ps /\ f ps = some ds /\ ∀ vs H' fp, SameK H H' -> Reps K κ H' vs ds fp -> Q vs H'
noncomputable def tPA (K : PySem.W.Frag) (κ : Str -> Addr) (f : PSt -> Option (List D)) : TA := fun σ H Q => ∃ ps ds, WS K κ H σ ps /\ f ps = some ds /\ ∀ vs H' fv, SameK H H' -> (∀ a ∈ fv, H a = none) -> fv.Nodup -> Reps K κ H' vs ds fv -> Q vs H'
noncomputable abbrev QV (X : Cx) (κ : Str -> Addr) (e : Expr) (f : PSt -> Option D) : Prop := PE X e (tV X.K κ f)
noncomputable abbrev QP (X : Cx) (κ : Str -> Addr) (e : Expr) (f : PSt -> Option D) : Prop := PE X e (tP X.K κ f)
noncomputable abbrev QT (X : Cx) (κ : Str -> Addr) (e : Expr) (f : PSt -> Option Bool) : Prop := PT X e (tQ X.K κ f)
noncomputable abbrev QW (X : Cx) (κ : Str -> Addr) (e : Expr) (f : PSt -> Option Bool) : Prop := PW X e (tQ X.K κ f)
noncomputable abbrev QVA (X : Cx) (κ : Str -> Addr) (es : List Expr) (f : PSt -> Option (List D)) : Prop := PA X es (tVA X.K κ f)
noncomputable abbrev QPA (X : Cx) (κ : Str -> Addr) (es : List Expr) (f : PSt -> Option (List D)) : Prop := PA X es (tPA X.K κ f)
theorem zx2.see {K : PySem.W.Frag} {κ : Str -> Addr} {H : Hp} {d : D} {Q : VK} (h : wv5 K κ H d Q) : zx2 K κ H d Q := fun v H' fv s _ _ r => h v H' fv s r
theorem zx2.after {K : PySem.W.Frag} {κ : Str -> Addr} {H H1 : Hp} {d : D} {Q : VK} (h : zx2 K κ H d Q) (s : SameK H H1) : zx2 K κ H1 d Q :=
  fun v H' fv s' n nd r => h v H' fv (s.trans s') (fun a ha => s.grow a (n a ha)) nd r
theorem zx2.now {K : PySem.W.Frag} {κ : Str -> Addr} {H : Hp} {d : D} {Q : VK} {v : V} (h : zx2 K κ H d Q) (r : Rep K κ H v d []) : Q v H := h v H [] (.refl H) (fun _ h => absurd h (by simp)) List.nodup_nil r
theorem zx2.at {K : PySem.W.Frag} {κ : Str -> Addr} {H : Hp} {d : D} {Q : VK} {p : Addr} {o : HO} {fv : List Addr} (h : zx2 K κ H d Q) (hp : H p = none) (hn : ∀ a ∈ fv, H a = none) (nd : fv.Nodup) (r : Rep K κ (upd H p o) (.ref p) d fv) : Q (.ref p) (upd H p o) :=
  h _ _ fv (.new hp o) hn nd r
section
variable {X : Cx} {κ : Str -> Addr} {e a b : Expr} {f fa fb : PSt -> Option D}
theorem QP.v (h : QP X κ e f) : QV X κ e f := h.imp fun _ _ _ ⟨ps, d, w, e, q⟩ => ⟨ps, d, w, e, .see q⟩
noncomputable def zb3 (f : PSt -> Option D) : PSt -> Option D := fun ps => (f ps).bind fun d => if d.imm = true then some d else none
theorem QV.p (h : QV X κ e f) : QP X κ e (zb3 f) := h.imp fun σ H Q hh_ => by
  obtain ⟨ps, d, w, e, q⟩ := hh_
  unfold zb3 at e
  cases e1 : f ps with
  | none => rw [e1] at e; cases e
  | some d1 =>
    rw [e1] at e
    by_cases hi : d1.imm = true
    . have e2 : d1 = d := by simpa [hi] using e
      subst e2
      refine ⟨ps, d1, w, e1, fun v H' fp s r => ?_⟩
      have := r.imm hi; subst this
      exact q v H' [] s (fun _ h => absurd h (by simp)) List.nodup_nil r
    . simp [hi] at e
noncomputable def za1 (i : Nat) : PSt -> Option D := fun ps => (ps[i]?).join
theorem za6 (i : Nat) {x : Str} {pos : Pos} (hN : X.N[i]? = some x := by rfl) (hv : Vis X.env.scope x := by first | exact Or.inl rfl | exact Or.inr (Or.inl rfl) | exact Or.inr (Or.inr rfl)) (hd : (x == ("__debug__" : Str)) = false := by decide)
    (hcd : (x == ("__classdict__" : Str)) = false := by decide) : QV X κ (.Name x pos) (za1 i) := (yk8 hN hv hd hcd).imp fun σ H Q hh_ => by
  obtain ⟨ps, d, w, e, q⟩ := hh_
  have e' : ps[i]? = some (some d) := by
    unfold za1 at e
    cases q : ps[i]? with
    | none => rw [q] at e; cases e
    | some o => rw [q] at e; exact congrArg some e
  obtain ⟨v, fp, h1, h2⟩ := w i d e'
  exact ⟨v, h1, q v H fp (.refl H) h2⟩
noncomputable def fC (d : D) : PSt -> Option D := fun _ => some d
theorem zb5 {i j pos} : QP X κ (.Constant (.int i) j pos) (fC (.int i)) := zs3.imp fun σ H Q ⟨ps, d, w, e, q⟩ => by cases e; exact q _ H [] (.refl H) (fun _ h => absurd h (by simp)) List.nodup_nil (.int i)
theorem zf1 {x j pos} : QP X κ (.Constant (.str x) j pos) (fC (.str x)) := xx2.imp fun σ H Q ⟨ps, d, w, e, q⟩ => by cases e; exact q _ H [] (.refl H) (fun _ h => absurd h (by simp)) List.nodup_nil (.str x)
theorem yc2 {b j pos} : QP X κ (.Constant (.bool b) j pos) (fC (.bl b)) := wi9.imp fun σ H Q ⟨ps, d, w, e, q⟩ => by cases e; exact q _ H [] (.refl H) (fun _ h => absurd h (by simp)) List.nodup_nil (.bl b)
theorem yp4 {j pos} : QP X κ (.Constant .none j pos) (fC .non) := xx1.imp fun σ H Q ⟨ps, d, w, e, q⟩ => by cases e; exact q _ H [] (.refl H) (fun _ h => absurd h (by simp)) List.nodup_nil .non
theorem zq7 {x : Str} {v : V} {u : Value} {d : D} {pos : Pos} (hg : Gl X x) (hm : X.mg x = some u) (r : zi6 v u) (hd : ∀ H, Rep X.K κ H v d []) (hdb : (x == ("__debug__" : Str)) = false := by decide) : QP X κ (.Name x pos) (fC d) :=
  (xa4 hg hm r hdb).imp fun σ H Q ⟨ps, d, w, e, q⟩ => by cases e; exact q _ H [] (.refl H) (fun _ h => absurd h (by simp)) List.nodup_nil (hd H)
theorem yg7 {x : Str} {n : String} {pos : Pos} (hg : Gl X x) (hm : X.mg x = none) (hv : bootBuiltins x = some (.type n)) (hn : x ≠ "__name__" := by decide) (hd : (x == ("__debug__" : Str)) = false := by decide) : QP X κ (.Name x pos) (fC (.ty n)) :=
  (wk8 (v := .ty n) hg hm hv rfl hn hd).imp fun σ H Q ⟨ps, d, w, e, q⟩ => by cases e; exact q _ H [] (.refl H) (fun _ h => absurd h (by simp)) List.nodup_nil (.ty n)
noncomputable def f2 (g : D -> D -> Option D) (fa fb : PSt -> Option D) : PSt -> Option D := fun ps => (fa ps).bind fun x => (fb ps).bind fun y => g x y
noncomputable def POp (K : PySem.W.Frag) (κ : Str -> Addr) (g : D -> D -> Option D) : R2 := fun x y H Q => ∃ dx dy d fx fy, Rep K κ H x dx fx /\ Rep K κ H y dy fy /\ g dx dy = some d /\ zx2 K κ H d Q
theorem yr7 {g : D -> D -> Option D} {fa fb : PSt -> Option D} {ps : PSt} {d : D} (h : f2 g fa fb ps = some d) : ∃ x y, fa ps = some x /\ fb ps = some y /\ g x y = some d := by
  unfold f2 at h
  cases e1 : fa ps with
  | none => rw [e1] at h; cases h
  | some x =>
    rw [e1] at h
    cases e2 : fb ps with
    | none => rw [e2] at h; cases h
    | some y => rw [e2] at h; exact ⟨x, y, rfl, rfl, h⟩
theorem xh7 {r : R2} {g : D -> D -> Option D} {σ : St} {H : Hp} {Q : VK} (hr : ∀ x y H Q, POp X.K κ g x y H Q -> r x y H Q) (h : tP X.K κ (f2 g fa fb) σ H Q) : tOp r (tV X.K κ fa) (tV X.K κ fb) σ H Q := by
  obtain ⟨ps, d, w, e, q⟩ := h
  obtain ⟨x, y, e1, e2, e3⟩ := yr7 e
  exact ⟨ps, x, w, e1, fun v H1 fp s1 r1 => ⟨ps, y, w.same s1, e2, fun u H2 fq s2 r2 => hr _ _ _ _ ⟨x, y, d, fp, fq, r1.same s2, r2, e3, q.after (s1.trans s2)⟩⟩⟩
theorem zg4 {op : Operator} {g : D -> D -> Option D} {pos : Pos} (ho : OpR X (binaryOp op) (POp X.K κ g)) (ha : QV X κ a fa) (hb : QV X κ b fb) : QP X κ (.BinOp a op b pos) (f2 g fa fb) :=
  (zp9 ho ha hb).imp fun _ _ _ h => xh7 (fun _ _ _ _ h => h) h
theorem zx9 {op : CmpOp} {g : D -> D -> Option D} {pos : Pos} (ho : OpR X (compareOp op) (POp X.K κ g)) (ha : QV X κ a fa) (hb : QV X κ b fb) (hm : behindInMarks op b = false) : QP X κ (.Compare a [op] [b] pos) (f2 g fa fb) :=
  (wl1 ho ha hb hm).imp fun _ _ _ h => xh7 (fun _ _ _ _ h => h) h
noncomputable def dB : D -> Option Bool
  | .bl b => some b
  | _ => none
noncomputable def fB (f : PSt -> Option D) : PSt -> Option Bool := fun ps => (f ps).bind dB
theorem wm1 {f : PSt -> Option D} {ps : PSt} {b : Bool} (h : fB f ps = some b) : f ps = some (.bl b) := by
  unfold fB at h
  cases e : f ps with
  | none => rw [e] at h; cases h
  | some d => rw [e] at h; cases d <;> first | (cases h; rfl) | cases h
theorem Rep.is_bl {K : PySem.W.Frag} {H : Hp} {v : V} {b : Bool} {fp : List Addr} (r : Rep K κ H v (.bl b) fp) : v = .bl b := by cases r; rfl
theorem Rep.is_int {K : PySem.W.Frag} {H : Hp} {v : V} {b : Int} {fp : List Addr} (r : Rep K κ H v (.int b) fp) : v = .int b := by cases r; rfl
theorem Rep.is_str {K : PySem.W.Frag} {H : Hp} {v : V} {b : Str} {fp : List Addr} (r : Rep K κ H v (.str b) fp) : v = .str b := by cases r; rfl
theorem zh2 {op : CmpOp} {g : D -> D -> Option D} {pos : Pos} (ho : OpR X (compareOp op) (POp X.K κ g)) (ha : QV X κ a fa) (hb : QV X κ b fb) (hm : behindInMarks op b = false) : QT X κ (.Compare a [op] [b] pos) (fB (f2 g fa fb)) :=
  (xp2 ho ha hb hm).imp fun σ H Q ⟨ps, c, w, e, q⟩ => xh7 (Q := fun x H' => ∃ k, x = .bl k /\ Q k H') (fun _ _ _ _ h => h) ⟨ps, _, w, wm1 e, fun v H' fv s _ _ r => ⟨c, r.is_bl, q H' s⟩⟩
noncomputable def zc9 : D -> Option Bool
  | .non => some false
  | .bl b => some b
  | .int i => some (i != 0)
  | .str y => if y.length <= sizeLine then some ((y.length : Int) != 0) else none
  | .lst _ xs => some (!xs.isEmpty)
  | .tup xs => some (!xs.isEmpty)
  | .con xs => some (!xs.isEmpty)
  | _ => none
theorem yc3 {K : PySem.W.Frag} {H : Hp} {vs : List V} {ds : List D} {fp : List Addr} (r : Reps K κ H vs ds fp) : ds.isEmpty = vs.isEmpty := by cases r <;> rfl
theorem wm2 {K : PySem.W.Frag} {H : Hp} {v : V} {d : D} {fp : List Addr} {b : Bool} (r : Rep K κ H v d fp) (h : zc9 d = some b) : wi4 K v H b := by
  cases r with
  | non => cases h; rfl
  | bl b => cases h; rfl
  | int i => cases h; rfl
  | str x =>
    rw [zc9] at h
    split at h
    . cases h; exact ⟨by assumption, rfl⟩
    . cases h
  | tup s rs => cases h; exact .inr (.inl ⟨_, s, by rw [yc3 rs]⟩)
  | con s rs => cases h; exact .inl ⟨_, s.l, by rw [yc3 rs]⟩
  | lst s rs => cases h; exact .inl ⟨_, .inl (.inl s), by rw [yc3 rs]⟩
  | lstF s rs => cases h; exact .inl ⟨_, .inl (.inr ⟨_, s⟩), by rw [yc3 rs]⟩
  | _ => cases h
noncomputable def fT (f : PSt -> Option D) : PSt -> Option Bool := fun ps => (f ps).bind zc9
theorem wm3 {f : PSt -> Option D} {ps : PSt} {b : Bool} (h : fT f ps = some b) : ∃ d, f ps = some d /\ zc9 d = some b := by
  unfold fT at h
  cases e : f ps with
  | none => rw [e] at h; cases h
  | some d => rw [e] at h; exact ⟨d, rfl, h⟩
theorem zw6 (ha : QV X κ a fa) (he : ∀ whole, isTrue a X.env whole = (do let v <- whole; standAt a.pos; holding [v] (truthy v)) := by intro _; rfl) : QT X κ a (fT fa) :=
  (we8 ha he).imp fun σ H Q hh_ => by
    obtain ⟨ps, c, w, e, q⟩ := hh_
    obtain ⟨d, e1, e2⟩ := wm3 e
    exact ⟨ps, d, w, e1, fun v H' fp s r => ⟨c, wm2 r e2, q H' s⟩⟩
noncomputable def ze5 (f g : PSt -> Option Bool) : PSt -> Option Bool := fun ps => (f ps).bind fun c => if c = true then g ps else some false
noncomputable def zh4 (f g : PSt -> Option Bool) : PSt -> Option Bool := fun ps => (f ps).bind fun c => if c = true then some true else g ps
noncomputable def zd7 (f : PSt -> Option Bool) : PSt -> Option Bool := fun ps => (f ps).map (!·)
variable {pos : Pos} {rest : List Expr} {ta tb : PSt -> Option Bool}
theorem yd5 (ha : QT X κ a ta) : QW X κ (.BoolOp .And [a] pos) ta := wk9 ha
theorem yw5 (ha : QT X κ a ta) : QW X κ (.BoolOp .Or [a] pos) ta := wp1 ha
theorem yf5 (ha : QT X κ a ta) (hb : QW X κ (.BoolOp .And (b :: rest) pos) tb) : QW X κ (.BoolOp .And (a :: b :: rest) pos) (ze5 ta tb) :=
  (wp2 ha hb).imp fun σ H Q hh_ => by
    obtain ⟨ps, c, w, e, q⟩ := hh_
    unfold ze5 at e
    cases e1 : ta ps with
    | none => rw [e1] at e; cases e
    | some k =>
      rw [e1] at e
      refine ⟨ps, k, w, e1, fun H1 s1 => ?_⟩
      cases k with
      | true => rw [if_pos rfl]; exact ⟨ps, c, w.same s1, by simpa using e, fun H2 s2 => q H2 (s1.trans s2)⟩
      | false =>
        rw [if_neg Bool.false_ne_true]
        have : c = false := by simpa using e.symm
        subst this; exact q H1 s1
theorem xf8 (ha : QT X κ a ta) (hb : QW X κ (.BoolOp .Or (b :: rest) pos) tb) : QW X κ (.BoolOp .Or (a :: b :: rest) pos) (zh4 ta tb) :=
  (wv8 ha hb).imp fun σ H Q hh_ => by
    obtain ⟨ps, c, w, e, q⟩ := hh_
    unfold zh4 at e
    cases e1 : ta ps with
    | none => rw [e1] at e; cases e
    | some k =>
      rw [e1] at e
      refine ⟨ps, k, w, e1, fun H1 s1 => ?_⟩
      cases k with
      | true =>
        rw [if_pos rfl]
        have : c = true := by simpa using e.symm
        subst this; exact q H1 s1
      | false => rw [if_neg Bool.false_ne_true]; exact ⟨ps, c, w.same s1, by simpa using e, fun H2 s2 => q H2 (s1.trans s2)⟩
theorem ym7 (h : QW X κ a ta) : QT X κ a ta := PW.pt h
theorem yl1 (ha : QT X κ a ta) : QT X κ (.UnaryOp .Not a pos) (zd7 ta) :=
  (wp3 ha).imp fun σ H Q hh_ => by
    obtain ⟨ps, c, w, e, q⟩ := hh_
    unfold zd7 at e
    cases e1 : ta ps with
    | none => rw [e1] at e; cases e
    | some k =>
      rw [e1] at e
      have : c = !k := by simpa using e.symm
      subst this
      exact ⟨ps, k, w, e1, fun H1 s1 => q H1 s1⟩
noncomputable def zj7 (f g : PSt -> Option D) : PSt -> Option D := fun ps => (f ps).bind fun c => match c with
  | .bl true => g ps
  | .bl false => some (.bl false)
  | _ => none
theorem wj4 {d : D} {α : Type} {x y : Option α} {z : α} (h : (match d with | .bl true => x | .bl false => y | _ => none) = some z) : ∃ b, d = .bl b /\ (if b = true then x else y) = some z := by
  cases d with
  | bl b => cases b <;> exact ⟨_, rfl, h⟩
  | _ => cases h
theorem yl2 {op} (h : QP X κ a fa) : QP X κ (.BoolOp op [a] pos) fa := wp4 h
theorem yh6 (ha : QP X κ a fa) (hb : QP X κ (.BoolOp .And (b :: rest) pos) fb) : QP X κ (.BoolOp .And (a :: b :: rest) pos) (zj7 fa fb) :=
  (wp5 ha hb).imp fun σ H Q hh_ => by
    obtain ⟨ps, d, w, e, q⟩ := hh_
    unfold zj7 at e
    cases e1 : fa ps with
    | none => rw [e1] at e; cases e
    | some k =>
      rw [e1] at e
      obtain ⟨c, rfl, e2⟩ := wj4 (x := fb ps) (y := some (.bl false)) e
      refine ⟨ps, _, w, e1, fun v H1 fv s1 _ _ r1 => ⟨c, r1.is_bl, ?_⟩⟩
      cases c with
      | true => rw [if_pos rfl] at e2 |-; exact ⟨ps, d, w.same s1, e2, q.after s1⟩
      | false =>
        rw [if_neg Bool.false_ne_true] at e2 |-
        cases e2; exact (q.after s1).now (.bl false)
noncomputable def zq3 (f : PSt -> Option D) : PSt -> Option D := fun ps => (f ps).bind fun c => match c with
  | .bl true => some (.bl false)
  | .bl false => some (.bl true)
  | _ => none
theorem xh8 (ha : QP X κ a fa) : QP X κ (.UnaryOp .Not a pos) (zq3 fa) :=
  (wp6 ha).imp fun σ H Q hh_ => by
    obtain ⟨ps, d, w, e, q⟩ := hh_
    unfold zq3 at e
    cases e1 : fa ps with
    | none => rw [e1] at e; cases e
    | some k =>
      rw [e1] at e
      obtain ⟨c, rfl, e2⟩ := wj4 (x := some (D.bl false)) (y := some (D.bl true)) e
      refine ⟨ps, _, w, e1, fun v H1 fv s1 _ _ r1 => ⟨c, r1.is_bl, ?_⟩⟩
      cases c with
      | true => rw [if_pos rfl] at e2; cases e2; exact (q.after s1).now (.bl false)
      | false => rw [if_neg Bool.false_ne_true] at e2; cases e2; exact (q.after s1).now (.bl true)
noncomputable def zf6 (f : PSt -> Option D) : PSt -> Option D := fun ps => (f ps).bind fun c => match c with
  | .int i => some (.int (-i))
  | _ => none
theorem zu9 (ha : QV X κ a fa) : QP X κ (.UnaryOp .USub a pos) (zf6 fa) :=
  (wv9 wq1 ha).imp fun σ H Q hh_ => by
    obtain ⟨ps, d, w, e, q⟩ := hh_
    unfold zf6 at e
    cases e1 : fa ps with
    | none => rw [e1] at e; cases e
    | some k =>
      rw [e1] at e
      cases k with
      | int i => cases e; exact ⟨ps, _, w, e1, fun v H1 fp s1 r1 => ⟨i, r1.is_int, (q.after s1).now (.int _)⟩⟩
      | _ => cases e
end
end L2
namespace L2
open PySem PySem.Spec PyProof.Rows
section
variable {X : Cx} {κ : Str -> Addr}
theorem Inv.lstR {pins : List (Addr × Obj)} {σ : St} {H : Hp} {s : Shared} {l : Addr} {xs : List V} (I : Inv X pins σ H s) (h : Rd H l (.lst xs)) :
    xs.length <= sizeLine /\ ∃ (its : List Value) (n : Nat), zf5 xs its /\ xs.length = its.length /\ s.heap.get? l = some { cls := .type "list", data := .seq its.toArray n } := by
  obtain ⟨z, its, n, r, e⟩ := h.ok I.hok
  exact ⟨z, its, n, r, r.length, e⟩
theorem wm4 : OpR X (binaryOp .Add) (fun x y H Q => ∃ l b xs zs, x = .ref l /\ y = .ref b /\ Rd H l (.lst xs) /\ Rd H b (.lst zs) /\ xs.length + zs.length <= sizeLine /\ ∀ p, H p = none -> Q (.ref p) (upd H p (.lst (xs ++ zs)))) := by
  intro pins s σ H x y v u Q I rx ry h
  obtain ⟨l, b, xs, zs, rfl, rfl, hH, hB, hz, q⟩ := h
  cases rx
  cases ry
  obtain ⟨z, its, n, r, hl, e⟩ := I.lstR hH
  obtain ⟨z2, its2, n2, r2, hl2, e2⟩ := I.lstR hB
  refine PySem.P.add_list e e2 ?_ (by rw [List.size_toArray, List.size_toArray]; omega)
  have ea : its.toArray ++ its2.toArray = (its ++ its2).toArray := by simp
  rw [ea]
  exact ⟨.ref _, _, I.lnew (t' := s.toks) (r.append r2) (by rw [List.length_append]; omega), rfl, q _ I.fresh⟩
theorem Rep.lst_inv {K : PySem.W.Frag} {H : Hp} {v : V} {o : Bool} {ds : List D} {fp : List Addr} (r : Rep K κ H v (.lst o ds) fp) : ∃ a vs g, v = .ref a /\ Rd H a (.lst vs) /\ Reps K κ H vs ds g /\ g.Sublist fp := by
  cases r with
  | lst h hs => exact ⟨_, _, _, rfl, .inl h, hs, List.sublist_cons_self _ _⟩
  | lstF h hs => exact ⟨_, _, _, rfl, .inr ⟨_, h⟩, hs, .refl _⟩
theorem Rep.lstT_inv {K : PySem.W.Frag} {H : Hp} {v : V} {ds : List D} {fp : List Addr} (r : Rep K κ H v (.lst true ds) fp) : ∃ a vs g, v = .ref a /\ H a = some (.lst vs) /\ Reps K κ H vs ds g /\ fp = a :: g := by
  cases r with
  | lst h hs => exact ⟨_, _, _, rfl, h, hs, rfl⟩
theorem Rep.objT_inv {K : PySem.W.Frag} {H : Hp} {v : V} {C : Str} {ns : List Str} {ds : List D} {fp : List Addr} (r : Rep K κ H v (.obj true C ns ds) fp) : ∃ a dx fs g, v = .ref a /\ H a = some (.ins (κ C) dx fs) /\ fs.map (·.1) = ns /\ Reps K κ H (fs.map (·.2)) ds g /\ fp = a :: g := by
  cases r with
  | obj h e hs => exact ⟨_, _, _, _, rfl, h, e, hs, rfl⟩
theorem Rep.tup_inv {K : PySem.W.Frag} {H : Hp} {v : V} {ds : List D} {fp : List Addr} (r : Rep K κ H v (.tup ds) fp) : ∃ a vs, v = .ref a /\ SqT K H a vs /\ Reps K κ H vs ds [] := by
  cases r with
  | tup h hs => exact ⟨_, _, rfl, h, hs⟩
theorem Reps.pair {K : PySem.W.Frag} {H : Hp} {vs : List V} {ds : List D} {fp : List Addr} (r : Reps K κ H vs ds fp) (h : D.imms ds = true) : Paired (fun v d => Rep K κ H v d []) vs ds := by
  have e := r.imm h
  subst e
  exact r.nilp
theorem Rep.con_inv {K : PySem.W.Frag} {H : Hp} {v : V} {ds : List D} {fp : List Addr} (r : Rep K κ H v (.con ds) fp) : ∃ a vs, v = .ref a /\ SqF K H a vs /\ Reps K κ H vs ds [] := by
  cases r with
  | con h hs => exact ⟨_, _, rfl, h, hs⟩
theorem xp6 {K : PySem.W.Frag} {H : Hp} {vs : List V} {ds : List D} {Q : VK} {p : Addr} (hp : H p = none) (r : Paired (fun v d => Rep K κ H v d []) vs ds) (q : zx2 K κ H (.lst true ds) Q) : Q (.ref p) (upd H p (.lst vs)) :=
  q.at hp (fv := [p]) (fun a ha => by simp at ha; subst ha; exact hp) (by simp) (.lst zm0 ((Reps.ofp r).same (.new hp _)))
theorem xp7 {K : PySem.W.Frag} {H : Hp} {vs : List V} {ds : List D} {Q : VK} {p : Addr} (hp : H p = none) (r : Paired (fun v d => Rep K κ H v d []) vs ds) (q : zx2 K κ H (.tup ds) Q) : Q (.ref p) (upd H p (.tup vs)) :=
  q.at hp (fv := []) (fun a ha => by simp at ha) (by simp) (.tup (.inl (.inl zm0)) ((Reps.ofp r).same (.new hp _)))
noncomputable def zc2 : D -> D -> Option D
  | .int i, .int j => some (.int (i + j))
  | .str x, .str y => if x.length + y.length <= sizeLine then some (.str (x ++ y)) else none
  | .lst _ xs, .lst _ ys => if (D.imms xs && D.imms ys && decide (xs.length + ys.length <= sizeLine)) = true then some (.lst true (xs ++ ys)) else none
  | _, _ => none
theorem bind_some {α β : Type} {o : Option α} {g : α -> Option β} {z : β} (h : o.bind g = some z) : ∃ x, o = some x /\ g x = some z := by
  cases o with
  | none => cases h
  | some x => exact ⟨x, rfl, h⟩
theorem zh8 {α : Type} {c : Prop} [Decidable c] {x : Option α} {z : α} (h : (if c then x else none) = some z) : c /\ x = some z := by
  by_cases k : c
  . rw [if_pos k] at h; exact ⟨k, h⟩
  . rw [if_neg k] at h; cases h
theorem zn2 : OpR X (binaryOp .Add) (POp X.K κ zc2) := by
  rintro pins s σ H x y v u Q I rx ry ⟨dx, dy, d, fx, fy, r1, r2, e, q⟩
  unfold zc2 at e
  split at e
  . rename_i i j
    cases e; exact yl0 pins s σ H x y v u Q I rx ry ⟨i, j, r1.is_int, r2.is_int, q.now (.int _)⟩
  . rename_i i j
    obtain ⟨hc, e⟩ := zh8 e
    cases e; exact xs8 pins s σ H x y v u Q I rx ry ⟨i, j, r1.is_str, r2.is_str, hc, q.now (.str _)⟩
  . rename_i o xs o' ys
    obtain ⟨hc, e⟩ := zh8 e
    simp only [Bool.and_eq_true, decide_eq_true_eq] at hc
    cases e
    obtain ⟨a, vs, g, rfl, h1, s1, _⟩ := r1.lst_inv
    obtain ⟨b, us, g', rfl, h2, s2, _⟩ := r2.lst_inv
    exact wm4 pins s σ H _ _ v u Q I rx ry ⟨a, b, vs, us, rfl, rfl, h1, h2, by rw [s1.length, s2.length]; exact hc.2, fun p hp => xp6 hp (Paired.app (s1.pair hc.1.1) (s2.pair hc.1.2)) q⟩
  . cases e
noncomputable def dII (C : Int -> Int -> Bool) (g : Int -> Int -> D) : D -> D -> Option D
  | .int i, .int j => if C i j = true then some (g i j) else none
  | _, _ => none
theorem xh9 {C : Int -> Int -> Bool} {g : Int -> Int -> D} {x y d : D} (h : dII C g x y = some d) : ∃ i j, x = .int i /\ y = .int j /\ C i j = true /\ d = g i j := by
  unfold dII at h
  split at h
  . obtain ⟨hc, h⟩ := zh8 h
    cases h; exact ⟨_, _, rfl, rfl, hc, rfl⟩
  . cases h
noncomputable def ya6 : D -> D -> Option D
  | .int i, .int j => some (.int (i - j))
  | _, _ => none
theorem xt9 : OpR X (binaryOp .Sub) (POp X.K κ ya6) := by
  rintro pins s σ H x y v u Q I rx ry ⟨dx, dy, d, fx, fy, r1, r2, e, q⟩
  unfold ya6 at e
  split at e
  . rename_i i j
    cases e; exact wp9 pins s σ H x y v u Q I rx ry ⟨i, j, r1.is_int, r2.is_int, q.now (.int _)⟩
  . cases e
noncomputable def zy5 (i j : Int) : Bool := (decide (-(2 ^ 64) < i) && decide (i < 2 ^ 64)) || (decide (-(2 ^ 64) < j) && decide (j < 2 ^ 64))
noncomputable def yd0 : D -> D -> Option D
  | .int i, .int j => if zy5 i j = true then some (.int (i * j)) else none
  | _, _ => none
theorem xu0 : OpR X (binaryOp .Mult) (POp X.K κ yd0) := by
  rintro pins s σ H x y v u Q I rx ry ⟨dx, dy, d, fx, fy, r1, r2, e, q⟩
  unfold yd0 at e
  split at e
  . rename_i i j
    obtain ⟨hc, e⟩ := zh8 e
    cases e
    refine yc0 pins s σ H x y v u Q I rx ry ⟨i, j, r1.is_int, r2.is_int, ?_, q.now (.int _)⟩
    unfold zy5 at hc
    simp only [Bool.or_eq_true, Bool.and_eq_true, decide_eq_true_eq] at hc
    exact hc
  . cases e
noncomputable def zl5 : D -> D -> Option D := dII (fun _ j => decide (0 < j)) fun i j => .int (i % j)
theorem zo7 : OpR X (binaryOp .Mod) (POp X.K κ zl5) := by
  rintro pins s σ H x y v u Q I rx ry ⟨dx, dy, d, fx, fy, r1, r2, e, q⟩
  obtain ⟨i, j, rfl, rfl, hc, rfl⟩ := xh9 e
  exact yw1 pins s σ H x y v u Q I rx ry ⟨i, j, r1.is_int, r2.is_int, of_decide_eq_true hc, q.now (.int _)⟩
noncomputable def zs5 : D -> D -> Option D := dII (fun _ j => decide (0 < j) && decide (j < 1073741824)) fun i j => .int (i / j)
theorem yc4 : OpR X (binaryOp .FloorDiv) (POp X.K κ zs5) := by
  rintro pins s σ H x y v u Q I rx ry ⟨dx, dy, d, fx, fy, r1, r2, e, q⟩
  obtain ⟨i, j, rfl, rfl, hc, rfl⟩ := xh9 e
  simp only [Bool.and_eq_true, decide_eq_true_eq] at hc
  exact xo8 pins s σ H x y v u Q I rx ry ⟨i, j, r1.is_int, r2.is_int, hc, q.now (.int _)⟩
noncomputable def D.ints : List D -> Option (List Int)
  | [] => some []
  | .int i :: ds => (D.ints ds).map (i :: ·)
  | _ :: _ => none
theorem xp8 {K : PySem.W.Frag} {H : Hp} : ∀ {vs : List V} {ds : List D} {fp : List Addr} {ns : List Int}, Reps K κ H vs ds fp -> D.ints ds = some ns -> vs = ns.map V.int
  | _, _, _, _, .nil, e => by cases e; rfl
  | _, d :: ds, _, ns, .cons h hs, e => by
    cases d with
    | int i =>
      rw [D.ints] at e
      cases e1 : D.ints ds with
      | none => rw [e1] at e; cases e
      | some ms => rw [e1] at e; cases e; rw [h.is_int, xp8 hs e1]; rfl
    | _ => cases e
noncomputable def dLt : D -> D -> Option D
  | .int i, .int j => some (.bl (decide (i < j)))
  | .str i, .str j => some (.bl (decide (i.cps.toList < j.cps.toList)))
  | _, _ => none
theorem yg2 (hu : X.A.units < cLine) : OpR X (compareOp .Lt) (POp X.K κ dLt) := by
  rintro pins s σ H x y v u Q I rx ry ⟨dx, dy, d, fx, fy, r1, r2, e, q⟩
  unfold dLt at e
  split at e
  . rename_i i j
    cases e; exact ww0 pins s σ H x y v u Q I rx ry ⟨i, j, r1.is_int, r2.is_int, q.now (.bl _)⟩
  . rename_i i j
    cases e; exact xy1 pins s σ H x y v u Q I rx ry ⟨i, j, r1.is_str, r2.is_str, q.now (.bl _)⟩
  . cases e
noncomputable def dLe : D -> D -> Option D
  | .int i, .int j => some (.bl (decide (i <= j)))
  | .str i, .str j => some (.bl (!sLt j i))
  | _, _ => none
theorem xi0 : OpR X (compareOp .LtE) (POp X.K κ dLe) := by
  rintro pins s σ H x y v u Q I rx ry ⟨dx, dy, d, fx, fy, r1, r2, e, q⟩
  unfold dLe at e
  split at e
  . rename_i i j
    cases e; exact ww1 pins s σ H x y v u Q I rx ry ⟨i, j, r1.is_int, r2.is_int, q.now (.bl _)⟩
  . rename_i i j
    cases e; exact xz5 pins s σ H x y v u Q I rx ry ⟨i, j, r1.is_str, r2.is_str, q.now (.bl _)⟩
  . cases e
noncomputable def dGt : D -> D -> Option D
  | .int i, .int j => some (.bl (decide (j < i)))
  | _, _ => none
theorem yu1 : OpR X (compareOp .Gt) (POp X.K κ dGt) := by
  rintro pins s σ H x y v u Q I rx ry ⟨dx, dy, d, fx, fy, r1, r2, e, q⟩
  unfold dGt at e
  split at e
  . rename_i i j
    cases e; exact ww2 pins s σ H x y v u Q I rx ry ⟨i, j, r1.is_int, r2.is_int, q.now (.bl _)⟩
  . cases e
noncomputable def dGe : D -> D -> Option D
  | .int i, .int j => some (.bl (decide (j <= i)))
  | _, _ => none
theorem xu1 : OpR X (compareOp .GtE) (POp X.K κ dGe) := by
  rintro pins s σ H x y v u Q I rx ry ⟨dx, dy, d, fx, fy, r1, r2, e, q⟩
  unfold dGe at e
  split at e
  . rename_i i j
    cases e; exact ww3 pins s σ H x y v u Q I rx ry ⟨i, j, r1.is_int, r2.is_int, q.now (.bl _)⟩
  . cases e
mutual
noncomputable def D.data : D -> Option PyData
  | .non => some .none
  | .bl b => some (.bool b)
  | .int i => some (.int i)
  | .str x => some (.str x)
  | .tup xs => (D.datas xs).map .tuple
  | .lst _ xs => (D.datas xs).map .list
  | _ => none
noncomputable def D.datas : List D -> Option (List PyData)
  | [] => some []
  | d :: ds => d.data.bind fun p => (D.datas ds).map (p :: ·)
end
theorem Reps.dps {K : PySem.W.Frag} {H : Hp} {vs : List V} {ds : List D} {fp : List Addr} (h : Reps K κ H vs ds fp) : ∀ {p : List PyData}, D.datas ds = some p -> DpAll K H vs p :=
  Reps.rec (motive_1 := fun v d _ _ => ∀ {p : PyData}, d.data = some p -> Dp K H v p) (motive_2 := fun vs ds _ _ => ∀ {p : List PyData}, D.datas ds = some p -> DpAll K H vs p)
    (fun e => by cases e; exact .non) (fun b _ e => by cases e; exact .bl b) (fun b _ e => by cases e; exact .int b) (fun b _ e => by cases e; exact .str b) (fun b _ e => nomatch e)
    (fun h _ ih _ e => by obtain ⟨ps, e1, e⟩ := Option.map_eq_some_iff.mp e; subst e; exact .tup h (ih e1)) (fun _ _ _ _ e => nomatch e)
    (fun h _ ih _ e => by obtain ⟨ps, e1, e⟩ := Option.map_eq_some_iff.mp e; subst e; exact .lst (.inl (.inl h)) (ih e1))
    (fun h _ ih _ e => by obtain ⟨ps, e1, e⟩ := Option.map_eq_some_iff.mp e; subst e; exact .lst (.inl (.inr ⟨_, h⟩)) (ih e1))
    (fun _ _ _ _ _ e => nomatch e) (fun _ _ _ _ _ e => nomatch e) (fun _ _ _ _ _ e => nomatch e) (fun _ _ _ _ _ e => nomatch e)
    (fun e => by cases e; exact .nil)
    (fun _ _ i1 i2 _ e => by
      obtain ⟨q, e1, e⟩ := bind_some e
      obtain ⟨qs, e2, e⟩ := Option.map_eq_some_iff.mp e
      subst e
      exact .cons (i1 e1) (i2 e2)) h
theorem Rep.dp {K : PySem.W.Frag} {H : Hp} {v : V} {d : D} {fp : List Addr} {p : PyData} (h : Rep K κ H v d fp) (e : d.data = some p) : Dp K H v p := by
  have := (Reps.one h).dps (p := [p]) (by show (d.data.bind _) = _; rw [e]; rfl)
  cases this; assumption
noncomputable def xm8 (x y : D) : Option Bool := x.data.bind fun a => y.data.bind fun b => if (a.canLay0 && b.canLay0 && decide (a.depth <= 60)) = true then some (PyData.eqv a b) else none
noncomputable def eqB (x y : D) : Option Bool := match x, y with
  | .int i, .int j => some (decide (i = j))
  | .str i, .str j => some (decide (i = j))
  | x, y => xm8 x y
noncomputable def dEq (x y : D) : Option D := (eqB x y).map .bl
noncomputable def dNe (x y : D) : Option D := (eqB x y).map fun b => .bl (!b)
theorem xd3 {x y : D} {b : Bool} (h : eqB x y = some b) : (∃ i j, x = .int i /\ y = .int j /\ b = decide (i = j)) \/ (∃ i j, x = .str i /\ y = .str j /\ b = decide (i = j)) \/
    ∃ p q, x.data = some p /\ y.data = some q /\ p.canLay0 = true /\ q.canLay0 = true /\ p.depth <= 60 /\ b = PyData.eqv p q := by
  have gen : xm8 x y = some b -> ∃ p q, x.data = some p /\ y.data = some q /\ p.canLay0 = true /\ q.canLay0 = true /\ p.depth <= 60 /\ b = PyData.eqv p q := fun h => by
    unfold xm8 at h
    cases e1 : x.data with
    | none => rw [e1] at h; cases h
    | some p =>
      rw [e1] at h
      cases e2 : y.data with
      | none => rw [e2] at h; cases h
      | some q =>
        rw [e2] at h
        have h' : (if (p.canLay0 && q.canLay0 && decide (p.depth <= 60)) = true then some (PyData.eqv p q) else none) = some b := h
        split at h'
        . rename_i hc
          simp only [Bool.and_eq_true, decide_eq_true_eq] at hc
          exact ⟨p, q, rfl, rfl, hc.1.1, hc.1.2, hc.2, (Option.some.inj h').symm⟩
        . cases h'
  unfold eqB at h
  split at h
  . cases h; exact .inl ⟨_, _, rfl, rfl, rfl⟩
  . cases h; exact .inr (.inl ⟨_, _, rfl, rfl, rfl⟩)
  . exact .inr (.inr (gen h))
theorem zo8 (hu : X.A.units + 64 < cLine) : OpR X (compareOp .Eq) (POp X.K κ dEq) := by
  rintro pins s σ H x y v u Q I rx ry ⟨dx, dy, d, fx, fy, r1, r2, e, q⟩
  unfold dEq at e
  cases e1 : eqB dx dy with
  | none => rw [e1] at e; cases e
  | some b =>
    rw [e1] at e
    cases e
    rcases xd3 e1 with ⟨i, j, rfl, rfl, rfl⟩ | ⟨i, j, rfl, rfl, rfl⟩ | ⟨p, p', h1, h2, h3, h4, h5, rfl⟩
    . rw [r1.is_int] at rx; rw [r2.is_int] at ry
      exact xs6 pins s σ H _ _ v u Q I rx ry ⟨rfl, by rw [show decide (V.int i = V.int j) = decide (i = j) by simp]; exact q.now (.bl _)⟩
    . rw [r1.is_str] at rx; rw [r2.is_str] at ry
      exact xs6 pins s σ H _ _ v u Q I rx ry ⟨rfl, by rw [show decide (V.str i = V.str j) = decide (i = j) by simp]; exact q.now (.bl _)⟩
    . exact wr6 hu pins s σ H _ _ v u Q I rx ry ⟨p, p', r1.dp h1, r2.dp h2, h3, h4, h5, q.now (.bl _)⟩
theorem xu2 (hu : X.A.units + 64 < cLine) : OpR X (compareOp .NotEq) (POp X.K κ dNe) := by
  rintro pins s σ H x y v u Q I rx ry ⟨dx, dy, d, fx, fy, r1, r2, e, q⟩
  unfold dNe at e
  cases e1 : eqB dx dy with
  | none => rw [e1] at e; cases e
  | some b =>
    rw [e1] at e
    cases e
    rcases xd3 e1 with ⟨i, j, rfl, rfl, rfl⟩ | ⟨i, j, rfl, rfl, rfl⟩ | ⟨p, p', h1, h2, h3, h4, h5, rfl⟩
    . rw [r1.is_int] at rx; rw [r2.is_int] at ry
      exact wj1 pins s σ H _ _ v u Q I rx ry ⟨rfl, by rw [show decide (V.int i = V.int j) = decide (i = j) by simp]; exact q.now (.bl _)⟩
    . rw [r1.is_str] at rx; rw [r2.is_str] at ry
      exact wj1 pins s σ H _ _ v u Q I rx ry ⟨rfl, by rw [show decide (V.str i = V.str j) = decide (i = j) by simp]; exact q.now (.bl _)⟩
    . exact wr7 hu pins s σ H _ _ v u Q I rx ry ⟨p, p', r1.dp h1, r2.dp h2, h3, h4, h5, q.now (.bl _)⟩
noncomputable def zp4 : D -> Bool
  | .non => true
  | _ => false
theorem wf9 {K : PySem.W.Frag} {H : Hp} {v : V} {d : D} {fp : List Addr} (r : Rep K κ H v d fp) : decide (v = .non) = zp4 d := by cases r <;> first | rfl | simp [zp4]
noncomputable def dIs : D -> D -> Option D
  | x, .non => some (.bl (zp4 x))
  | _, _ => none
theorem wg0 : OpR X (compareOp .Is) (POp X.K κ dIs) := by
  rintro pins s σ H x y v u Q I rx ry ⟨dx, dy, d, fx, fy, r1, r2, e, q⟩
  cases dy with
  | non =>
    cases e; cases r2
    refine wq2 pins s σ H x _ v u Q I rx ry ⟨rfl, ?_⟩
    rw [wf9 r1]; exact q.now (.bl _)
  | _ => cases e
noncomputable def D.flat : D -> Option V
  | .non => some .non
  | .bl b => some (.bl b)
  | .int i => some (.int i)
  | .str x => some (.str x)
  | _ => none
noncomputable def D.flats : List D -> Option (List V)
  | [] => some []
  | d :: ds => d.flat.bind fun v => (D.flats ds).map (v :: ·)
theorem xp9 {K : PySem.W.Frag} {H : Hp} {v w : V} {d : D} {fp : List Addr} (r : Rep K κ H v d fp) (h : d.flat = some w) : v = w /\ zx4 v = true := by
  cases r <;> first | (cases h; exact ⟨rfl, rfl⟩) | cases h
theorem xi1 {K : PySem.W.Frag} {H : Hp} : ∀ {vs ws : List V} {ds : List D} {fp : List Addr}, Reps K κ H vs ds fp -> D.flats ds = some ws -> vs = ws /\ vs.all zx4 = true
  | _, _, _, _, .nil, e => by cases e; exact ⟨rfl, rfl⟩
  | _, ws, d :: ds, _, .cons h hs, e => by
    rw [D.flats] at e
    cases e1 : d.flat with
    | none => rw [e1] at e; cases e
    | some w =>
      rw [e1] at e
      cases e2 : D.flats ds with
      | none => rw [e2] at e; cases e
      | some us =>
        rw [e2] at e; cases e
        obtain ⟨a1, a2⟩ := xp9 h e1
        obtain ⟨b1, b2⟩ := xi1 hs e2
        exact ⟨by rw [a1, b1], by rw [List.all_cons, a2, b2]; rfl⟩
noncomputable def zj0 (x : D) (ds : List D) : Option Bool := x.flat.bind fun v => (D.flats ds).map fun ws => inV v ws
noncomputable def inB (x : D) : D -> Option Bool
  | .lst _ ds => zj0 x ds
  | .tup ds => zj0 x ds
  | _ => none
noncomputable def dIn (x y : D) : Option D := (inB x y).map .bl
theorem wr9 {H : Hp} {x y : V} {dx dy : D} {fx fy : List Addr} {b : Bool} (r1 : Rep X.K κ H x dx fx) (r2 : Rep X.K κ H y dy fy) (e : inB dx dy = some b) :
    ∃ p xs, y = .ref p /\ (SqL X.K H p xs \/ SqT X.K H p xs) /\ zx4 x = true /\ xs.all zx4 = true /\ b = inV x xs := by
  have gen : ∀ {vs : List V} {ds : List D} {g : List Addr}, Reps X.K κ H vs ds g -> zj0 dx ds = some b -> zx4 x = true /\ vs.all zx4 = true /\ b = inV x vs := fun {vs ds g} rs h => by
    unfold zj0 at h
    cases e1 : dx.flat with
    | none => rw [e1] at h; cases h
    | some w =>
      rw [e1] at h
      cases e2 : D.flats ds with
      | none => rw [e2] at h; cases h
      | some ws =>
        rw [e2] at h
        obtain ⟨a1, a2⟩ := xp9 r1 e1
        obtain ⟨b1, b2⟩ := xi1 rs e2
        subst a1 b1
        exact ⟨a2, b2, (Option.some.inj h).symm⟩
  cases dy with
  | lst o ds =>
    obtain ⟨a, vs, g, rfl, h, hs, _⟩ := r2.lst_inv
    obtain ⟨g1, g2, g3⟩ := gen hs e
    exact ⟨a, vs, rfl, .inl (.inl h), g1, g2, g3⟩
  | tup ds =>
    obtain ⟨a, vs, rfl, h, hs⟩ := r2.tup_inv
    obtain ⟨g1, g2, g3⟩ := gen hs e
    exact ⟨a, vs, rfl, .inr h, g1, g2, g3⟩
  | _ => cases e
theorem xu3 : OpR X (compareOp .In) (POp X.K κ dIn) := by
  rintro pins s σ H x y v u Q I rx ry ⟨dx, dy, d, fx, fy, r1, r2, e, q⟩
  unfold dIn at e
  cases e1 : inB dx dy with
  | none => rw [e1] at e; cases e
  | some b =>
    rw [e1] at e; cases e
    obtain ⟨p, xs, ey, h, f1, f2, rfl⟩ := wr9 r1 r2 e1
    exact xz0 pins s σ H x y v u Q I rx ry ⟨p, xs, ey, h, f1, f2, q.now (.bl _)⟩
end
end L2
namespace L2
open PySem PySem.Spec PyProof.Rows
theorem Reps.getS {K : PySem.W.Frag} {κ : Str -> Addr} {H : Hp} : ∀ {vs : List V} {ds : List D} {fp : List Addr} {i : Nat} {d : D}, Reps K κ H vs ds fp -> ds[i]? = some d -> ∃ v f, vs[i]? = some v /\ Rep K κ H v d f /\ f.Sublist fp
  | _, _, _, _, _, .nil, e => by simp at e
  | _, _, _, 0, _, .cons h _, e => by simp at e; subst e; exact ⟨_, _, rfl, h, List.sublist_append_left _ _⟩
  | _, _, _, i + 1, _, .cons _ hs, e => by
    obtain ⟨v, f, h1, h2, h3⟩ := Reps.getS (i := i) hs (by simpa using e)
    exact ⟨v, f, by simpa using h1, h2, h3.trans (List.sublist_append_right _ _)⟩
theorem Reps.atI {K : PySem.W.Frag} {κ : Str -> Addr} {H : Hp} {vs : List V} {ds : List D} {fp : List Addr} {i : Int} {d : D} (r : Reps K κ H vs ds fp) (h : L2.atI ds i = some d) : ∃ v f, L2.atI vs i = some v /\ Rep K κ H v d f /\ f.Sublist fp := by
  unfold L2.atI at h |-
  rw [r.length]
  cases e : ixN ds.length i with
  | none => rw [e] at h; cases h
  | some j => rw [e] at h; exact r.getS h
section
variable {X : Cx} {κ : Str -> Addr} {e a b : Expr} {es : List Expr} {f fa fb : PSt -> Option D} {g : PSt -> Option (List D)} {pos p2 : Pos}
noncomputable def za2 : PSt -> Option (List D) := fun _ => some []
noncomputable def za0 (f : PSt -> Option D) (g : PSt -> Option (List D)) : PSt -> Option (List D) := fun ps => (f ps).bind fun d => (g ps).bind fun ds => some (d :: ds)
theorem ym8 {ps : PSt} {ds : List D} (h : za0 f g ps = some ds) : ∃ d es, f ps = some d /\ g ps = some es /\ ds = d :: es := by
  unfold za0 at h
  cases e1 : f ps with
  | none => rw [e1] at h; cases h
  | some d =>
    rw [e1] at h
    cases e2 : g ps with
    | none => rw [e2] at h; cases h
    | some es => rw [e2] at h; cases h; exact ⟨d, es, rfl, rfl, rfl⟩
theorem zd0 : QVA X κ [] za2 := yc1.imp fun σ H Q ⟨ps, ds, w, e, q⟩ => by cases e; exact q [] H [] (.refl H) .nil
theorem zb0 (ha : QV X κ e f) (hr : QVA X κ es g) (hs : starEach (e :: es) X.env = (false, eval e X.env) :: starEach es X.env := by rfl) : QVA X κ (e :: es) (za0 f g) :=
  (zp6 ha hr hs).imp fun σ H Q hh_ => by
    obtain ⟨ps, ds, w, e, q⟩ := hh_
    obtain ⟨d, es, e1, e2, rfl⟩ := ym8 e
    exact ⟨ps, d, w, e1, fun v H1 fp s1 r1 => ⟨ps, es, w.same s1, e2, fun vs H2 fq s2 r2 => q _ H2 _ (s1.trans s2) (.cons (r1.same s2) r2)⟩⟩
theorem ze0 : QPA X κ [] za2 := yc1.imp fun σ H Q ⟨ps, ds, w, e, q⟩ => by cases e; exact q [] H [] (.refl H) (fun _ h => absurd h (by simp)) List.nodup_nil .nil
theorem wa0 {K : PySem.W.Frag} {H1 : Hp} {v : V} {d : D} {fv fw : List Addr} (r : Rep K κ H1 v d fv) (n1 : fv.Nodup) (hw : ∀ a ∈ fw, H1 a = none) (n2 : fw.Nodup) : (fv ++ fw).Nodup := by
  rw [List.nodup_append]
  refine ⟨n1, n2, fun a ha b hb e => ?_⟩
  subst e
  obtain ⟨o, h, _⟩ := r.own a ha
  rw [hw a hb] at h; cases h
theorem zb7 (ha : QP X κ e f) (hr : QPA X κ es g) (hs : starEach (e :: es) X.env = (false, eval e X.env) :: starEach es X.env := by rfl) : QPA X κ (e :: es) (za0 f g) :=
  (zp6 ha hr hs).imp fun σ H Q hh_ => by
    obtain ⟨ps, ds, w, e, q⟩ := hh_
    obtain ⟨d, es, e1, e2, rfl⟩ := ym8 e
    refine ⟨ps, d, w, e1, fun v H1 fv s1 n1 nd1 r1 => ⟨ps, es, w.same s1, e2, fun vs H2 fw s2 n2 nd2 r2 => ?_⟩⟩
    refine q _ H2 (fv ++ fw) (s1.trans s2) (fun a ha => ?_) (wa0 r1 nd1 n2 nd2) (.cons (r1.same s2) r2)
    rcases List.mem_append.mp ha with z | z
    . exact n1 a z
    . exact s1.grow a (n2 a z)
noncomputable def zd3 (g : PSt -> Option (List D)) : PSt -> Option D := fun ps => (g ps).bind fun ds => if (D.imms ds && decide (ds.length <= 1000)) = true then some (.tup ds) else none
noncomputable def zc3 (g : PSt -> Option (List D)) : PSt -> Option D := fun ps => (g ps).bind fun ds => if ds.length <= 1000 then some (.lst true ds) else none
theorem zk8 {x1} (h : QPA X κ es g) : QP X κ (.Tuple es x1 pos) (zd3 g) :=
  (wq6 h).imp fun σ H Q hh_ => by
    obtain ⟨ps, d, w, e, q⟩ := hh_
    obtain ⟨ds, e1, e2⟩ := bind_some e
    obtain ⟨hc, e3⟩ := zh8 e2
    cases e3
    rw [Bool.and_eq_true, decide_eq_true_eq] at hc
    refine ⟨ps, ds, w, e1, fun vs H1 fv s1 n1 nd1 r1 => ⟨by rw [r1.length]; exact xf7 hc.2, fun p hp => ?_⟩⟩
    exact xp7 hp (r1.pair hc.1) (q.after s1)
theorem zk0 (h : QPA X κ es g) : QP X κ (.List es pos) (zc3 g) :=
  (wq7 h).imp fun σ H Q hh_ => by
    obtain ⟨ps, d, w, e, q⟩ := hh_
    obtain ⟨ds, e1, e2⟩ := bind_some e
    obtain ⟨hc, e3⟩ := zh8 e2
    cases e3
    refine ⟨ps, ds, w, e1, fun vs H1 fv s1 n1 nd1 r1 => ⟨by rw [r1.length]; exact xf7 hc, fun p hp => ?_⟩⟩
    refine q _ _ (p :: fv) (s1.trans (.new hp _)) (fun a ha => ?_) (List.nodup_cons.mpr ⟨fun hm => ?_, nd1⟩) (.lst zm0 (r1.same (.new hp _)))
    . rcases List.mem_cons.mp ha with z | z
      . rw [z]; exact s1.grow p hp
      . exact n1 a z
    . obtain ⟨o, h, _⟩ := r1.own p hm
      rw [hp] at h; cases h
noncomputable def dIx : D -> D -> Option D
  | .lst _ xs, .int i => atI xs i
  | .tup xs, .int i => atI xs i
  | .con xs, .int i => atI xs i
  | .str z, .int i => if z.length <= sizeLine then (atI z.cps.toList i).map fun c => .str ⟨#[c]⟩ else none
  | _, _ => none
theorem wa1 {K : PySem.W.Frag} {H : Hp} {x y : V} {dx dy d : D} {fx fy : List Addr} {Q : VK} (r1 : Rep K κ H x dx fx) (r2 : Rep K κ H y dy fy) (e : dIx dx dy = some d) (q : ∀ v f, Rep K κ H v d f -> f.Sublist fx -> Q v H) : rIx K x y H Q := by
  unfold dIx at e
  split at e
  . rename_i o xs i
    obtain ⟨a, vs, g, rfl, h, hs, sub⟩ := r1.lst_inv
    obtain ⟨v, f, h1, h2, h3⟩ := hs.atI e
    exact .inl ⟨a, vs, i, v, rfl, r2.is_int, .inl h, h1, q v f h2 (h3.trans sub)⟩
  . rename_i xs i
    obtain ⟨a, vs, rfl, h, hs⟩ := r1.tup_inv
    obtain ⟨v, f, h1, h2, h3⟩ := hs.atI e
    cases List.sublist_nil.mp h3
    exact .inr (.inl ⟨a, vs, i, v, rfl, r2.is_int, h, h1, q v [] h2 (List.nil_sublist _)⟩)
  . rename_i xs i
    obtain ⟨a, vs, rfl, h, hs⟩ := r1.con_inv
    obtain ⟨v, f, h1, h2, h3⟩ := hs.atI e
    cases List.sublist_nil.mp h3
    exact .inl ⟨a, vs, i, v, rfl, r2.is_int, h.l, h1, q v [] h2 (List.nil_sublist _)⟩
  . rename_i z i
    obtain ⟨hz, e⟩ := zh8 e
    obtain ⟨c, e1, e⟩ := Option.map_eq_some_iff.mp e
    subst e
    exact .inr (.inr ⟨z, i, c, r1.is_str, r2.is_int, hz, e1, q _ [] (.str _) (List.nil_sublist _)⟩)
  . cases e
theorem zk3 (ha : QV X κ a fa) (hb : QV X κ b fb) (hs : ye4 b := by exact fun _ _ => rfl) : QV X κ (.Subscript a b pos) (f2 dIx fa fb) :=
  (xf6 xy8 ha hb hs).imp fun σ H Q hh_ => by
    obtain ⟨ps, d, w, e, q⟩ := hh_
    obtain ⟨x, y, e1, e2, e3⟩ := yr7 e
    exact ⟨ps, x, w, e1, fun v H1 fp s1 r1 => ⟨ps, y, w.same s1, e2, fun u H2 fq s2 r2 => wa1 (r1.same s2) r2 e3 fun v f r _ => q v H2 f (s1.trans s2) r⟩⟩
theorem yg8 (ha : QP X κ a fa) (hb : QV X κ b fb) (hs : ye4 b := by exact fun _ _ => rfl) : QP X κ (.Subscript a b pos) (f2 dIx fa fb) :=
  (xf6 xy8 ha hb hs).imp fun σ H Q hh_ => by
    obtain ⟨ps, d, w, e, q⟩ := hh_
    obtain ⟨x, y, e1, e2, e3⟩ := yr7 e
    exact ⟨ps, x, w, e1, fun v H1 fv s1 n1 nd1 r1 => ⟨ps, y, w.same s1, e2, fun u H2 fq s2 r2 => wa1 (r1.same s2) r2 e3 fun v f r sub => q v H2 f (s1.trans s2) (fun c hc => n1 c (sub.subset hc)) (nd1.sublist sub) r⟩⟩
noncomputable def tO (K : PySem.W.Frag) (κ : Str -> Addr) (f : PSt -> Option (Option Int)) : TO := fun σ H Q => ∃ ps o, WS K κ H σ ps /\ f ps = some o /\ ∀ H', SameK H H' -> Q o H'
noncomputable abbrev QO (X : Cx) (κ : Str -> Addr) (e : Option Expr) (f : PSt -> Option (Option Int)) : Prop := PO X e (tO X.K κ f)
noncomputable def zs1 : PSt -> Option (Option Int) := fun _ => some none
noncomputable def ya2 (f : PSt -> Option D) : PSt -> Option (Option Int) := fun ps => (f ps).bind fun d => match d with
  | .int i => some (some i)
  | _ => none
theorem yh2 : QO X κ none zs1 := fun pins s σ H Q I ⟨ps, o, w, e, q⟩ => by cases e; exact wl5 pins s σ H Q I (q H (.refl H))
theorem yh3 (h : QV X κ e f) : QO X κ (some e) (ya2 f) := fun pins s σ H Q I hh_ => by
  obtain ⟨ps, o, w, e, q⟩ := hh_
  obtain ⟨d, e1, e2⟩ := bind_some e
  cases d with
  | int i => cases e2; exact wl6 h pins s σ H Q I ⟨ps, _, w, e1, fun v H1 fp s1 r1 => ⟨i, r1.is_int, q H1 s1⟩⟩
  | _ => cases e2
noncomputable def dSl : D -> Option Int -> Option Int -> Option D
  | .str z, lo, hi => if z.length <= sizeLine then some (.str (Txt.slice z lo hi)) else none
  | _, _, _ => none
noncomputable def PSl (K : PySem.W.Frag) (κ : Str -> Addr) : V -> Option Int -> Option Int -> Hp -> VK -> Prop := fun x lo hi H Q => ∃ dx d fx, Rep K κ H x dx fx /\ dSl dx lo hi = some d /\ zx2 K κ H d Q
theorem ws0 : SlR X (PSl X.K κ) := by
  rintro pins s σ H x v vl vu lo hi sl Q I rx hs pl pu ⟨dx, d, fx, r, e, q⟩
  unfold dSl at e
  split at e
  . obtain ⟨hc, e2⟩ := zh8 e
    cases e2
    exact wr5 pins s σ H _ v vl vu _ _ sl Q I rx hs pl pu ⟨_, r.is_str, hc, q.now (.str _)⟩
  . cases e
noncomputable def fSl (f : PSt -> Option D) (fl fh : PSt -> Option (Option Int)) : PSt -> Option D := fun ps => (f ps).bind fun d => (fl ps).bind fun l => (fh ps).bind fun h => dSl d l h
theorem yd6 {lo hi : Option Expr} {fl fh : PSt -> Option (Option Int)} (he : QV X κ e f) (hl : QO X κ lo fl) (hh : QO X κ hi fh) : QP X κ (.Subscript e (.Slice lo hi none p2) pos) (fSl f fl fh) :=
  (wf2 ws0 he hl hh).imp fun σ H Q hh_ => by
    obtain ⟨ps, d, w, e, q⟩ := hh_
    obtain ⟨d1, e1, e2⟩ := bind_some e
    obtain ⟨l, e3, e4⟩ := bind_some e2
    obtain ⟨h, e5, e6⟩ := bind_some e4
    exact ⟨ps, d1, w, e1, fun v H1 fp s1 r1 => ⟨ps, l, w.same s1, e3, fun H2 s2 => ⟨ps, h, (w.same s1).same s2, e5, fun H3 s3 => ⟨d1, d, fp, (r1.same s2).same s3, e6, q.after ((s1.trans s2).trans s3)⟩⟩⟩⟩
noncomputable def PCl (K : PySem.W.Frag) (κ : Str -> Addr) (g : List D -> Option D) : List V -> Hp -> VK -> Prop := fun vs H Q => ∃ ds fp d, Reps K κ H vs ds fp /\ g ds = some d /\ zx2 K κ H d Q
noncomputable def za3 (h : List D -> Option D) (g : PSt -> Option (List D)) : PSt -> Option D := fun ps => (g ps).bind h
theorem wa2 {h : List D -> Option D} {σ : St} {H : Hp} {Q : VK} (q : tP X.K κ (za3 h g) σ H Q) : tCB (PCl X.K κ h) (tVA X.K κ g) σ H Q := by
  obtain ⟨ps, d, w, e, q⟩ := q
  obtain ⟨ds, e1, e2⟩ := bind_some e
  exact ⟨ps, ds, w, e1, fun vs H1 fp s1 r1 => ⟨ds, fp, d, r1, e2, q.after s1⟩⟩
theorem zi7 {x : Str} {id : String} {p : Pos} {h : List D -> Option D} (hc : zl2 X (.builtin id) (PCl X.K κ h)) (hg : Gl X x) (hm : X.mg x = none) (hv : bootBuiltins x = some (.builtin id)) (ha : QVA X κ (e :: es) g) (hn : x ≠ "__name__" := by decide) (hdb : (x == ("__debug__" : Str)) = false := by decide)
    (hs : starEach (e :: es) X.env = (false, eval e X.env) :: starEach es X.env := by rfl) (hpl : (backTo pos (starEach es X.env)).any (·.1) = false := by rfl) : QP X κ (.Call (.Name x p) (e :: es) [] pos) (za3 h g) :=
  (yh5 hc hg hm hv ha hn hdb hs hpl).imp fun _ _ _ q => wa2 q
theorem zl9 {x : Str} {T : String} {p : Pos} {h : List D -> Option D} (hc : zl2 X (.type T) (PCl X.K κ h)) (hg : Gl X x) (hm : X.mg x = none) (hv : bootBuiltins x = some (.type T)) (ha : QVA X κ (e :: es) g) (hn : x ≠ "__name__" := by decide) (hdb : (x == ("__debug__" : Str)) = false := by decide)
    (hs : starEach (e :: es) X.env = (false, eval e X.env) :: starEach es X.env := by rfl) (hpl : (backTo pos (starEach es X.env)).any (·.1) = false := by rfl) : QP X κ (.Call (.Name x p) (e :: es) [] pos) (za3 h g) :=
  (xy7 hc hg hm hv ha hn hdb hs hpl).imp fun _ _ _ q => wa2 q
theorem Reps.two_inv {K : PySem.W.Frag} {H : Hp} {vs : List V} {d e : D} {fp : List Addr} (r : Reps K κ H vs [d, e] fp) : ∃ v u f g, vs = [v, u] /\ Rep K κ H v d f /\ Rep K κ H u e g := by
  obtain ⟨v, us, f, g, rfl, h, t, rfl⟩ := r.split
  obtain ⟨u, rfl, h2⟩ := t.one_inv
  exact ⟨v, u, f, g, rfl, h, h2⟩
noncomputable def zb9 : List D -> Option D
  | [.lst _ xs] => some (.int xs.length)
  | [.tup xs] => some (.int xs.length)
  | [.con xs] => some (.int xs.length)
  | [.str z] => if z.length <= sizeLine then some (.int z.length) else none
  | _ => none
theorem zt3 : zl2 X (.builtin "len") (PCl X.K κ zb9) := by
  rintro pins s σ H vs us Q I r ⟨ds, fp, d, rs, e, q⟩
  unfold zb9 at e
  split at e
  . cases e
    obtain ⟨v, rfl, r1⟩ := rs.one_inv
    obtain ⟨a, ws, g, rfl, h, hs, _⟩ := r1.lst_inv
    exact zu8 pins s σ H _ us Q I r ⟨a, ws, rfl, .inl (.inl h), by rw [hs.length]; exact q.now (.int _)⟩
  . cases e
    obtain ⟨v, rfl, r1⟩ := rs.one_inv
    obtain ⟨a, ws, rfl, h, hs⟩ := r1.tup_inv
    exact zu8 pins s σ H _ us Q I r ⟨a, ws, rfl, .inr h, by rw [hs.length]; exact q.now (.int _)⟩
  . cases e
    obtain ⟨v, rfl, r1⟩ := rs.one_inv
    obtain ⟨a, ws, rfl, h, hs⟩ := r1.con_inv
    exact zu8 pins s σ H _ us Q I r ⟨a, ws, rfl, .inl h.l, by rw [hs.length]; exact q.now (.int _)⟩
  . obtain ⟨hz, e⟩ := zh8 e
    cases e
    obtain ⟨v, rfl, r1⟩ := rs.one_inv
    exact xh3 pins s σ H _ us Q I r ⟨_, by rw [r1.is_str], hz, q.now (.int _)⟩
  . cases e
noncomputable def zn9 : List D -> Option D
  | [.int i, .int j] => some (.int (if j < i then j else i))
  | _ => none
theorem xi2 (hc : X.calm = true) : zl2 X (.builtin "min") (PCl X.K κ zn9) := by
  rintro pins s σ H vs us Q I r ⟨ds, fp, d, rs, e, q⟩
  unfold zn9 at e
  split at e
  . cases e
    obtain ⟨v, u, f, g, rfl, r1, r2⟩ := rs.two_inv
    exact xy3 hc pins s σ H _ us Q I r ⟨_, _, by rw [r1.is_int, r2.is_int], q.now (.int _)⟩
  . cases e
noncomputable def dTy : D -> Option String
  | .non => some "NoneType"
  | .bl _ => some "bool"
  | .int _ => some "int"
  | .str _ => some "str"
  | .lst _ _ => some "list"
  | .tup _ => some "tuple"
  | .dic true _ _ => some "dict"
  | _ => none
noncomputable def zj8 : List D -> Option D
  | [x, .ty c] => (dTy x).bind fun t => if c ∈ ["bool", "int", "str", "list", "tuple", "dict"] then some (.bl (zj4 t c)) else none
  | _ => none
theorem ws1 {K : PySem.W.Frag} {H : Hp} {v : V} {d : D} {fp : List Addr} {t : String} (r : Rep K κ H v d fp) (h : dTy d = some t) : (ym2 H v = some t \/ (t = "tuple" /\ ∃ a xs, v = .ref a /\ SqT K H a xs)) := by
  cases r with
  | non => cases h; exact .inl rfl
  | bl _ => cases h; exact .inl rfl
  | int _ => cases h; exact .inl rfl
  | str _ => cases h; exact .inl rfl
  | tup s _ => cases h; exact .inr ⟨rfl, _, _, rfl, s⟩
  | lst s _ => cases h; exact .inl (by simp [ym2, s])
  | lstF s _ => cases h; exact .inl (by simp [ym2, s])
  | dic s _ _ => cases h; exact .inl (by simp [ym2, s])
  | _ => cases h
theorem yg9 : zl2 X (.builtin "isinstance") (PCl X.K κ zj8) := by
  rintro pins s σ H vs us Q I r ⟨ds, fp, d, rs, e, q⟩
  unfold zj8 at e
  split at e
  . obtain ⟨t, e1, e2⟩ := bind_some e
    obtain ⟨hc, e3⟩ := zh8 e2
    cases e3
    obtain ⟨v, u, f, g, rfl, r1, r2⟩ := rs.two_inv
    cases r2
    rcases ws1 r1 e1 with h | ⟨rfl, a, xs, rfl, h⟩
    . exact wf6 pins s σ H _ us Q I r ⟨_, _, t, rfl, h, hc, q.now (.bl _)⟩
    . obtain ⟨u1, u2, rfl, rx, rc⟩ := xf5 r
      cases (show u2 = Value.type _ from rc)
      cases (show u1 = Value.ref a from rx)
      obtain ⟨its, rv, ⟨o, h1, h2, _⟩, _⟩ := I.tuple h
      exact PySem.W.kia_one PySem.W.kitx_tuple I.kIn ⟨o, h1, h2⟩ (xh5 X.K "tuple" (by decide) _ hc) (fun z => nomatch z) fun tk => ⟨.bl _, H, I.tok tk, rfl, q.now (.bl _)⟩
  . cases e
noncomputable def zc1 : List D -> Option D
  | [.lst _ xs] => if D.imms xs = true then some (.tup xs) else none
  | [.tup xs] => some (.tup xs)
  | _ => none
theorem zv0 : zl2 X (.type "tuple") (PCl X.K κ zc1) := by
  rintro pins s σ H vs us Q I r ⟨ds, fp, d, rs, e, q⟩
  unfold zc1 at e
  split at e
  . obtain ⟨hc, e⟩ := zh8 e
    cases e
    obtain ⟨v, rfl, r1⟩ := rs.one_inv
    obtain ⟨a, ws, g, rfl, h, hs, _⟩ := r1.lst_inv
    exact yo9 pins s σ H _ us Q I r ⟨a, ws, rfl, .inl ⟨.inl h, fun p hp => xp7 hp (hs.pair hc) q⟩⟩
  . cases e
    obtain ⟨v, rfl, r1⟩ := rs.one_inv
    obtain ⟨a, ws, rfl, h, hs⟩ := r1.tup_inv
    exact yo9 pins s σ H _ us Q I r ⟨a, ws, rfl, .inr ⟨h, q.now (.tup h hs)⟩⟩
  . cases e
noncomputable def zm1 : List D -> Option D
  | [.int i] => some (.int i)
  | [.bl k] => some (.int (if k then 1 else 0))
  | _ => none
theorem xf9 : zl2 X (.type "int") (PCl X.K κ zm1) := by
  rintro pins s σ H vs us Q I r ⟨ds, fp, d, rs, e, q⟩
  unfold zm1 at e
  split at e
  . cases e
    obtain ⟨v, rfl, r1⟩ := rs.one_inv
    exact xc2 pins s σ H _ us Q I r (.inl ⟨_, by rw [r1.is_int], q.now (.int _)⟩)
  . cases e
    obtain ⟨v, rfl, r1⟩ := rs.one_inv
    exact xc2 pins s σ H _ us Q I r (.inr ⟨_, by rw [r1.is_bl], q.now (.int _)⟩)
  . cases e
noncomputable def D.bools : List D -> Option (List Bool)
  | [] => some []
  | .bl b :: ds => (D.bools ds).map (b :: ·)
  | _ :: _ => none
theorem xi3 {K : PySem.W.Frag} {H : Hp} : ∀ {vs : List V} {ds : List D} {fp : List Addr} {ns : List Bool}, Reps K κ H vs ds fp -> D.bools ds = some ns -> vs = ns.map V.bl
  | _, _, _, _, .nil, e => by cases e; rfl
  | _, d :: ds, _, ns, .cons h hs, e => by
    cases d with
    | bl i =>
      rw [D.bools] at e
      cases e1 : D.bools ds with
      | none => rw [e1] at e; cases e
      | some ms => rw [e1] at e; cases e; rw [h.is_bl, xi3 hs e1]; rfl
    | _ => cases e
noncomputable def xm9 : List D -> Option D
  | [.lst _ xs] => (D.bools xs).map fun bs => .bl (bs.all id)
  | _ => none
theorem xu4 (hc : X.calm = true) : zl2 X (.builtin "all") (PCl X.K κ xm9) := by
  rintro pins s σ H vs us Q I r ⟨ds, fp, d, rs, e, q⟩
  unfold xm9 at e
  split at e
  . rename_i xs
    cases e1 : D.bools xs with
    | none => rw [e1] at e; cases e
    | some bs =>
      rw [e1] at e; cases e
      obtain ⟨v, rfl, r1⟩ := rs.one_inv
      obtain ⟨a, ws, g, rfl, h, hs, _⟩ := r1.lst_inv
      rw [xi3 hs e1] at h
      exact xz6 hc pins s σ H _ us Q I r ⟨a, bs, rfl, .inl h, q.now (.bl _)⟩
  . cases e
noncomputable def zl8 : List D -> Option D
  | [.int i] => if i.natAbs.log2 < 1920 then some (.str (toString i)) else none
  | _ => none
theorem yw6 : zl2 X (.type "str") (PCl X.K κ zl8) := by
  rintro pins s σ H vs us Q I r ⟨ds, fp, d, rs, e, q⟩
  unfold zl8 at e
  split at e
  . obtain ⟨hc, e⟩ := zh8 e
    cases e
    obtain ⟨v, rfl, r1⟩ := rs.one_inv
    exact xg8 pins s σ H _ us Q I r ⟨_, by rw [r1.is_int], hc, q.now (.str _)⟩
  . cases e
noncomputable def PMt (K : PySem.W.Frag) (κ : Str -> Addr) (g : D -> List D -> Option D) : V -> List V -> Hp -> VK -> Prop := fun x vs H Q => ∃ dx ds fx fp d, Rep K κ H x dx fx /\ Reps K κ H vs ds fp /\ g dx ds = some d /\ zx2 K κ H d Q
noncomputable def wk0 : D -> Bool
  | .str _ => true
  | _ => false
noncomputable def fMt (h : D -> List D -> Option D) (f : PSt -> Option D) (g : PSt -> Option (List D)) : PSt -> Option D := fun ps => (f ps).bind fun x => (g ps).bind fun ds => if wk0 x = true then h x ds else none
theorem ym9 {name : Str} {id : String} {apos : Pos} {h : D -> List D -> Option D} (slot : Slot "str" name id) (hty : typeOf (.builtin id) = pure (.type "method_descriptor")) (hm : MtR X id (PMt X.K κ h)) (ho : QV X κ a fa) (ha : QVA X κ (e :: es) g)
    (hbase : attributeBase a name X.env (eval a X.env) = eval a X.env := by rfl)
    (hfew : ((backTo pos (starEach (e :: es) X.env)).all (fun x => !x.1) && (backToKw pos (keywordEach [] X.env)).all (fun x => x.1.isSome)
      && decide ((e :: es).length + ([] : List Keyword).length + (if ([] : List Keyword).isEmpty then 0 else 1) < 30)) = true := by rfl)
    (hline : (apos.endLine == pos.line) = true := by rfl) (hs : starEach (e :: es) X.env = (false, eval e X.env) :: starEach es X.env := by rfl) (hplain : (backTo pos (starEach es X.env)).any (·.1) = false := by rfl) :
    QP X κ (.Call (.Attribute a name apos) (e :: es) [] pos) (fMt h fa g) :=
  (wj2 PySem.F.plainAttrs_str slot hty hm ho ha hbase hfew hline hs hplain).imp fun σ H Q hh_ => by
    obtain ⟨ps, d, w, e, q⟩ := hh_
    obtain ⟨x, e1, e2⟩ := bind_some e
    obtain ⟨ds, e3, e4⟩ := bind_some e2
    obtain ⟨hc, e5⟩ := zh8 e4
    refine ⟨ps, x, w, e1, fun v H1 fp s1 r1 => ⟨?_, ps, ds, w.same s1, e3, fun vs H2 fq s2 r2 => ⟨x, ds, fp, fq, d, r1.same s2, r2, e5, q.after (s1.trans s2)⟩⟩⟩
    cases x with
    | str z => rw [r1.is_str]; rfl
    | _ => cases hc
noncomputable def zu7 (l : List Str) : List D := l.map .str
theorem xd4 {K : PySem.W.Frag} {H : Hp} : ∀ l : List Str, Paired (fun v d => Rep K κ H v d []) (l.map V.str) (zu7 l)
  | [] => .nil
  | x :: l => .cons (.str x) (xd4 l)
noncomputable def ym3 : D -> List D -> Option D
  | .str z, [.str y] => if ((y.length == 0) = false /\ z.length < 1000000) then some (.lst true (zu7 (Txt.split z y))) else none
  | _, _ => none
theorem xb0 : MtR X "str.split" (PMt X.K κ ym3) := by
  rintro pins s σ H x vs v us Q I rx r ⟨dx, ds, fx, fp, d, r1, rs, e, q⟩
  unfold ym3 at e
  split at e
  . obtain ⟨hc, e⟩ := zh8 e
    cases e
    obtain ⟨w, rfl, r2⟩ := rs.one_inv
    exact wf8 pins s σ H x _ v us Q I rx r ⟨_, _, r1.is_str, by rw [r2.is_str], hc.1, hc.2, fun p hp => xp6 hp (xd4 _) q⟩
  . cases e
noncomputable def D.strs : List D -> Option (List Str)
  | [] => some []
  | .str b :: ds => (D.strs ds).map (b :: ·)
  | _ :: _ => none
theorem xq0 {K : PySem.W.Frag} {H : Hp} : ∀ {vs : List V} {ds : List D} {fp : List Addr} {ns : List Str}, Reps K κ H vs ds fp -> D.strs ds = some ns -> vs = ns.map V.str
  | _, _, _, _, .nil, e => by cases e; rfl
  | _, d :: ds, _, ns, .cons h hs, e => by
    cases d with
    | str i =>
      rw [D.strs] at e
      cases e1 : D.strs ds with
      | none => rw [e1] at e; cases e
      | some ms => rw [e1] at e; cases e; rw [h.is_str, xq0 hs e1]; rfl
    | _ => cases e
noncomputable def yj5 : D -> List D -> Option D
  | .str z, [.lst _ xs] => (D.strs xs).bind fun ys => if (z.length <= 16 /\ (ys.map (·.length)).sum + ys.length <= 1048576) then some (.str (Txt.join z ys)) else none
  | _, _ => none
theorem xi4 : MtR X "str.join" (PMt X.K κ yj5) := by
  rintro pins s σ H x vs v us Q I rx r ⟨dx, ds, fx, fp, d, r1, rs, e, q⟩
  unfold yj5 at e
  split at e
  . obtain ⟨ys, e1, e2⟩ := bind_some e
    obtain ⟨hc, e⟩ := zh8 e2
    cases e
    obtain ⟨w, rfl, r2⟩ := rs.one_inv
    obtain ⟨a, ws, g, rfl, h, hs, _⟩ := r2.lst_inv
    rw [xq0 hs e1] at h
    exact wm0 pins s σ H x _ v us Q I rx r ⟨_, a, ys, r1.is_str, rfl, .inl h, hc.1, hc.2, q.now (.str _)⟩
  . cases e
end
end L2
namespace L2
open PySem PySem.Spec PyProof.Rows
structure Fx where
  K : PySem.W.Frag
  κ : Str -> Addr
  bor : Nat -> Bool
  M : Nat -> Bool
  B : Nat -> Addr -> Prop
structure RS (φ : Fx) (H : Hp) (σ : St) (ps : PSt) (F : Nat -> List Addr) : Prop where
  rep : ∀ (i : Nat) (d : D), ps[i]? = some (some d) -> ∃ v fp, σ[i]? = some (some v) /\ Rep φ.K φ.κ H v d fp /\ (φ.bor i = false -> fp = F i) /\ (φ.bor i = true -> ∀ a ∈ fp, φ.B i a)
  emp : ∀ i a, a ∈ F i -> φ.bor i = false /\ ∃ d, ps[i]? = some (some d)
  dis : ∀ i j a, a ∈ F i -> a ∈ F j -> i = j
  nd : ∀ i, (F i).Nodup
  nb : ∀ i a, a ∈ F i -> ∀ k, ¬ φ.B k a
  bt : ∀ k a, φ.B k a -> H a ≠ none
  len : ps.length <= σ.length
structure Frm (F : Nat -> List Addr) (H H' : Hp) : Prop where
  keep : ∀ a o, H a = some o -> kd o = true -> (∀ i, a ∉ F i) -> H' a = some o
  grow : ∀ a, H' a = none -> H a = none
structure Stp (φ : Fx) (σ : St) (H : Hp) (F : Nat -> List Addr) (σ' : St) (H' : Hp) (ps' : PSt) (F' : Nat -> List Addr) : Prop where
  fr : Frm F H H'
  nw : ∀ i a, a ∈ F' i -> (∃ j, a ∈ F j) \/ H a = none
  rs : RS φ H' σ' ps' F'
  msk : ∀ i, φ.M i = true -> σ'[i]? = σ[i]?
structure OwnV (F : Nat -> List Addr) (H : Hp) (F' : Nat -> List Addr) (fv : List Addr) : Prop where
  nw : ∀ a ∈ fv, (∃ j, a ∈ F j) \/ H a = none
  nd : fv.Nodup
  dis : ∀ i, ∀ a ∈ F' i, a ∉ fv
section
variable {φ : Fx} {H H' H1 H2 : Hp} {σ σ1 σ2 : St} {ps ps1 ps2 : PSt} {F F1 F2 : Nat -> List Addr}
theorem RS.own (R : RS φ H σ ps F) {i : Nat} {a : Addr} (h : a ∈ F i) : ∃ o, H a = some o /\ kd o = true /\ tf o = false := by
  obtain ⟨b, d, e⟩ := R.emp i a h
  obtain ⟨v, fp, _, r, q, _⟩ := R.rep i d e
  rw [<- q b] at h
  exact r.own a h
theorem RS.ws (R : RS φ H σ ps F) : WS φ.K φ.κ H σ ps := fun i d h => by
  obtain ⟨v, fp, h1, h2, _⟩ := R.rep i d h
  exact ⟨v, fp, h1, h2⟩
theorem RS.same (R : RS φ H σ ps F) (s : SameK H H') : RS φ H' σ ps F :=
  ⟨fun i d h => by obtain ⟨v, fp, h1, h2, h3⟩ := R.rep i d h; exact ⟨v, fp, h1, h2.same s, h3⟩, R.emp, R.dis, R.nd, R.nb, fun k a h z => R.bt k a h (s.grow a z), R.len⟩
theorem RS.notB (R : RS φ H σ ps F) {a : Addr} (h : (∃ j, a ∈ F j) \/ H a = none) : ∀ k, ¬ φ.B k a := fun k hb => h.elim (fun ⟨j, hj⟩ => R.nb j a hj k hb) fun z => R.bt k a hb z
theorem Stp.same (R : RS φ H σ ps F) (s : SameK H H') : Stp φ σ H F σ H' ps F :=
  ⟨⟨fun a o h k _ => s.keep a o h k, s.grow⟩, fun i a h => .inl ⟨i, h⟩, R.same s, fun _ _ => rfl⟩
theorem Stp.refl (R : RS φ H σ ps F) : Stp φ σ H F σ H ps F := .same R (.refl H)
theorem Stp.trans (s1 : Stp φ σ H F σ1 H1 ps1 F1) (s2 : Stp φ σ1 H1 F1 σ2 H2 ps2 F2) : Stp φ σ H F σ2 H2 ps2 F2 := by
  refine ⟨⟨fun a o h k n => s2.fr.keep a o (s1.fr.keep a o h k n) k fun i hi => ?_, fun a h => s1.fr.grow a (s2.fr.grow a h)⟩, fun i a h => ?_, s2.rs, fun i h => (s2.msk i h).trans (s1.msk i h)⟩
  . rcases s1.nw i a hi with ⟨j, hj⟩ | z
    . exact n j hj
    . rw [h] at z; cases z
  . rcases s2.nw i a h with ⟨j, hj⟩ | z
    . exact s1.nw j a hj
    . exact .inr (s1.fr.grow a z)
theorem OwnV.after {fv : List Addr} (s1 : Stp φ σ H F σ1 H1 ps1 F1) (o : OwnV F1 H1 F2 fv) : OwnV F H F2 fv :=
  ⟨fun a ha => (o.nw a ha).elim (fun ⟨j, hj⟩ => s1.nw j a hj) fun z => .inr (s1.fr.grow a z), o.nd, o.dis⟩
theorem OwnV.new {fv : List Addr} (R : RS φ H σ ps F) (n : ∀ a ∈ fv, H a = none) (nd : fv.Nodup) : OwnV F H F fv :=
  ⟨fun a ha => .inr (n a ha), nd, fun i a ha hb => by obtain ⟨o, h, _⟩ := R.own ha; rw [n a hb] at h; cases h⟩
noncomputable def yk3 (F : Nat -> List Addr) (i : Nat) (fv : List Addr) : Nat -> List Addr := fun j => if j = i then fv else F j
theorem zn3 {i : Nat} {fv : List Addr} : yk3 F i fv i = fv := by simp [yk3]
theorem zn5 {i j : Nat} {fv : List Addr} (h : j ≠ i) : yk3 F i fv j = F j := by simp [yk3, h]
theorem zw0 {i : Nat} {fv : List Addr} {j : Nat} {a : Addr} (h : a ∈ yk3 F i fv j) : a ∈ fv \/ a ∈ F j := by
  by_cases e : j = i
  . subst e; rw [zn3] at h; exact .inl h
  . rw [zn5 e] at h; exact .inr h
theorem RS.drop (R : RS φ H σ ps F) (i : Nat) : RS φ H σ (ps.set i none) (yk3 F i []) := by
  have eF : ∀ j a, a ∈ yk3 F i [] j -> j ≠ i /\ a ∈ F j := fun j a h => by
    by_cases e : j = i
    . subst e; rw [zn3] at h; exact absurd h (by simp)
    . rw [zn5 e] at h; exact ⟨e, h⟩
  refine ⟨fun j d h => ?_, fun j a h => ?_, fun j k a h1 h2 => R.dis j k a (eF j a h1).2 (eF k a h2).2, fun j => ?_, fun j a h => R.nb j a (eF j a h).2, R.bt, by simpa using R.len⟩
  . have e : j ≠ i := by
      rintro rfl
      by_cases hj : j < ps.length
      . rw [List.getElem?_set_self hj] at h; cases h
      . rw [List.getElem?_eq_none (by simpa using hj)] at h; cases h
    rw [List.getElem?_set_ne (fun z => e z.symm)] at h
    rw [zn5 e]
    exact R.rep j d h
  . obtain ⟨e, h⟩ := eF j a h
    obtain ⟨b, d, q⟩ := R.emp j a h
    exact ⟨b, d, by rw [List.getElem?_set_ne (fun z => e z.symm)]; exact q⟩
  . by_cases e : j = i
    . subst e; rw [zn3]; exact List.nodup_nil
    . rw [zn5 e]; exact R.nd j
theorem RS.set (R : RS φ H σ ps F) {i : Nat} {v : V} {d : D} {fv : List Addr} (r : Rep φ.K φ.κ H v d fv) (hb : φ.bor i = false \/ fv = []) (hd : ∀ j, j ≠ i -> ∀ a ∈ F j, a ∉ fv) (hn : fv.Nodup) (hB : ∀ a ∈ fv, ∀ k, ¬ φ.B k a) :
    RS φ H (σ.set i (some v)) (ps.set i (some d)) (yk3 F i (if i < ps.length then fv else [])) := by
  by_cases hi : i < ps.length
  . rw [if_pos hi]
    have hl := R.len
    refine ⟨fun j d' h => ?_, fun j a h => ?_, fun j k a h1 h2 => ?_, fun j => ?_, fun j a h => ?_, R.bt, by simpa using R.len⟩
    . by_cases e : j = i
      . subst e
        rw [List.getElem?_set_self hi] at h
        cases h
        refine ⟨v, fv, by rw [List.getElem?_set_self (by omega)], r, fun _ => zn3.symm, fun z => ?_⟩
        rcases hb with q | q
        . rw [q] at z; cases z
        . subst q; intro a ha; exact absurd ha (by simp)
      . rw [List.getElem?_set_ne (fun z => e z.symm)] at h |-
        rw [zn5 e]
        exact R.rep j d' h
    . by_cases e : j = i
      . subst e
        rw [zn3] at h
        refine ⟨?_, d, by rw [List.getElem?_set_self hi]⟩
        rcases hb with q | q
        . exact q
        . subst q; exact absurd h (by simp)
      . rw [zn5 e] at h
        obtain ⟨b, d', q⟩ := R.emp j a h
        exact ⟨b, d', by rw [List.getElem?_set_ne (fun z => e z.symm)]; exact q⟩
    . by_cases e1 : j = i
      . by_cases e2 : k = i
        . rw [e1, e2]
        . subst e1; rw [zn3] at h1; rw [zn5 e2] at h2; exact absurd h1 (hd k e2 a h2)
      . by_cases e2 : k = i
        . subst e2; rw [zn3] at h2; rw [zn5 e1] at h1; exact absurd h2 (hd j e1 a h1)
        . rw [zn5 e1] at h1; rw [zn5 e2] at h2; exact R.dis j k a h1 h2
    . by_cases e : j = i
      . subst e; rw [zn3]; exact hn
      . rw [zn5 e]; exact R.nd j
    . rcases zw0 h with z | z
      . exact hB a z
      . exact R.nb j a z
  . rw [if_neg hi]
    have e0 : ps.set i (some d) = ps := List.set_eq_of_length_le (by omega)
    rw [e0]
    have R' := R.drop i
    rw [List.set_eq_of_length_le (by omega)] at R'
    refine ⟨fun j d' h => ?_, R'.emp, R'.dis, R'.nd, R'.nb, R'.bt, by simpa using R.len⟩
    have hj : j ≠ i := by
      rintro rfl
      have := (List.getElem?_eq_some_iff.mp h).1
      omega
    rw [List.getElem?_set_ne (fun z => hj z.symm)]
    exact R'.rep j d' h
theorem Stp.set {fv : List Addr} {i : Nat} {v : V} {d : D} (s1 : Stp φ σ H F σ1 H1 ps1 F1) (o : OwnV F H F1 fv) (R : RS φ H σ ps F) (r : Rep φ.K φ.κ H1 v d fv) (hb : φ.bor i = false \/ fv = []) (hm : φ.M i = false) :
    ∃ F', Stp φ σ H F (σ1.set i (some v)) H1 (ps1.set i (some d)) F' := by
  refine ⟨_, s1.fr, fun j a h => ?_, s1.rs.set r hb (fun j _ => o.dis j) o.nd fun a ha => R.notB (o.nw a ha), fun j h => ?_⟩
  . rcases zw0 h with z | z
    . by_cases k : i < ps1.length
      . rw [if_pos k] at z; exact o.nw a z
      . rw [if_neg k] at z; exact absurd z (by simp)
    . exact s1.nw j a z
  . rw [List.getElem?_set_ne (fun z => by subst z; rw [hm] at h; cases h)]
    exact s1.msk j h
end
inductive Fl where
  | nx | bk | ct | ret (d : D)
noncomputable def ys8 (φ : Fx) (E : Ends) (σ : St) (H : Hp) (F : Nat -> List Addr) (fl : Fl) (ps' : PSt) : Prop := match fl with
  | .nx => ∀ σ' H' F', Stp φ σ H F σ' H' ps' F' -> E.nx σ' H'
  | .bk => ∀ σ' H' F', Stp φ σ H F σ' H' ps' F' -> E.bk σ' H'
  | .ct => ∀ σ' H' F', Stp φ σ H F σ' H' ps' F' -> E.ct σ' H'
  | .ret d => ∀ v σ' H' F' fv, Stp φ σ H F σ' H' ps' F' -> OwnV F H F' fv -> Rep φ.K φ.κ H' v d fv -> E.rt v H'
noncomputable def tS (φ : Fx) (f : PSt -> Option (Fl × PSt)) : TS := fun E σ H => ∃ ps F fl ps', RS φ H σ ps F /\ f ps = some (fl, ps') /\ ys8 φ E σ H F fl ps'
noncomputable def tE (φ : Fx) (f : PSt -> Option (D × PSt)) : TE := fun σ H Q => ∃ ps F d ps', RS φ H σ ps F /\ f ps = some (d, ps') /\ ∀ v H' F' fv, Stp φ σ H F σ H' ps' F' -> OwnV F H F' fv -> Rep φ.K φ.κ H' v d fv -> Q v H'
noncomputable def tTE (φ : Fx) (f : PSt -> Option (Bool × PSt)) : TT := fun σ H Q => ∃ ps F b ps', RS φ H σ ps F /\ f ps = some (b, ps') /\ ∀ H' F', Stp φ σ H F σ H' ps' F' -> Q b H'
structure F0 where
  bor : Nat -> Bool
  M : Nat -> Bool
  B : Nat -> Addr -> Prop
noncomputable def F0.fx (φ : F0) (K : PySem.W.Frag) (κ : Str -> Addr) : Fx := ⟨K, κ, φ.bor, φ.M, φ.B⟩
noncomputable abbrev QS (X : Cx) (κ : Str -> Addr) (φ : F0) (st : Stmt) (f : PSt -> Option (Fl × PSt)) : Prop := PS X st (tS (φ.fx X.K κ) f)
noncomputable abbrev QSs (X : Cx) (κ : Str -> Addr) (φ : F0) (st : List Stmt) (f : PSt -> Option (Fl × PSt)) : Prop := PSs X st (tS (φ.fx X.K κ) f)
noncomputable abbrev QE (X : Cx) (κ : Str -> Addr) (φ : F0) (e : Expr) (f : PSt -> Option (D × PSt)) : Prop := PE X e (tE (φ.fx X.K κ) f)
noncomputable abbrev QTE (X : Cx) (κ : Str -> Addr) (φ : F0) (e : Expr) (f : PSt -> Option (Bool × PSt)) : Prop := PT X e (tTE (φ.fx X.K κ) f)
theorem yu2 {φ : Fx} {f : PSt -> Option (Fl × PSt)} {E : Ends} {σ σ1 : St} {H H1 : Hp} {F F1 : Nat -> List Addr} {ps1 ps2 : PSt} {fl : Fl} (s1 : Stp φ σ H F σ1 H1 ps1 F1) (e : f ps1 = some (fl, ps2)) (q : ys8 φ E σ H F fl ps2) : tS φ f E σ1 H1 := by
  refine ⟨ps1, F1, fl, ps2, s1.rs, e, ?_⟩
  cases fl with
  | nx => exact fun σ' H' F' s => q σ' H' F' (s1.trans s)
  | bk => exact fun σ' H' F' s => q σ' H' F' (s1.trans s)
  | ct => exact fun σ' H' F' s => q σ' H' F' (s1.trans s)
  | ret d => exact fun v σ' H' F' fv s o r => q v σ' H' F' fv (s1.trans s) (o.after s1) r
noncomputable def za7 : PSt -> Option (Fl × PSt) := fun ps => some (.nx, ps)
noncomputable def za9 (f g : PSt -> Option (Fl × PSt)) : PSt -> Option (Fl × PSt) := fun ps => (f ps).bind fun r => match r with
  | (.nx, ps') => g ps'
  | (.bk, ps') => some (.bk, ps')
  | (.ct, ps') => some (.ct, ps')
  | (.ret d, ps') => some (.ret d, ps')
noncomputable def yd1 : PSt -> Option (Fl × PSt) := fun _ => none
section
variable {X : Cx} {κ : Str -> Addr} {φ : F0} {st : Stmt} {rest : List Stmt} {f g : PSt -> Option (Fl × PSt)} {pos : Pos}
theorem zg5 : QSs X κ φ [] za7 := xo7.imp fun E σ H ⟨ps, F, fl, ps', R, e, q⟩ => by cases e; exact q σ H F (.refl R)
theorem zc5 (h : QS X κ φ st f) : QSs X κ φ [st] f := yr4 h
theorem zc4 (h1 : QS X κ φ st f) (h2 : QSs X κ φ rest g) : QSs X κ φ (st :: rest) (za9 f g) :=
  (ya8 h1 h2).imp fun E σ H hh_ => by
    obtain ⟨ps, F, fl, ps', R, e, q⟩ := hh_
    obtain ⟨⟨fl1, ps1⟩, e1, e2⟩ := bind_some e
    refine ⟨ps, F, fl1, ps1, R, e1, ?_⟩
    cases fl1 with
    | nx => exact fun σ' H' F' s => yu2 s e2 q
    | bk => cases e2; exact q
    | ct => cases e2; exact q
    | ret d => cases e2; exact q
theorem yh7 : QS X κ φ st yd1 := we4.imp fun E σ H ⟨ps, F, fl, ps', R, e, q⟩ => by cases e
noncomputable def za5 (f : PSt -> Option D) : PSt -> Option (D × PSt) := fun ps => (f ps).bind fun d => some (d, ps)
theorem QP.e {e : Expr} {f : PSt -> Option D} (h : PE X e (tP X.K κ f)) : QE X κ φ e (za5 f) := h.imp fun σ H Q hh_ => by
  obtain ⟨ps, F, d, ps', R, e, q⟩ := hh_
  obtain ⟨d1, e1, e2⟩ := bind_some e
  cases e2
  exact ⟨ps, _, R.ws, e1, fun v H' fv s n nd r => q v H' F fv (.same R s) (.new R n nd) r⟩
noncomputable def za4 (f : PSt -> Option Bool) : PSt -> Option (Bool × PSt) := fun ps => (f ps).bind fun d => some (d, ps)
theorem QT.e {e : Expr} {f : PSt -> Option Bool} (h : PT X e (tQ X.K κ f)) : QTE X κ φ e (za4 f) := h.imp fun σ H Q hh_ => by
  obtain ⟨ps, F, d, ps', R, e, q⟩ := hh_
  obtain ⟨d1, e1, e2⟩ := bind_some e
  cases e2
  exact ⟨ps, _, R.ws, e1, fun H' s => q H' F (.same R s)⟩
noncomputable def zb1 (i : Nat) (f : PSt -> Option (D × PSt)) : PSt -> Option (Fl × PSt) := fun ps => (f ps).bind fun r => some (.nx, r.2.set i (some r.1))
theorem zi5 (i : Nat) {x : Str} {e : Expr} {pos' : Pos} {f : PSt -> Option (D × PSt)} (hN : X.N.Nodup) (hi : X.N[i]? = some x) (hx : Loc X.env.scope x) (hb : φ.bor i = false) (hm : φ.M i = false) (he : QE X κ φ e f) (hs : swapsWith e (some (.Name x pos')) pos.line X.env = pure false := by rfl) (hf : X.fn x = true \/ X.env.scope.names.lookup x = some .local := by first | exact .inl rfl | exact .inr rfl | assumption) :
    QS X κ φ (.Assign [.Name x pos'] e pos) (zb1 i f) := (yk9 hN hi hx he hs hf).imp fun E σ H hh_ => by
  obtain ⟨ps, F, fl, ps', R, e, q⟩ := hh_
  obtain ⟨⟨d, ps1⟩, e1, e2⟩ := bind_some e
  cases e2
  refine ⟨ps, F, d, ps1, R, e1, fun v H' F' fv s o r => ?_⟩
  obtain ⟨F2, s2⟩ := s.set o R r (.inl hb) hm (i := i)
  exact q _ _ F2 s2
noncomputable def zc0 (f : PSt -> Option (D × PSt)) : PSt -> Option (Fl × PSt) := fun ps => (f ps).bind fun r => some (.nx, r.2)
theorem zm3 {e : Expr} {f : PSt -> Option (D × PSt)} (he : QE X κ φ e f) (hs : swapsWith e none pos.line X.env = pure false := by rfl) : QS X κ φ (.Expr e pos) (zc0 f) := (wl0 he hs).imp fun E σ H hh_ => by
  obtain ⟨ps, F, fl, ps', R, e, q⟩ := hh_
  obtain ⟨⟨d, ps1⟩, e1, e2⟩ := bind_some e
  cases e2
  exact ⟨ps, F, d, ps1, R, e1, fun v H' F' fv s o r => q _ _ F' s⟩
noncomputable def zb4 (f : PSt -> Option (D × PSt)) : PSt -> Option (Fl × PSt) := fun ps => (f ps).bind fun r => some (.ret r.1, r.2)
theorem zh6 {e : Expr} {f : PSt -> Option (D × PSt)} (he : QE X κ φ e f) : QS X κ φ (.Return (some e) pos) (zb4 f) := (yp2 he).imp fun E σ H hh_ => by
  obtain ⟨ps, F, fl, ps', R, e, q⟩ := hh_
  obtain ⟨⟨d, ps1⟩, e1, e2⟩ := bind_some e
  cases e2
  exact ⟨ps, F, d, ps1, R, e1, fun v H' F' fv s o r => q v σ H' F' fv s o r⟩
noncomputable def zj9 (i : Nat) : PSt -> Option (Fl × PSt) := fun ps => ((ps[i]?).join).bind fun d => some (.ret d, ps.set i none)
theorem join_some {ps : PSt} {i : Nat} {d : D} (h : (ps[i]?).join = some d) : ps[i]? = some (some d) := by
  cases q : ps[i]? with
  | none => rw [q] at h; cases h
  | some o => rw [q] at h; exact congrArg some h
theorem yl3 (i : Nat) {x : Str} {p : Pos} (hb : φ.bor i = false) (hN : X.N[i]? = some x := by rfl) (hv : Vis X.env.scope x := by first | exact Or.inl rfl | exact Or.inr (Or.inl rfl) | exact Or.inr (Or.inr rfl)) (hd : (x == ("__debug__" : Str)) = false := by decide)
    (hcd : (x == ("__classdict__" : Str)) = false := by decide) : QS X κ φ (.Return (some (.Name x p)) pos) (zj9 i) := (yp2 (yk8 hN hv hd hcd)).imp fun E σ H hh_ => by
  obtain ⟨ps, F, fl, ps', R, e, q⟩ := hh_
  obtain ⟨d, e1, e2⟩ := bind_some e
  cases e2
  obtain ⟨v, fp, h1, h2, h3, _⟩ := R.rep i d (join_some e1)
  have h3 := h3 hb
  subst h3
  refine ⟨v, h1, q v σ H (yk3 F i []) (F i) ⟨⟨fun a o h _ _ => h, fun a h => h⟩, fun j a h => ?_, R.drop i, fun _ _ => rfl⟩ ⟨fun a h => .inl ⟨i, h⟩, R.nd i, fun j a h1 h2 => ?_⟩ h2⟩
  . rcases zw0 h with z | z
    . exact absurd z (by simp)
    . exact .inl ⟨j, z⟩
  . rcases zw0 h1 with z | z
    . exact absurd z (by simp)
    . have := R.dis j i a z h2
      subst this
      rw [zn3] at h1; exact absurd h1 (by simp)
noncomputable def fIf (c : PSt -> Option (Bool × PSt)) (f g : PSt -> Option (Fl × PSt)) : PSt -> Option (Fl × PSt) := fun ps => (c ps).bind fun r => if r.1 = true then f r.2 else g r.2
theorem zh7 {c : Expr} {a b : List Stmt} {tc : PSt -> Option (Bool × PSt)} (hc : QTE X κ φ c tc) (ha : QSs X κ φ a f) (hb : QSs X κ φ b g) : QS X κ φ (.If c a b pos) (fIf tc f g) := (wj0 hc ha hb).imp fun E σ H hh_ => by
  obtain ⟨ps, F, fl, ps', R, e, q⟩ := hh_
  obtain ⟨⟨k, ps1⟩, e1, e2⟩ := bind_some e
  refine ⟨ps, F, k, ps1, R, e1, fun H' F' s => ?_⟩
  cases k with
  | true => rw [if_pos rfl] at e2 |-; exact yu2 s e2 q
  | false => rw [if_neg Bool.false_ne_true] at e2 |-; exact yu2 s e2 q
end
end L2
namespace L2
open PySem PySem.Spec PyProof.Rows
noncomputable def zw7 (c : PSt -> Option (Bool × PSt)) (f : PSt -> Option (Fl × PSt)) : Nat -> PSt -> Option (Fl × PSt)
  | 0, _ => none
  | n + 1, ps => (c ps).bind fun r => if r.1 = true then (f r.2).bind fun q => match q with
      | (.nx, p) => zw7 c f n p
      | (.ct, p) => zw7 c f n p
      | (.bk, p) => some (.nx, p)
      | (.ret d, p) => some (.ret d, p)
    else some (.nx, r.2)
section
variable {X : Cx} {φ : Fx} {pos : Pos} {body : List Stmt} {f : PSt -> Option (Fl × PSt)}
theorem ys8.back {E : Ends} {σ σ1 : St} {H H1 : Hp} {F F1 : Nat -> List Addr} {ps1 ps2 : PSt} {fl : Fl} (s1 : Stp φ σ H F σ1 H1 ps1 F1) (q : ys8 φ E σ H F fl ps2) : ys8 φ E σ1 H1 F1 fl ps2 := by
  cases fl with
  | nx => exact fun σ' H' F' s => q σ' H' F' (s1.trans s)
  | bk => exact fun σ' H' F' s => q σ' H' F' (s1.trans s)
  | ct => exact fun σ' H' F' s => q σ' H' F' (s1.trans s)
  | ret d => exact fun v σ' H' F' fv s o r => q v σ' H' F' fv (s1.trans s) (o.after s1) r
theorem yu3 {κ : Str -> Addr} {φ : F0} (n : Nat) {c : Expr} {tc : PSt -> Option (Bool × PSt)} (hp : PassesOwn (model X.prog X.w) X.A X.env X.xe) (hc : QTE X κ φ c tc) (hb : QSs X κ φ body f) : QS X κ φ (.While c body [] pos) (zw7 tc f n) :=
  (we5 hp hc hb).imp fun E σ H hh_ => by
    obtain ⟨ps, F, fl, ps', R, e, q⟩ := hh_
    refine ⟨fun m σ1 H1 => ∃ ps1 F1, Stp (φ.fx X.K κ) σ H F σ1 H1 ps1 F1 /\ zw7 tc f m ps1 = some (fl, ps'), ⟨n, ps, F, .refl R, e⟩, ?_⟩
    rintro m σ1 H1 ⟨ps1, F1, s1, e1⟩
    cases m with
    | zero => cases e1
    | succ m =>
      rw [zw7] at e1
      obtain ⟨⟨k, ps2⟩, e2, e3⟩ := bind_some e1
      refine ⟨ps1, F1, k, ps2, s1.rs, e2, fun H2 F2 s2 => ?_⟩
      have s12 := s1.trans s2
      cases k with
      | true =>
        dsimp only at e3 |-
        rw [if_pos rfl] at e3 |-
        obtain ⟨⟨fl3, ps3⟩, e4, e5⟩ := bind_some e3
        refine ⟨fun σ' H' => ∃ F', Stp (φ.fx X.K κ) σ1 H2 F2 σ' H' ps3 F' /\ zw7 tc f m ps3 = some (fl, ps'), fun σ' H' ⟨F', s, e⟩ => ⟨m, Nat.lt_succ_self m, ps3, F', s12.trans s, e⟩, ?_⟩
        refine ⟨ps2, F2, fl3, ps3, s2.rs, e4, ?_⟩
        cases fl3 with
        | nx => exact fun σ' H' F' s => ⟨F', s, e5⟩
        | ct => exact fun σ' H' F' s => ⟨F', s, e5⟩
        | bk => cases e5; exact fun σ' H' F' s => q σ' H' F' (s12.trans s)
        | ret d => cases e5; exact fun v σ' H' F' fv s o r => q v σ' H' F' fv (s12.trans s) (o.after s12) r
      | false =>
        dsimp only at e3 |-
        rw [if_neg Bool.false_ne_true] at e3 |-
        cases e3
        exact q _ _ F2 s12
end
noncomputable def yo3 (Z : List Addr) (H H' : Hp) : Prop := ∀ a o, H a = some o -> (tf o = true \/ (kd o = true /\ a ∈ Z)) -> H' a = some o
structure Walk (K : PySem.W.Frag) (κ : Str -> Addr) (J : It) (Z : List Addr) (H1 : Hp) (ds : List D) : Prop where
  go : ∀ H', yo3 Z H1 H' -> ∀ (i : Nat) d, ds[i]? = some d -> J.go i H' /\ ∀ x H2, J.yld i H' x H2 -> H2 = H' /\ Rep K κ H' x d []
  stop : ∀ H', yo3 Z H1 H' -> J.stop ds.length H'
noncomputable def tIV (K : PySem.W.Frag) (κ : Str -> Addr) (f : PSt -> Option (List D)) : TI := fun σ H R => ∃ ps ds, WS K κ H σ ps /\ f ps = some ds /\ ∀ J H1 Z, SameK H H1 -> Walk K κ J Z H1 ds -> R J H1
noncomputable def tIP (K : PySem.W.Frag) (κ : Str -> Addr) (f : PSt -> Option (List D)) : TI := fun σ H R => ∃ ps ds, WS K κ H σ ps /\ f ps = some ds /\ ∀ J H1 Z, SameK H H1 -> (∀ a ∈ Z, H a = none /\ H1 a ≠ none) -> Walk K κ J Z H1 ds -> R J H1
theorem yo3.sq {K : PySem.W.Frag} {Z : List Addr} {H H' : Hp} {a : Addr} {vs : List V} (k : yo3 Z H H') (h : Rd H a (.lst vs)) (hz : H a = some (.lst vs) -> a ∈ Z) : SqL K H' a vs := by
  rcases h with h | ⟨o, h⟩
  . exact .inl (.inl (k a _ h (.inr ⟨rfl, hz h⟩)))
  . exact .inl (.inr ⟨o, k a _ h (.inl rfl)⟩)
theorem yo3.rep {K : PySem.W.Frag} {κ : Str -> Addr} {Z : List Addr} {H H' : Hp} {v : V} {d : D} (k : yo3 Z H H') (r : Rep K κ H v d []) : Rep K κ H' v d [] := r.move (fun a o h t => k a o h (.inl t)) fun a ha => absurd ha (by simp)
theorem yn0 {α β : Type} {R : α -> β -> Prop} : ∀ {l₁ : List α} {l₂ : List β} {i : Nat} {y : β}, Paired R l₁ l₂ -> l₂[i]? = some y -> ∃ x, l₁[i]? = some x /\ R x y
  | _, _, _, _, .nil, e => by simp at e
  | _, _, 0, _, .cons h _, e => by simp at e; subst e; exact ⟨_, rfl, h⟩
  | _, _, i + 1, _, .cons _ t, e => by obtain ⟨x, h1, h2⟩ := yn0 (i := i) t (by simpa using e); exact ⟨x, by simpa using h1, h2⟩
section
variable {K : PySem.W.Frag} {κ : Str -> Addr} {H1 : Hp} {a : Addr} {vs : List V} {ds : List D} {Z : List Addr}
theorem xd5 (h : Rd H1 a (.lst vs)) (hz : H1 a = some (.lst vs) -> a ∈ Z) (r : Paired (fun v d => Rep K κ H1 v d []) vs ds) : Walk K κ (Itl K a) Z H1 ds where
  go := fun H' k i d e => by
    obtain ⟨x, e1, r1⟩ := yn0 r e
    have sq : SqL K H' a vs := k.sq h hz
    refine ⟨⟨vs, x, sq, e1⟩, fun y H2 hy => ⟨hy.1, ?_⟩⟩
    have e2 := hy.2 vs sq
    rw [e1] at e2; cases e2
    exact k.rep r1
  stop := fun H' k => ⟨vs, k.sq h hz, by rw [Paired.length r]; exact Nat.le_refl _⟩
theorem wg1 (h : SqF K H1 a vs) (r : Paired (fun v d => Rep K κ H1 v d []) vs ds) : Walk K κ (Itl K a) Z H1 ds where
  go := fun H' k i d e => by
    obtain ⟨x, e1, r1⟩ := yn0 r e
    have sq : SqL K H' a vs := (h.tf fun a o e t => k a o e (.inl t)).l
    refine ⟨⟨vs, x, sq, e1⟩, fun y H2 hy => ⟨hy.1, ?_⟩⟩
    have e2 := hy.2 vs sq
    rw [e1] at e2; cases e2
    exact k.rep r1
  stop := fun H' k => ⟨vs, (h.tf fun a o e t => k a o e (.inl t)).l, by rw [Paired.length r]; exact Nat.le_refl _⟩
theorem wg2 (h : SqT K H1 a vs) (r : Paired (fun v d => Rep K κ H1 v d []) vs ds) : Walk K κ (Itt K a) Z H1 ds where
  go := fun H' k i d e => by
    obtain ⟨x, e1, r1⟩ := yn0 r e
    have sq : SqT K H' a vs := h.tf fun a o e t => k a o e (.inl t)
    refine ⟨⟨vs, x, sq, e1⟩, fun y H2 hy => ⟨hy.1, ?_⟩⟩
    have e2 := hy.2 vs sq
    rw [e1] at e2; cases e2
    exact k.rep r1
  stop := fun H' k => ⟨vs, h.tf fun a o e t => k a o e (.inl t), by rw [Paired.length r]; exact Nat.le_refl _⟩
end
noncomputable def zt6 (lo : Int) (n : Nat) : List D := (List.range n).map fun (k : Nat) => .int (lo + (k : Int))
theorem yw7 {K : PySem.W.Frag} {κ : Str -> Addr} {H1 : Hp} {Z : List Addr} (lo : Int) (n : Nat) : Walk K κ (Itr lo n) Z H1 (zt6 lo n) where
  go := fun H' _ i d e => by
    have hi := (List.getElem?_eq_some_iff.mp e).1
    unfold zt6 at hi e
    rw [List.length_map, List.length_range] at hi
    rw [List.getElem?_map, List.getElem?_range hi] at e
    cases e
    exact ⟨hi, fun x H2 ⟨h1, h2⟩ => ⟨h1, by rw [h2]; exact .int _⟩⟩
  stop := fun H' _ => by
    show n <= (zt6 lo n).length
    unfold zt6
    rw [List.length_map, List.length_range]; exact Nat.le_refl _
noncomputable abbrev QIV (X : Cx) (κ : Str -> Addr) (tg iter : Expr) (f : PSt -> Option (List D)) : Prop := PI X tg iter (tIV X.K κ f)
noncomputable abbrev QIP (X : Cx) (κ : Str -> Addr) (tg iter : Expr) (f : PSt -> Option (List D)) : Prop := PI X tg iter (tIP X.K κ f)
theorem PI.imp {X : Cx} {tg e : Expr} {t t' : TI} (h : PI X tg e t) (k : ∀ σ H Q, t' σ H Q -> t σ H Q) : PI X tg e t' := fun pins s σ H Q I q => h pins s σ H Q I (k σ H Q q)
theorem QIP.v {X : Cx} {κ : Str -> Addr} {tg iter : Expr} {f : PSt -> Option (List D)} (h : QIP X κ tg iter f) : QIV X κ tg iter f := PI.imp h fun σ H R ⟨ps, ds, w, e, q⟩ => ⟨ps, ds, w, e, fun J H1 Z s _ k => q J H1 Z s k⟩
section
variable {X : Cx} {κ : Str -> Addr} {tg l a b : Expr} {f : PSt -> Option D} {g : PSt -> Option (List D)} {p pos : Pos}
noncomputable def ya3 : List D -> Option (List D)
  | [.int j] => if (-(2 ^ 62) <= j /\ j < 2 ^ 62) then some (zt6 0 j.toNat) else none
  | _ => none
noncomputable def xg1 : List D -> Option (List D)
  | [.int i, .int j] => if (-(2 ^ 62) <= i /\ i < 2 ^ 62 /\ -(2 ^ 62) <= j /\ j < 2 ^ 62) then some (zt6 i (j - i).toNat) else none
  | _ => none
noncomputable def zk9 (g : PSt -> Option (List D)) : PSt -> Option (List D) := fun ps => (g ps).bind ya3
noncomputable def ys9 (g : PSt -> Option (List D)) : PSt -> Option (List D) := fun ps => (g ps).bind xg1
theorem zv4 (hg : Gl X "range") (hm : X.mg "range" = none) (ha : QVA X κ [a] g) (hs : starEach [a] X.env = [(false, eval a X.env)] := by rfl) : QIP X κ tg (.Call (.Name "range" p) [a] [] pos) (zk9 g) :=
  PI.imp (xx5 hg hm ha hs) fun σ H R hh_ => by
    obtain ⟨ps, ds, w, e, q⟩ := hh_
    obtain ⟨as, e1, e2⟩ := bind_some e
    refine ⟨ps, as, w, e1, fun vs H1 fp s1 r1 => ?_⟩
    unfold ya3 at e2
    split at e2
    . obtain ⟨hc, e3⟩ := zh8 e2
      cases e3
      obtain ⟨v, rfl, r⟩ := r1.one_inv
      exact ⟨_, by rw [r.is_int], hc.1, hc.2, q _ H1 [] s1 (fun _ h => absurd h (by simp)) (yw7 _ _)⟩
    . cases e2
theorem yp5 (hg : Gl X "range") (hm : X.mg "range" = none) (ha : QVA X κ [a, b] g) (hs : starEach [a, b] X.env = [(false, eval a X.env), (false, eval b X.env)] := by rfl) (hs2 : starEach [b] X.env = [(false, eval b X.env)] := by rfl) : QIP X κ tg (.Call (.Name "range" p) [a, b] [] pos) (ys9 g) :=
  PI.imp (xx6 hg hm ha hs hs2) fun σ H R hh_ => by
    obtain ⟨ps, ds, w, e, q⟩ := hh_
    obtain ⟨as, e1, e2⟩ := bind_some e
    refine ⟨ps, as, w, e1, fun vs H1 fp s1 r1 => ?_⟩
    unfold xg1 at e2
    split at e2
    . obtain ⟨hc, e3⟩ := zh8 e2
      cases e3
      obtain ⟨v, u, f, g, rfl, r, r'⟩ := r1.two_inv
      exact ⟨_, _, by rw [r.is_int, r'.is_int], hc, q _ H1 [] s1 (fun _ h => absurd h (by simp)) (yw7 _ _)⟩
    . cases e2
noncomputable def kb4 (K : PySem.W.Frag) (tl : TE) : TI := fun σ H R => tl σ H fun x H1 => ∃ a, x = .ref a /\ (((∃ xs, SqL K H1 a xs) /\ R (Itl K a) H1) \/ ((∃ xs, SqT K H1 a xs) /\ R (Itt K a) H1))
theorem wa3 {tl : TE} (hl : PE X l tl) : PI X tg l (kb4 X.K tl) := by
  intro pins s σ H R I h
  refine thn (hl pins s σ H _ I h) fun v s1 ⟨x, H1, I1, r1, q1⟩ => ?_
  obtain ⟨a, e, q1⟩ := q1
  subst e
  cases r1
  rcases q1 with ⟨⟨xs, hq⟩, q⟩ | ⟨⟨xs, hq⟩, q⟩
  . obtain ⟨its, rv, p, hz⟩ := I1.list hq
    refine wpAny_pyIter_list p.isList ?_
    refine ⟨s1.heap.objs.size, [s1.heap.objs.size], _, _, H1, rfl, I1.kept (t' := s1.toks) fun b o e => Heap.get?_push_of_some _ e, xx4 a _, ⟨_, Heap.get?_push_size _ rfl, rfl, rfl⟩, fun b hb => ?_, q⟩
    have e : b = s1.heap.objs.size := by simpa using hb
    subst e
    exact I1.fpOk (Nat.le_refl _) (I1.hok.fresh (Nat.le_refl _))
  . obtain ⟨its, rv, p, hz⟩ := I1.tuple hq
    refine wpAny_pyIter_tuple (show s1.heap.IsTuple a its.toArray from p) ?_
    refine ⟨s1.heap.objs.size, [s1.heap.objs.size], _, _, H1, rfl, I1.kept (t' := s1.toks) fun b o e => Heap.get?_push_of_some _ e, xs2 a _, ⟨_, Heap.get?_push_size _ rfl, rfl, rfl⟩, fun b hb => ?_, q⟩
    have e : b = s1.heap.objs.size := by simpa using hb
    subst e
    exact I1.fpOk (Nat.le_refl _) (I1.hok.fresh (Nat.le_refl _))
noncomputable def zm6 : D -> Option (List D)
  | .lst _ xs => if D.imms xs = true then some xs else none
  | .tup xs => some xs
  | .con xs => some xs
  | _ => none
theorem xq1 {K : PySem.W.Frag} {H : Hp} {v : V} {d : D} {fp : List Addr} {ds : List D} {R : It -> Hp -> Prop} (r : Rep K κ H v d fp) (e : zm6 d = some ds) (q : ∀ J Z, (∀ a ∈ Z, a ∈ fp) -> Walk K κ J Z H ds -> R J H) :
    ∃ a, v = .ref a /\ (((∃ xs, SqL K H a xs) /\ R (Itl K a) H) \/ ((∃ xs, SqT K H a xs) /\ R (Itt K a) H)) := by
  cases d with
  | lst o xs =>
    obtain ⟨hc, e⟩ := zh8 e
    cases e
    cases r with
    | lst h hs => exact ⟨_, rfl, .inl ⟨⟨_, .inl (.inl h)⟩, q _ [_] (fun a ha => by simp at ha; subst ha; exact List.mem_cons_self) (xd5 (.inl h) (fun _ => by simp) (hs.pair hc))⟩⟩
    | lstF h hs => exact ⟨_, rfl, .inl ⟨⟨_, .inl (.inr ⟨_, h⟩)⟩, q _ [] (fun a ha => absurd ha (by simp)) (xd5 (.inr ⟨_, h⟩) (fun z => by rw [h] at z; cases z) (hs.pair hc))⟩⟩
  | tup xs =>
    cases e
    obtain ⟨a, vs, rfl, h, hs⟩ := r.tup_inv
    exact ⟨a, rfl, .inr ⟨⟨_, h⟩, q _ [] (fun a ha => absurd ha (by simp)) (wg2 h hs.nilp)⟩⟩
  | con xs =>
    cases e
    obtain ⟨a, vs, rfl, h, hs⟩ := r.con_inv
    exact ⟨a, rfl, .inl ⟨⟨_, h.l⟩, q _ [] (fun a ha => absurd ha (by simp)) (wg1 h hs.nilp)⟩⟩
  | _ => cases e
noncomputable def zw3 (f : PSt -> Option D) : PSt -> Option (List D) := fun ps => (f ps).bind zm6
theorem xi5 (h : QP X κ l f) : QIP X κ tg l (zw3 f) := PI.imp (wa3 h) fun σ H R hh_ => by
  obtain ⟨ps, ds, w, e, q⟩ := hh_
  obtain ⟨d, e1, e2⟩ := bind_some e
  exact ⟨ps, d, w, e1, fun v H1 fv s1 n1 nd1 r1 => xq1 r1 e2 fun J Z hz k => q J H1 Z s1 (fun a ha => ⟨n1 a (hz a ha), fun z => by obtain ⟨o, h, _⟩ := r1.own a (hz a ha); rw [z] at h; cases h⟩) k⟩
noncomputable def zd1 (z : Str) : List D := z.cps.toList.map fun c => .str ⟨#[c]⟩
theorem wg3 {K : PySem.W.Frag} {H1 : Hp} {Z : List Addr} (z : Str) : Walk K κ (Its z) Z H1 (zd1 z) where
  go := fun H' _ i d e => by
    have hi := (List.getElem?_eq_some_iff.mp e).1
    unfold zd1 at hi e
    rw [List.length_map, Array.length_toList] at hi
    rw [List.getElem?_map, Array.getElem?_toList, Array.getElem?_eq_getElem hi] at e
    cases e
    refine ⟨hi, fun x H2 ⟨h1, c, h2, h3⟩ => ⟨h1, ?_⟩⟩
    rw [Array.getElem?_eq_getElem hi] at h2
    cases h2
    rw [h3]; exact .str _
  stop := fun H' _ => by
    show z.cps.size <= (zd1 z).length
    unfold zd1
    rw [List.length_map, Array.length_toList]; exact Nat.le_refl _
noncomputable def xn0 : D -> Option (List D)
  | .str z => if z.cps.all (· < 128) = true then some (zd1 z) else none
  | _ => none
noncomputable def ym4 (f : PSt -> Option D) : PSt -> Option (List D) := fun ps => (f ps).bind xn0
theorem xi6 (h : QV X κ l f) : QIP X κ tg l (ym4 f) := PI.imp (wr4 h) fun σ H R hh_ => by
  obtain ⟨ps, ds, w, e, q⟩ := hh_
  obtain ⟨d, e1, e2⟩ := bind_some e
  cases d with
  | str z =>
    obtain ⟨hc, e3⟩ := zh8 e2
    cases e3
    exact ⟨ps, _, w, e1, fun v H1 fv s1 r1 => ⟨z, r1.is_str, hc, q _ H1 [] s1 (fun _ h => absurd h (by simp)) (wg3 z)⟩⟩
  | _ => cases e2
end
noncomputable def zm2 (i : Nat) (f : PSt -> Option (Fl × PSt)) : List D -> PSt -> Option (Fl × PSt)
  | [], ps => some (.nx, ps)
  | d :: ds, ps => (f (ps.set i (some d))).bind fun q => match q with
      | (.nx, p) => zm2 i f ds p
      | (.ct, p) => zm2 i f ds p
      | (.bk, p) => some (.nx, p)
      | (.ret d, p) => some (.ret d, p)
section
variable {X : Cx} {φ : Fx} {pos : Pos} {body : List Stmt} {f : PSt -> Option (Fl × PSt)}
theorem Frm.kept {F : Nat -> List Addr} {H H' : Hp} {Z : List Addr} {σ : St} {ps : PSt} (R : RS φ H σ ps F) (k : Frm F H H') (hz : ∀ a ∈ Z, ∀ i, a ∉ F i) : yo3 Z H H' := fun a o h t => by
  rcases t with t | ⟨t1, t2⟩
  . refine k.keep a o h (ya9 t) fun i hi => ?_
    obtain ⟨o', h', _, t'⟩ := R.own hi
    rw [h] at h'; cases h'; rw [t] at t'; cases t'
  . exact k.keep a o h t1 (hz a t2)
theorem xi7 {E : Ends} {σ : St} {H : Hp} {F : Nat -> List Addr} {ps ps' : PSt} {fl : Fl} {ds : List D} {J : It} {Z : List Addr} {i : Nat} (R : RS φ H σ ps F) (hz : ∀ a ∈ Z, H a ≠ none /\ ∀ i, a ∉ F i) (W : Walk φ.K φ.κ J Z H ds) (hb : φ.bor i = false) (hm : φ.M i = false)
    (e : zm2 i f ds ps = some (fl, ps')) (q : ys8 φ E σ H F fl ps') : ∃ V : Nat -> Nat -> St -> Hp -> Prop, (∃ m, V 0 m σ H) /\ ∀ k m σ H, V k m σ H ->
  (J.stop k H /\ E.nx σ H) \/ (J.go k H /\ ∃ N : St -> Hp -> Prop, (∀ σ' H', N σ' H' -> ∃ m', m' < m /\ V (k + 1) m' σ' H') /\ ∀ x H', J.yld k H x H' -> yh0 i x σ H' fun σ2 H2 => tS φ f { E with nx := N, ct := N, bk := E.nx } σ2 H2) := by
  refine ⟨fun k m σ1 H1 => k <= ds.length /\ m = ds.length - k /\ ∃ ps1 F1, Stp φ σ H F σ1 H1 ps1 F1 /\ zm2 i f (ds.drop k) ps1 = some (fl, ps'), ⟨_, Nat.zero_le _, rfl, ps, F, .refl R, by rw [List.drop_zero]; exact e⟩, ?_⟩
  rintro k m σ1 H1 ⟨hk, rfl, ps1, F1, s1, e1⟩
  have kp : yo3 Z H H1 := s1.fr.kept R fun a ha => (hz a ha).2
  by_cases hlt : k < ds.length
  . right
    have ed : ds[k]? = some ds[k] := List.getElem?_eq_getElem hlt
    obtain ⟨hgo, hy⟩ := W.go H1 kp k _ ed
    rw [List.drop_eq_getElem_cons hlt, zm2] at e1
    obtain ⟨⟨fl2, ps2⟩, e2, e3⟩ := bind_some e1
    refine ⟨hgo, fun σ' H' => ∃ F', Stp φ σ H F σ' H' ps2 F' /\ zm2 i f (ds.drop (k + 1)) ps2 = some (fl, ps'), fun σ' H' ⟨F', s, e⟩ => ⟨ds.length - (k + 1), by omega, hlt, rfl, ps2, F', s, e⟩, fun x H' y => ?_⟩
    obtain ⟨rfl, rx⟩ := hy x H' y
    obtain ⟨F2, s2⟩ := (Stp.refl s1.rs).set (i := i) (fv := []) (v := x) (d := ds[k]) ⟨fun _ h => absurd h (by simp), List.nodup_nil, fun _ _ _ h => absurd h (by simp)⟩ s1.rs rx (.inl hb) hm
    have s12 := s1.trans s2
    refine ⟨_, F2, fl2, ps2, s2.rs, e2, ?_⟩
    cases fl2 with
    | nx => exact fun σ' H' F' s => ⟨F', s12.trans s, e3⟩
    | ct => exact fun σ' H' F' s => ⟨F', s12.trans s, e3⟩
    | bk => cases e3; exact fun σ' H' F' s => q σ' H' F' (s12.trans s)
    | ret d => cases e3; exact fun v σ' H' F' fv s o r => q v σ' H' F' fv (s12.trans s) (o.after s12) r
  . left
    have ek : k = ds.length := by omega
    subst ek
    rw [List.drop_length, zm2] at e1
    cases e1
    exact ⟨W.stop H1 kp, q _ _ F1 s1⟩
noncomputable def zl6 (i : Nat) (fi : PSt -> Option (List D)) (f : PSt -> Option (Fl × PSt)) : PSt -> Option (Fl × PSt) := fun ps => (fi ps).bind fun ds => zm2 i f ds ps
theorem yc5 {κ : Str -> Addr} {φ : F0} (i : Nat) {x : Str} {px : Pos} {iter : Expr} {fi : PSt -> Option (List D)} (hp : PassesOwn (model X.prog X.w) X.A X.env X.xe) (hc : X.calm = true) (hN : X.N.Nodup) (hi : X.N[i]? = some x) (hx : Loc X.env.scope x) (hb : φ.bor i = false) (hm : φ.M i = false)
    (hit : PI X (.Name x px) iter (tIP X.K κ fi)) (hbd : QSs X κ φ body f) (hs : ∀ x, foldedSetIterable iter X.env x = pure x := by intro _; rfl) (hf : X.fn x = true \/ X.env.scope.names.lookup x = some .local := by first | exact .inl rfl | exact .inr rfl | assumption) :
    QS X κ φ (.For (.Name x px) iter body [] pos) (zl6 i fi f) := (xx8 hp hc hit (zw9 hN hi hx hf) hbd hs).imp fun E σ H hh_ => by
  obtain ⟨ps, F, fl, ps', R, e, q⟩ := hh_
  obtain ⟨ds, e1, e2⟩ := bind_some e
  refine ⟨ps, ds, R.ws, e1, fun J H1 Z s1 hz W => ?_⟩
  have s := Stp.same R s1
  exact xi7 s.rs (fun a ha => ⟨(hz a ha).2, fun j hj => by obtain ⟨o, h, _⟩ := R.own hj; rw [(hz a ha).1] at h; cases h⟩) W hb hm e2 (q.back s)
noncomputable def kb5 (g : TG) (tb : TS) (E : Ends) (σ : St) : It -> Hp -> Prop := fun J H1 => ∃ W : Nat -> Nat -> St -> Hp -> Prop, (∃ m, W 0 m σ H1) /\ ∀ i m σ H, W i m σ H ->
  (J.stop i H /\ E.nx σ H) \/ (J.go i H /\ ∃ N : St -> Hp -> Prop, (∀ σ' H', N σ' H' -> ∃ m', m' < m /\ W (i + 1) m' σ' H') /\ ∀ x H', J.yld i H x H' -> g x σ H' fun σ2 H2 => tb { E with nx := N, ct := N, bk := E.nx } σ2 H2)
theorem xb1 {κ : Str -> Addr} {φ : F0} (i j : Nat) {x y : Str} {px py : Pos} (hp : PassesOwn (model X.prog X.w) X.A X.env X.xe) (hc : X.calm = true) (hN : X.N.Nodup) (hi : X.N[i]? = some x) (hx : Loc X.env.scope x) (hb : φ.bor i = false) (hm : φ.M i = false) (hj : φ.bor j = true)
    (hbd : QSs X κ φ body f) (hNj : X.N[j]? = some y := by rfl) (hv : Vis X.env.scope y := by first | exact Or.inl rfl | exact Or.inr (Or.inl rfl) | exact Or.inr (Or.inr rfl)) (hd : (y == ("__debug__" : Str)) = false := by decide)
    (hcd : (y == ("__classdict__" : Str)) = false := by decide) (hs : ∀ x, foldedSetIterable (.Name y py) X.env x = pure x := by intro _; rfl) (hf : X.fn x = true \/ X.env.scope.names.lookup x = some .local := by first | exact .inl rfl | exact .inr rfl | assumption) :
    QS X κ φ (.For (.Name x px) (.Name y py) body [] pos) (zl6 i (zw3 (za1 j)) f) := (xx8 hp hc (wa3 (yk8 hNj hv hd hcd)) (zw9 hN hi hx hf) hbd hs).imp fun E σ H hh_ => by
  obtain ⟨ps, F, fl, ps', R, e, q⟩ := hh_
  obtain ⟨ds, e1, e2⟩ := bind_some e
  obtain ⟨d, e3, e4⟩ := bind_some e1
  obtain ⟨v, fp, h1, h2, _, h4⟩ := R.rep j d (join_some e3)
  refine ⟨v, h1, ?_⟩
  refine xq1 (R := kb5 (yh0 i) (tS (φ.fx X.K κ) f) E σ) h2 e4 fun J Z hz W => ?_
  exact xi7 R (fun a ha => ⟨R.bt j a (h4 hj a (hz a ha)), fun k hk => R.nb k a hk j (h4 hj a (hz a ha))⟩) W hb hm e2 q
end
end L2
namespace L2
open PySem PySem.Spec PyProof.Rows
noncomputable def gP (np n : Nat) (f : PSt -> Option (Fl × PSt)) : List D -> Option D := fun ds => if ds.length = np then (f (ds.map some ++ List.replicate n none)).bind fun r => match r with
  | (.ret d, _) => some d
  | (.nx, _) => some .non
  | _ => none
  else none
noncomputable def SpP (np : Nat) (K : PySem.W.Frag) (κ : Str -> Addr) (g : List D -> Option D) : Sp := fun vs H Q _ => vs.length = np /\ ∃ ds fp d, Reps K κ H vs ds fp /\ g ds = some d /\ zx2 K κ H d Q
noncomputable def fxP (K : PySem.W.Frag) (κ : Str -> Addr) (np : Nat) (B : Nat -> Addr -> Prop) : Fx := ⟨K, κ, fun i => decide (i < np), fun _ => false, B⟩
noncomputable def f0P (np : Nat) (B : Nat -> Addr -> Prop) : F0 := ⟨fun i => decide (i < np), fun _ => false, B⟩
theorem wa4 {N : List Str} {vs : List V} {i : Nat} {v : V} (h : vs[i]? = some v) : (start N vs)[i]? = some (some v) := by
  unfold start
  have hi := (List.getElem?_eq_some_iff.mp h).1
  rw [List.getElem?_append_left (by simpa using hi), List.getElem?_map, h]; rfl
theorem RS.start {K : PySem.W.Frag} {κ : Str -> Addr} {H : Hp} {N : List Str} {vs : List V} {ds : List D} {fp : List Addr} {np : Nat} (r : Reps K κ H vs ds fp) (hl : vs.length = np) (hn : np <= N.length) :
    RS (fxP K κ np (fun _ a => a ∈ fp)) H (start N vs) (ds.map some ++ List.replicate (N.length - np) none) (fun _ => []) := by
  have el := r.length
  refine ⟨fun i d h => ?_, fun i a h => absurd h (by simp), fun i j a h => absurd h (by simp), fun i => List.nodup_nil, fun i a h => absurd h (by simp), fun k a h z => ?_, ?_⟩
  . by_cases hi : i < ds.length
    . rw [List.getElem?_append_left (by simpa using hi), List.getElem?_map] at h
      cases e : ds[i]? with
      | none => rw [e] at h; cases h
      | some d' =>
        rw [e] at h; cases h
        obtain ⟨v, f, h1, h2, h3⟩ := r.get e
        refine ⟨v, f, wa4 h1, h2, fun z => ?_, fun _ => h3⟩
        exact absurd (of_decide_eq_false z) (by omega)
    . rw [List.getElem?_append_right (by simpa using hi), List.getElem?_replicate] at h
      split at h <;> cases h
  . obtain ⟨o, h, _⟩ := r.own a h
    rw [z] at h; cases h
  . unfold L2.start
    simp only [List.length_append, List.length_map, List.length_replicate]
    omega
section
variable {P : Program} {w : World} {K : PySem.W.Frag} {mg : Str -> Option Value} {base : Heap} {κ : Str -> Addr}
theorem zm8 {x qual : Str} {st : Stmt} {f : Addr} {fd : FuncData} {N ps : List Str} {k : Nat} {fb : PSt -> Option (Fl × PSt)} (F : Fun K x qual st f fd) (S : FnScope N ps (zc7 st))
    (hbody : ∀ (cdv : Value) (A : Around) (outer : List Env) (s : Shared) (H : Hp) (E : XK) (B : Nat -> Addr -> Prop), Room k (A.deeper (envOfC qual (zc7 st) s.heap.objs.size f cdv)) ->
      QSs (yk2 CX0 P w K mg base N qual (zc7 st) f cdv A outer s H E).nox κ (f0P ps.length B) (zh3 st) fb) :
    FnOk P w K mg base CX0 (k + 1) f fd ps (SpP ps.length K κ (gP ps.length (N.length - ps.length) fb)) := by
  refine F.ok S (fun vs H Q E h => h.1) fun cdv A outer s H vs Q E hr ⟨hl, ds, fp, d, r, e, q⟩ => ⟨_, hbody cdv A outer s H E (fun _ a => a ∈ fp) hr, ?_⟩
  have hn : ps.length <= N.length := by have := congrArg List.length S.pre; rw [List.length_take] at this; omega
  unfold gP at e
  obtain ⟨_, e0⟩ := zh8 e
  obtain ⟨⟨fl, ps'⟩, e1, e2⟩ := bind_some e0
  refine ⟨_, fun _ => [], fl, ps', RS.start r hl hn, e1, ?_⟩
  have sm : ∀ {H' : Hp}, Frm (fun _ => []) H H' -> SameK H H' := fun k => ⟨fun a o h kk => k.keep a o h kk (fun _ => by simp), k.grow⟩
  cases fl with
  | ret d' =>
    cases e2
    exact fun v σ' H' F' fv s o rv => q v H' fv (sm s.fr) (fun a ha => (o.nw a ha).elim (fun ⟨j, hj⟩ => absurd hj (by simp)) id) o.nd rv
  | nx =>
    cases e2
    exact fun σ' H' F' s => q .non H' [] (sm s.fr) (fun a ha => absurd ha (by simp)) List.nodup_nil .non
  | bk => cases e2
  | ct => cases e2
end
section
variable {X : Cx} {κ : Str -> Addr} {e : Expr} {es : List Expr} {g : PSt -> Option (List D)} {pos p : Pos}
theorem zm9 {x : Str} {st : Stmt} {ps : List Str} {f : Addr} {fd : FuncData} {k np : Nat} {h : List D -> Option D} (Dd : Dn X.K X.mg x st ps f fd) (G : FnOk X.prog X.w X.K X.mg X.base CX0 k f fd ps (SpP np X.K κ h)) (hr : Room k X.A) (hg : Gl X x) (hnp : (e :: es).length = np) (ha : QVA X κ (e :: es) g)
    (hlen : ∀ ps ds, g ps = some ds -> ds.length = (e :: es).length)
    (hdb : (x == ("__debug__" : Str)) = false := by decide) (he : starEach (e :: es) X.env = (false, eval e X.env) :: starEach es X.env := by rfl) (hpl : (backTo pos (starEach es X.env)).any (·.1) = false := by rfl) :
    QP X κ (.Call (.Name x p) (e :: es) [] pos) (za3 h g) := (xt5 Dd G hr hg ha hdb he hpl).imp fun σ H Q hh_ => by
  obtain ⟨ps, d, w, e, q⟩ := hh_
  obtain ⟨ds, e1, e2⟩ := bind_some e
  refine ⟨ps, ds, w, e1, fun vs H1 fp s1 r1 => ?_⟩
  show SpP np X.K κ h (vs ++ []) H1 Q E0
  rw [List.append_nil]
  exact ⟨by rw [r1.length, hlen ps ds e1, hnp], ds, fp, d, r1, e2, q.after s1⟩
theorem zk1 : ∀ (ps : PSt) (ds : List D), za2 ps = some ds -> ds.length = ([] : List Expr).length := fun _ _ h => by cases h; rfl
theorem ze9 {f : PSt -> Option D} (h : ∀ ps ds, g ps = some ds -> ds.length = es.length) : ∀ (ps : PSt) (ds : List D), za0 f g ps = some ds -> ds.length = (e :: es).length := fun ps ds q => by
  obtain ⟨d, es', _, e2, rfl⟩ := ym8 q
  rw [List.length_cons, List.length_cons, h ps es' e2]
end
noncomputable def yk4 (pick : List (Option Nat)) (ps : PSt) : PSt := pick.map fun o => o.bind fun j => (ps[j]?).join
noncomputable def zx5 (psb : PSt) (ft : PSt -> Option Bool) (fe : PSt -> Option D) : List D -> Option (List D)
  | [] => some []
  | d :: ds => (ft (psb.set 0 (some d))).bind fun b => if b = true then (fe (psb.set 0 (some d))).bind fun r => (zx5 psb ft fe ds).bind fun rs => some (r :: rs) else zx5 psb ft fe ds
noncomputable def yj6 (pick : List (Option Nat)) (fi : PSt -> Option (List D)) (ft : PSt -> Option Bool) (fe : PSt -> Option D) : PSt -> Option D := fun ps => (fi ps).bind fun ds => if ds.length <= sizeLine then (zx5 (yk4 pick ps) ft fe ds).bind fun rs => some (.lst true rs) else none
noncomputable def ye5 : PSt -> Option Bool := fun _ => some true
theorem WS.sub {K : PySem.W.Frag} {κ : Str -> Addr} {H : Hp} {σ : St} {ps : PSt} (pick : List (Option Nat)) (w : WS K κ H σ ps) : WS K κ H (yg3 pick σ) (yk4 pick ps) := fun i d h => by
  unfold yk4 at h
  unfold yg3
  rw [List.getElem?_map] at h |-
  cases e : pick[i]? with
  | none => rw [e] at h; cases h
  | some o =>
    rw [e] at h
    cases o with
    | none => cases h
    | some j =>
      have h' : (ps[j]?).join = some d := Option.some.inj h
      obtain ⟨v, fp, h1, h2⟩ := w j d (join_some h')
      refine ⟨v, fp, ?_, h2⟩
      show some ((σ[j]?).join) = some (some v)
      rw [h1]; rfl
theorem WS.set0 {K : PySem.W.Frag} {κ : Str -> Addr} {H : Hp} {σ : St} {ps : PSt} {v : V} {d : D} {fp : List Addr} (w : ∀ (i : Nat) (d : D), i ≠ 0 -> ps[i]? = some (some d) -> ∃ v fp, σ[i]? = some (some v) /\ Rep K κ H v d fp) (hl : ps.length <= σ.length) (r : Rep K κ H v d fp) : WS K κ H (σ.set 0 (some v)) (ps.set 0 (some d)) := fun i d' h => by
  by_cases e : i = 0
  . subst e
    by_cases hp : 0 < ps.length
    . rw [List.getElem?_set_self hp] at h
      cases h
      exact ⟨v, fp, by rw [List.getElem?_set_self (by omega)], r⟩
    . rw [List.getElem?_eq_none (by simpa using hp)] at h; cases h
  . rw [List.getElem?_set_ne (fun z => e z.symm)] at h |-
    exact w i d' e h
section
variable {X : Cx} {κ : Str -> Addr} {sc : Scope} {NX N : List Str} {pick : List (Option Nat)} {elt iter : Expr} {ifs : List Expr} {scope : Scope} {pos px : Pos} {x : Str} {fi : PSt -> Option (List D)} {ft : PSt -> Option Bool} {fe : PSt -> Option D}
theorem PTs.imp {X : Cx} {ifs : List Expr} {t t' : TT} (h : PTs X ifs t) (k : ∀ σ H Q, t' σ H Q -> t σ H Q) : PTs X ifs t' := fun pins s σ H Q I q => h pins s σ H Q I (k σ H Q q)
theorem yr8 {X : Cx} : PTs X [] (tQ X.K κ ye5) := wr3.imp fun σ H Q ⟨ps, b, w, e, q⟩ => by cases e; exact q H (.refl H)
structure Grown (K : PySem.W.Frag) (κ : Str -> Addr) (H1 : Hp) (Dd : Addr) (H' : Hp) (vs : List V) (rs : List D) (fv : List Addr) : Prop where
  same : SameK H1 H'
  at_ : H' Dd = some (.lst vs)
  rep : Reps K κ H' vs rs fv
  new : ∀ a ∈ fv, H1 a = none
  ne : Dd ∉ fv
  nd : fv.Nodup
theorem wg4 {pick : List (Option Nat)} {J : It} {Z : List Addr} {σ : St} {ps : PSt} {H1 : Hp} {Dd : Addr} {ds rs : List D} {Q : Addr -> Hp -> Prop} (w : WS X.K κ H1 σ ps) (hD : H1 Dd = none) (W : Walk X.K κ J Z H1 ds) (hz : ds.length <= sizeLine)
    (e : zx5 (yk4 pick ps) ft fe ds = some rs) (q : ∀ H' vs fv, Grown X.K κ H1 Dd H' vs rs fv -> Q Dd H') :
    ∃ V : Nat -> Nat -> St -> Hp -> Prop, (∃ m, V 0 m (yg3 pick σ) (upd H1 Dd (.lst []))) /\ ∀ i m σ' H', V i m σ' H' ->
    (J.stop i H' /\ Q Dd H') \/ (J.go i H' /\ ∀ x H2, J.yld i H' x H2 -> yh0 0 x σ' H2 fun σ3 H3 => tQ X.K κ ft σ3 H3 fun b H4 =>
      if b = true then tP X.K κ fe σ3 H4 fun y H5 => ∃ ys, H5 Dd = some (.lst ys) /\ ys.length < sizeLine /\ ∃ m', m' < m /\ V (i + 1) m' σ3 (upd H5 Dd (.lst (ys ++ [y]))) else ∃ m', m' < m /\ V (i + 1) m' σ3 H4) := by
  refine ⟨fun i m σ' H' => i <= ds.length /\ m = ds.length - i /\ (∀ (j : Nat) (d : D), j ≠ 0 -> (yk4 pick ps)[j]? = some (some d) -> ∃ v fp, σ'[j]? = some (some v) /\ Rep X.K κ H1 v d fp) /\ (yk4 pick ps).length <= σ'.length /\
    ∃ vs fv done rest, Grown X.K κ H1 Dd H' vs done fv /\ done.length <= i /\ zx5 (yk4 pick ps) ft fe (ds.drop i) = some rest /\ rs = done ++ rest, ⟨_, Nat.zero_le _, rfl, fun j d _ h => w.sub pick j d h, by simp [yk4, yg3], [], [], [], rs, ⟨.new hD _, zm0, .nil, fun _ h => absurd h (by simp), by simp, List.nodup_nil⟩, Nat.zero_le _, by rw [List.drop_zero]; exact e, rfl⟩, ?_⟩
  rintro i m σ' H' ⟨hi, rfl, ws, wl, vs, fv, done, rest, G, hdn, er, ers⟩
  have kp : yo3 Z H1 H' := fun a o h t => G.same.keep a o h (t.elim ya9 fun t => t.1)
  by_cases hlt : i < ds.length
  . right
    have ed : ds[i]? = some ds[i] := List.getElem?_eq_getElem hlt
    obtain ⟨hgo, hy⟩ := W.go H' kp i _ ed
    refine ⟨hgo, fun x H2 y => ?_⟩
    obtain ⟨rfl, rx⟩ := hy x H2 y
    rw [List.drop_eq_getElem_cons hlt, zx5] at er
    obtain ⟨b, e1, e2⟩ := bind_some er
    have wset : WS X.K κ H2 (σ'.set 0 (some x)) ((yk4 pick ps).set 0 (some ds[i])) := WS.set0 (fun j d hj h => by obtain ⟨v, fp, h1, h2⟩ := ws j d hj h; exact ⟨v, fp, h1, h2.same G.same⟩) wl rx
    refine ⟨_, b, wset, e1, fun H3 s3 => ?_⟩
    have keepS : ∀ (j : Nat) (d : D), j ≠ 0 -> (yk4 pick ps)[j]? = some (some d) -> ∃ v fp, (σ'.set 0 (some x))[j]? = some (some v) /\ Rep X.K κ H1 v d fp := fun j d hj h => by
      obtain ⟨v, fp, h1, h2⟩ := ws j d hj h
      exact ⟨v, fp, by rw [List.getElem?_set_ne (fun z => hj z.symm)]; exact h1, h2⟩
    have Dkeep : ∀ {H5 : Hp}, SameK H2 H5 -> H5 Dd = some (.lst vs) := fun s => s.keep _ _ G.at_ rfl
    cases b with
    | true =>
      dsimp only
      rw [if_pos rfl] at e2 |-
      obtain ⟨r, e3, e4⟩ := bind_some e2
      obtain ⟨rs', e5, e6⟩ := bind_some e4
      cases e6
      refine ⟨_, r, wset.same s3, e3, fun y H5 fw s5 n5 nd5 r5 => ?_⟩
      have s25 := s3.trans s5
      refine ⟨vs, Dkeep s25, ?_, ds.length - (i + 1), by omega, hlt, rfl, keepS, by simpa using wl, vs ++ [y], fv ++ fw, done ++ [r], rs', ?_, ?_, e5, by rw [ers]; simp⟩
      . have := G.rep.length; omega
      . have hDw : Dd ∉ fw := fun z => by have := s3.grow Dd (n5 Dd z); rw [G.at_] at this; cases this
        have hup : ∀ a, a ≠ Dd -> upd H5 Dd (.lst (vs ++ [y])) a = H5 a := fun a h => zi0 h
        have tfk : ∀ a o, H5 a = some o -> tf o = true -> upd H5 Dd (.lst (vs ++ [y])) a = some o := fun a o h t => by
          rw [hup a]
          . exact h
          . rintro rfl; rw [Dkeep s25] at h; cases h; cases t
        have rv5 : Reps X.K κ H5 vs done fv := G.rep.same s25
        refine ⟨⟨fun a o h k => ?_, fun a h => ?_⟩, zm0, Reps.append (rv5.move tfk fun a ha => hup a fun z => G.ne (z ▸ ha)) (Reps.one (r5.move tfk fun a ha => hup a fun z => hDw (z ▸ ha))), fun a ha => ?_, fun z => ?_, ?_⟩
        . rw [hup a (fun z => by subst z; rw [hD] at h; cases h)]
          exact (G.same.trans s25).keep a o h k
        . by_cases z : a = Dd
          . subst z; rw [zm0] at h; cases h
          . rw [hup a z] at h; exact (G.same.trans s25).grow a h
        . rcases List.mem_append.mp ha with z | z
          . exact G.new a z
          . exact (G.same.trans s3).grow a (n5 a z)
        . rcases List.mem_append.mp z with z | z
          . exact G.ne z
          . exact hDw z
        . rw [List.nodup_append]
          refine ⟨G.nd, nd5, fun a ha b hb e => ?_⟩
          subst e
          obtain ⟨o, h, k, _⟩ := G.rep.own a ha
          have := s3.keep a o h k
          rw [n5 a hb] at this; cases this
      . rw [List.length_append, List.length_singleton]; omega
    | false =>
      dsimp only
      rw [if_neg Bool.false_ne_true] at e2 |-
      refine ⟨ds.length - (i + 1), by omega, hlt, rfl, keepS, by simpa using wl, vs, fv, done, rest, ⟨G.same.trans s3, Dkeep s3, G.rep.same s3, G.new, G.ne, G.nd⟩, by omega, e2, ers⟩
  . left
    have ek : i = ds.length := by omega
    subst ek
    rw [List.drop_length, zx5] at er
    cases er
    rw [List.append_nil] at ers
    subst ers
    exact ⟨W.stop H' kp, q H' vs fv G⟩
theorem yr9 (S : CScope sc NX N pick scope) (hsc : X.env.scope = sc) (hNX : X.N = NX) (hc : X.calm = true) (hi : QIV X κ (.Name x px) iter fi)
    (hg : ∀ cl fp s H, PG (cxB X N scope cl fp s H) (.Name x px) (yh0 0)) (ht : ∀ cl fp s H, PTs (cxB X N scope cl fp s H) ifs (tQ X.K κ ft)) (he : ∀ cl fp s H, PE (cxB X N scope cl fp s H) elt (tP X.K κ fe))
    (hs : ∀ x, foldedSetIterable iter X.env x = pure x := by intro _; rfl) : QP X κ (.ListComp elt [⟨.Name x px, iter, ifs, 0⟩] scope pos) (yj6 pick fi ft fe) :=
  (wl9 S hsc hNX hc hi hg ht he hs).imp fun σ H Q hh_ => by
    obtain ⟨ps, d, w, e, q⟩ := hh_
    obtain ⟨ds, e1, e2⟩ := bind_some e
    obtain ⟨hz, e3⟩ := zh8 e2
    obtain ⟨rs, e4, e5⟩ := bind_some e3
    cases e5
    refine ⟨ps, ds, w, e1, fun J H1 Z s1 W Dd hD => ?_⟩
    refine wg4 (Q := fun Dd H' => Q (.ref Dd) H') (w.same s1) hD W hz e4 fun H' vs fv G => ?_
    refine q _ H' (Dd :: fv) (s1.trans G.same) (fun a ha => ?_) (List.nodup_cons.mpr ⟨G.ne, G.nd⟩) (.lst G.at_ G.rep)
    rcases List.mem_cons.mp ha with z | z
    . rw [z]; exact s1.grow Dd hD
    . exact s1.grow a (G.new a z)
end
end L2
namespace L2
open PySem PySem.Spec PyProof.Rows
inductive Ps1 where
  | ix (n : Nat) | fld (f : Str)
noncomputable def ze1 : List Str -> Str -> Option Nat
  | [], _ => none
  | n :: ns, f => if n = f then some 0 else (ze1 ns f).map (· + 1)
noncomputable def ze3 {α : Type} (h : D -> Option (α × D)) : D -> List Ps1 -> Option (α × D)
  | d, [] => h d
  | .lst true xs, .ix n :: p => (xs[n]?).bind fun d => (ze3 h d p).bind fun r => some (r.1, .lst true (xs.set n r.2))
  | .obj true C ns vs, .fld f :: p => (ze1 ns f).bind fun n => (vs[n]?).bind fun d => (ze3 h d p).bind fun r => some (r.1, .obj true C ns (vs.set n r.2))
  | _, _ => none
noncomputable def zf3 : D -> List Ps1 -> Option D
  | d, [] => some d
  | .lst true xs, .ix n :: p => (xs[n]?).bind fun d => zf3 d p
  | .obj true _ ns vs, .fld f :: p => (ze1 ns f).bind fun n => (vs[n]?).bind fun d => zf3 d p
  | _, _ => none
noncomputable def At (H : Hp) : V -> List Ps1 -> V -> Prop
  | v0, [], v => v = v0
  | v0, .ix n :: p, v => ∃ a vs v1, v0 = .ref a /\ H a = some (.lst vs) /\ vs[n]? = some v1 /\ At H v1 p v
  | v0, .fld f :: p, v => ∃ a C dx fs n v1, v0 = .ref a /\ H a = some (.ins C dx fs) /\ ze1 (fs.map (·.1)) f = some n /\ (fs.map (·.2))[n]? = some v1 /\ At H v1 p v
theorem At.same {H H' : Hp} (s : SameK H H') : ∀ {p : List Ps1} {v0 v : V}, At H v0 p v -> At H' v0 p v
  | [], _, _, h => h
  | .ix n :: p, _, _, ⟨a, vs, v1, h1, h2, h3, h4⟩ => ⟨a, vs, v1, h1, s.keep _ _ h2 rfl, h3, At.same s h4⟩
  | .fld f :: p, _, _, ⟨a, C, dx, fs, n, v1, h1, h2, h3, h4, h5⟩ => ⟨a, C, dx, fs, n, v1, h1, s.keep _ _ h2 rfl, h3, h4, At.same s h5⟩
theorem At.snoc_ix {H : Hp} {a : Addr} {vs : List V} {n : Nat} {v : V} (h : H a = some (.lst vs)) (hv : vs[n]? = some v) : ∀ {p : List Ps1} {v0 : V}, At H v0 p (.ref a) -> At H v0 (p ++ [.ix n]) v
  | [], _, e => ⟨a, vs, v, e.symm, h, hv, rfl⟩
  | .ix m :: p, _, ⟨b, us, v1, h1, h2, h3, h4⟩ => ⟨b, us, v1, h1, h2, h3, At.snoc_ix h hv h4⟩
  | .fld f :: p, _, ⟨b, C, dx, fs, m, v1, h1, h2, h3, h4, h5⟩ => ⟨b, C, dx, fs, m, v1, h1, h2, h3, h4, At.snoc_ix h hv h5⟩
theorem At.snoc_fld {H : Hp} {a C dx : Addr} {fs : List (Str × V)} {f : Str} {n : Nat} {v : V} (h : H a = some (.ins C dx fs)) (hn : ze1 (fs.map (·.1)) f = some n) (hv : (fs.map (·.2))[n]? = some v) : ∀ {p : List Ps1} {v0 : V}, At H v0 p (.ref a) -> At H v0 (p ++ [.fld f]) v
  | [], _, e => ⟨a, C, dx, fs, n, v, e.symm, h, hn, hv, rfl⟩
  | .ix m :: p, _, ⟨b, us, v1, h1, h2, h3, h4⟩ => ⟨b, us, v1, h1, h2, h3, At.snoc_fld h hn hv h4⟩
  | .fld f' :: p, _, ⟨b, C', dx', fs', m, v1, h1, h2, h3, h4, h5⟩ => ⟨b, C', dx', fs', m, v1, h1, h2, h3, h4, At.snoc_fld h hn hv h5⟩
theorem xq2 {α : Type} {h : D -> Option (α × D)} {d0 : D} {n : Nat} {p : List Ps1} {r : α} {d' : D} (e : ze3 h d0 (.ix n :: p) = some (r, d')) : ∃ xs d1 d2, d0 = .lst true xs /\ xs[n]? = some d1 /\ ze3 h d1 p = some (r, d2) /\ d' = .lst true (xs.set n d2) := by
  unfold ze3 at e
  split at e
  . rename_i z; cases z
  . rename_i z; cases z
    obtain ⟨d1, h1, h2⟩ := bind_some e
    obtain ⟨⟨r1, d2⟩, h3, h4⟩ := bind_some h2
    cases h4
    exact ⟨_, _, _, rfl, h1, h3, rfl⟩
  . rename_i z; cases z
  . cases e
theorem xi8 {α : Type} {h : D -> Option (α × D)} {d0 : D} {f : Str} {p : List Ps1} {r : α} {d' : D} (e : ze3 h d0 (.fld f :: p) = some (r, d')) : ∃ C ns xs n d1 d2, d0 = .obj true C ns xs /\ ze1 ns f = some n /\ xs[n]? = some d1 /\ ze3 h d1 p = some (r, d2) /\ d' = .obj true C ns (xs.set n d2) := by
  unfold ze3 at e
  split at e
  . rename_i z; cases z
  . rename_i z; cases z
  . rename_i z; cases z
    obtain ⟨n, h0, h9⟩ := bind_some e
    obtain ⟨d1, h1, h2⟩ := bind_some h9
    obtain ⟨⟨r1, d2⟩, h3, h4⟩ := bind_some h2
    cases h4
    exact ⟨_, _, _, _, _, _, rfl, h0, h1, h3, rfl⟩
  . cases e
theorem xb2 {d0 d : D} {n : Nat} {p : List Ps1} (e : zf3 d0 (.ix n :: p) = some d) : ∃ xs d1, d0 = .lst true xs /\ xs[n]? = some d1 /\ zf3 d1 p = some d := by
  unfold zf3 at e
  split at e
  . rename_i z; cases z
  . rename_i z; cases z
    obtain ⟨d1, h1, h2⟩ := bind_some e
    exact ⟨_, _, rfl, h1, h2⟩
  . rename_i z; cases z
  . cases e
theorem yu4 {d0 d : D} {f : Str} {p : List Ps1} (e : zf3 d0 (.fld f :: p) = some d) : ∃ C ns xs n d1, d0 = .obj true C ns xs /\ ze1 ns f = some n /\ xs[n]? = some d1 /\ zf3 d1 p = some d := by
  unfold zf3 at e
  split at e
  . rename_i z; cases z
  . rename_i z; cases z
  . rename_i z; cases z
    obtain ⟨n, h0, h9⟩ := bind_some e
    obtain ⟨d1, h1, h2⟩ := bind_some h9
    exact ⟨_, _, _, _, _, rfl, h0, h1, h2⟩
  . cases e
theorem yb0 {α : Type} {h : D -> Option (α × D)} {r : α} {d' : D} {p : List Ps1} : ∀ {d0 : D}, ze3 h d0 p = some (r, d') -> ∃ d dn, zf3 d0 p = some d /\ h d = some (r, dn) := by
  induction p generalizing d' with
  | nil => intro d0 e; rw [ze3] at e; exact ⟨d0, d', by rw [zf3], e⟩
  | cons s p ih =>
    intro d0 e
    cases s with
    | ix m =>
      obtain ⟨xs, d1, d2, rfl, h1, h3, rfl⟩ := xq2 e
      obtain ⟨d, dn, g1, g2⟩ := ih h3
      refine ⟨d, dn, ?_, g2⟩
      show (xs[m]?).bind _ = _
      rw [h1]; exact g1
    | fld f =>
      obtain ⟨C, ns, xs, m, d1, d2, rfl, h0, h1, h3, rfl⟩ := xi8 e
      obtain ⟨d, dn, g1, g2⟩ := ih h3
      refine ⟨d, dn, ?_, g2⟩
      show (ze1 ns f).bind _ = _
      rw [h0]
      show (xs[m]?).bind _ = _
      rw [h1]; exact g1
section
variable {K : PySem.W.Frag} {κ : Str -> Addr} {H : Hp}
theorem Reps.focus : ∀ {vs : List V} {ds : List D} {g : List Addr} {n : Nat} {d1 : D} {v1 : V}, Reps K κ H vs ds g -> ds[n]? = some d1 -> vs[n]? = some v1 -> ∃ f1 rest, Rep K κ H v1 d1 f1 /\ g.Perm (f1 ++ rest) /\
    ∀ (H' : Hp) (d' : D) (f' : List Addr), (∀ a o, H a = some o -> tf o = true -> H' a = some o) -> (∀ a ∈ rest, H' a = H a) -> Rep K κ H' v1 d' f' -> ∃ g', Reps K κ H' vs (ds.set n d') g' /\ g'.Perm (f' ++ rest)
  | _, _, _, _, _, _, .nil, e, _ => by simp at e
  | _, _, _, 0, _, _, .cons (f := f) (g := g) h hs, e, e' => by
    simp at e e'; subst e; subst e'
    exact ⟨f, g, h, .refl _, fun H' d' f' t k r => ⟨f' ++ g, .cons r (hs.move t k), .refl _⟩⟩
  | _, _, _, n + 1, _, _, .cons (f := f) (g := g) h hs, e, e' => by
    obtain ⟨f1, rest, h1, h2, h3⟩ := Reps.focus (n := n) hs (by simpa using e) (by simpa using e')
    refine ⟨f1, f ++ rest, h1, ?_, fun H' d' f' t k r => ?_⟩
    . refine (h2.append_left f).trans ?_
      rw [<- List.append_assoc, <- List.append_assoc]
      exact List.perm_append_comm.append_right rest
    . obtain ⟨g', r1, r2⟩ := h3 H' d' f' t (fun a ha => k a (List.mem_append_right _ ha)) r
      refine ⟨f ++ g', .cons (h.move t fun a ha => k a (List.mem_append_left _ ha)) r1, ?_⟩
      refine (r2.append_left f).trans ?_
      rw [<- List.append_assoc, <- List.append_assoc]
      exact List.perm_append_comm.append_right rest
theorem xd6 {b : Addr} {g f1 fd rest rest1 : List Addr} (k2 : g.Perm (f1 ++ rest1)) (m3 : f1.Perm (fd ++ rest)) : (b :: g).Perm (fd ++ b :: (rest ++ rest1)) := by
  refine ((k2.trans (m3.append_right rest1)).cons b).trans ?_
  rw [List.append_assoc]
  exact List.perm_middle.symm
theorem focus {α : Type} {h : D -> Option (α × D)} {r : α} {p : List Ps1} : ∀ {v0 v : V} {d0 d0' : D} {fp : List Addr}, Rep K κ H v0 d0 fp -> ze3 h d0 p = some (r, d0') -> At H v0 p v -> ∃ d d' fd rest, Rep K κ H v d fd /\ h d = some (r, d') /\ fp.Perm (fd ++ rest) /\
    ∀ (H' : Hp) (f' : List Addr), (∀ a o, H a = some o -> tf o = true -> H' a = some o) -> (∀ a ∈ rest, H' a = H a) -> Rep K κ H' v d' f' -> ∃ fp', Rep K κ H' v0 d0' fp' /\ fp'.Perm (f' ++ rest) := by
  induction p with
  | nil =>
    intro v0 v d0 d0' fp R e a
    rw [ze3] at e
    cases (show v = v0 from a)
    exact ⟨d0, d0', fp, [], R, e, by rw [List.append_nil], fun H' f' t k r => ⟨f', r, by rw [List.append_nil]⟩⟩
  | cons s p ih =>
    intro v0 v d0 d0' fp R e a
    have deep : ∀ (b : Addr) (vs : List V) (xs : List D) (n : Nat) (d1 d2 : D) (v1 : V) (g : List Addr), fp = b :: g -> Reps K κ H vs xs g -> xs[n]? = some d1 -> vs[n]? = some v1 -> ze3 h d1 p = some (r, d2) -> At H v1 p v -> (∀ (H' : Hp) (g2 : List Addr), H' b = H b -> Reps K κ H' vs (xs.set n d2) g2 -> Rep K κ H' v0 d0' (b :: g2)) ->
        ∃ d d' fd rest, Rep K κ H v d fd /\ h d = some (r, d') /\ fp.Perm (fd ++ rest) /\ ∀ (H' : Hp) (f' : List Addr), (∀ a o, H a = some o -> tf o = true -> H' a = some o) -> (∀ a ∈ rest, H' a = H a) -> Rep K κ H' v d' f' -> ∃ fp', Rep K κ H' v0 d0' fp' /\ fp'.Perm (f' ++ rest) := fun b vs xs n d1 d2 v1 g ef hs h1 e3 h3 e4 mk => by
      subst ef
      obtain ⟨f1, rest1, k1, k2, k3⟩ := hs.focus h1 e3
      obtain ⟨d, d', fd, rest, m1, m2, m3, m4⟩ := ih k1 h3 e4
      refine ⟨d, d', fd, b :: (rest ++ rest1), m1, m2, xd6 k2 m3, fun H' f' t k rr => ?_⟩
      obtain ⟨g1, q1, q2⟩ := m4 H' f' t (fun a ha => k a (List.mem_cons_of_mem _ (List.mem_append_left _ ha))) rr
      obtain ⟨g2, q3, q4⟩ := k3 H' d2 g1 t (fun a ha => k a (List.mem_cons_of_mem _ (List.mem_append_right _ ha))) q1
      exact ⟨b :: g2, mk H' g2 (k b List.mem_cons_self) q3, xd6 q4 q2⟩
    cases s with
    | ix n =>
      obtain ⟨b, vs, v1, e1, e2, e3, e4⟩ := a
      subst e1
      obtain ⟨xs, d1, d2, rfl, h1, h3, rfl⟩ := xq2 e
      obtain ⟨_, _, g, e5, hb, hs, ef⟩ := R.lstT_inv
      cases e5
      rw [e2] at hb; cases hb
      exact deep b vs xs n d1 d2 v1 g ef hs h1 e3 h3 e4 fun H' g2 k q3 => .lst (k.trans e2) q3
    | fld f =>
      obtain ⟨b, C, dx, fs, n, v1, e1, e2, e2', e3, e4⟩ := a
      subst e1
      obtain ⟨C', ns, xs, n', d1, d2, rfl, h0, h1, h3, rfl⟩ := xi8 e
      obtain ⟨_, _, _, g, e5, hb, hn, hs, ef⟩ := R.objT_inv
      cases e5
      rw [e2] at hb; cases hb
      subst hn
      rw [e2'] at h0; cases h0
      exact deep b _ xs n d1 d2 v1 g ef hs h1 e3 h3 e4 fun H' g2 k q3 => .obj (k.trans e2) rfl q3
end
theorem yp6 {φ : Fx} {α : Type} {h : D -> Option (α × D)} {r : α} {H H1 : Hp} {σ : St} {ps : PSt} {F : Nat -> List Addr} {j : Nat} {d0 d0' : D} {v0 v : V} {p : List Ps1} (R : RS φ H σ ps F) (s1 : SameK H H1) (hb : φ.bor j = false) (e0 : ps[j]? = some (some d0)) (ev : σ[j]? = some (some v0))
    (em : ze3 h d0 p = some (r, d0')) (at_ : At H1 v0 p v) : ∃ d d' fd, Rep φ.K φ.κ H1 v d fd /\ h d = some (r, d') /\ fd.Nodup /\ (∀ a ∈ fd, a ∈ F j) /\
    ∀ (H' : Hp) (fd' fr : List Addr), (∀ a o, H1 a = some o -> kd o = true -> a ∉ fd -> H' a = some o) -> (∀ a, H' a = none -> H1 a = none) -> Rep φ.K φ.κ H' v d' fd' -> (fd' ++ fr).Nodup -> (∀ a ∈ fd' ++ fr, a ∈ fd \/ H a = none) ->
      ∃ F', Stp φ σ H F σ H' (ps.set j (some d0')) F' /\ OwnV F H F' fr := by
  obtain ⟨v0', fp, h1, h2, h3, _⟩ := R.rep j d0 e0
  rw [ev] at h1; cases h1
  have h3 := h3 hb
  subst h3
  obtain ⟨d, d', fd, rest, m1, m2, m3, m4⟩ := focus (h2.same s1) em at_
  have ndF := R.nd j
  have ndp : (fd ++ rest).Nodup := m3.nodup_iff.mp ndF
  obtain ⟨nd1, nd2, nd3⟩ := List.nodup_append.mp ndp
  have inF : ∀ a, a ∈ fd \/ a ∈ rest -> a ∈ F j := fun a ha => m3.mem_iff.mpr (List.mem_append.mpr ha)
  refine ⟨d, d', fd, m1, m2, nd1, fun a ha => inF a (.inl ha), fun H' fd' fr k1 k2 k3 k4 k5 => ?_⟩
  have tfk : ∀ a o, H1 a = some o -> tf o = true -> H' a = some o := fun a o ha t => k1 a o ha (ya9 t) fun hm => by
    obtain ⟨o', q, _, q'⟩ := m1.own a hm
    rw [ha] at q; cases q; rw [t] at q'; cases q'
  have keepO : ∀ a, (∃ i, a ∈ F i) -> a ∉ fd -> H' a = H1 a := fun a ⟨i, hi⟩ hn => by
    obtain ⟨o, q, q', _⟩ := R.own hi
    have q1 := s1.keep a o q q'
    rw [q1]; exact k1 a o q1 q' hn
  have notfd : ∀ a, a ∈ rest -> a ∉ fd := fun a hr hf => nd3 a hf a hr rfl
  obtain ⟨fp', r1, r2⟩ := m4 H' fd' tfk (fun a ha => keepO a ⟨j, inF a (.inr ha)⟩ (notfd a ha)) k3
  obtain ⟨kd1, kd2, kd3⟩ := List.nodup_append.mp k4
  have memfp : ∀ a, a ∈ fp' -> a ∈ fd' \/ a ∈ rest := fun a ha => List.mem_append.mp (r2.mem_iff.mp ha)
  have lt : j < ps.length := (List.getElem?_eq_some_iff.mp e0).1
  have old : ∀ a, a ∈ fd' ++ fr -> ∀ i, a ∈ F i -> a ∈ fd := fun a ha i hi => (k5 a ha).elim id fun z => by
    obtain ⟨o, q, _⟩ := R.own hi
    rw [z] at q; cases q
  refine ⟨yk3 F j fp', ⟨⟨fun a o ha hk hn => ?_, fun a ha => s1.grow a (k2 a ha)⟩, fun i a ha => ?_, ⟨fun i d2 hi => ?_, fun i a ha => ?_, fun i k a ha hk => ?_, fun i => ?_, fun i a ha kk hB => ?_, fun kk a hB z => R.bt kk a hB (s1.grow a (k2 a z)), by simpa using R.len⟩, fun _ _ => rfl⟩, ⟨fun a ha => ?_, kd2, fun i a ha hr => ?_⟩⟩
  . exact k1 a o (s1.keep a o ha hk) hk fun hm => hn j (inF a (.inl hm))
  . rcases zw0 ha with z | z
    . rcases memfp a z with z | z
      . exact (k5 a (List.mem_append_left _ z)).elim (fun z => .inl ⟨j, inF a (.inl z)⟩) .inr
      . exact .inl ⟨j, inF a (.inr z)⟩
    . exact .inl ⟨i, z⟩
  . by_cases e : i = j
    . subst e
      rw [List.getElem?_set_self lt] at hi
      cases hi
      exact ⟨v0, fp', ev, r1, fun _ => zn3.symm, fun z => by rw [hb] at z; cases z⟩
    . rw [List.getElem?_set_ne (fun z => e z.symm)] at hi
      obtain ⟨v2, f2, q1, q2, q3, q4⟩ := R.rep i d2 hi
      refine ⟨v2, f2, q1, (q2.same s1).move tfk fun a ha => ?_, fun z => by rw [zn5 e]; exact q3 z, q4⟩
      obtain ⟨o, w1, w2, _⟩ := q2.own a ha
      have w3 := s1.keep a o w1 w2
      rw [w3]
      refine k1 a o w3 w2 fun hm => ?_
      have hF := inF a (.inl hm)
      cases hbi : φ.bor i with
      | true => exact R.nb j a hF i (q4 hbi a ha)
      | false => rw [q3 hbi] at ha; exact e (R.dis i j a ha hF)
  . by_cases e : i = j
    . subst e; exact ⟨hb, d0', by rw [List.getElem?_set_self lt]⟩
    . rw [zn5 e] at ha
      obtain ⟨b1, d1, b2⟩ := R.emp i a ha
      exact ⟨b1, d1, by rw [List.getElem?_set_ne (fun z => e z.symm)]; exact b2⟩
  . have hh : ∀ a, a ∈ fp' -> ∀ i, i ≠ j -> a ∈ F i -> False := fun a ha i hij hi => by
      rcases memfp a ha with z | z
      . exact hij (R.dis i j a hi (inF a (.inl (old a (List.mem_append_left _ z) i hi))))
      . exact hij (R.dis i j a hi (inF a (.inr z)))
    by_cases e1 : i = j
    . by_cases e2 : k = j
      . rw [e1, e2]
      . subst e1; rw [zn3] at ha; rw [zn5 e2] at hk; exact (hh a ha k e2 hk).elim
    . by_cases e2 : k = j
      . subst e2; rw [zn3] at hk; rw [zn5 e1] at ha; exact (hh a hk i e1 ha).elim
      . rw [zn5 e1] at ha; rw [zn5 e2] at hk; exact R.dis i k a ha hk
  . by_cases e : i = j
    . subst e
      rw [zn3]
      refine r2.nodup_iff.mpr (List.nodup_append.mpr ⟨kd1, nd2, fun a ha b hb' e => ?_⟩)
      subst e
      exact notfd a hb' (old a (List.mem_append_left _ ha) i (inF a (.inr hb')))
    . rw [zn5 e]; exact R.nd i
  . rcases zw0 ha with z | z
    . rcases memfp a z with z | z
      . exact R.notB ((k5 a (List.mem_append_left _ z)).elim (fun z => .inl ⟨j, inF a (.inl z)⟩) .inr) kk hB
      . exact R.nb j a (inF a (.inr z)) kk hB
    . exact R.nb i a z kk hB
  . exact (k5 a (List.mem_append_right _ ha)).elim (fun z => .inl ⟨j, inF a (.inl z)⟩) .inr
  . rcases zw0 ha with z | z
    . rcases memfp a z with z | z
      . exact kd3 a z a hr rfl
      . exact notfd a z (old a (List.mem_append_right _ hr) j (inF a (.inr z)))
    . have := old a (List.mem_append_right _ hr) i z
      by_cases e : i = j
      . subst e
        rw [zn3] at ha
        rcases memfp a ha with w | w
        . exact kd3 a w a hr rfl
        . exact notfd a w this
      . exact e (R.dis i j a z (inF a (.inl this)))
end L2
namespace L2
open PySem PySem.Spec PyProof.Rows
noncomputable def zp5 (K : PySem.W.Frag) (κ : Str -> Addr) (j : Nat) (pf : PSt -> Option (List Ps1)) : TE := fun σ H Q => ∃ ps p d0 d, WS K κ H σ ps /\ ps[j]? = some (some d0) /\ pf ps = some p /\ zf3 d0 p = some d /\ ∀ v H' v0, SameK H H' -> σ[j]? = some (some v0) -> At H' v0 p v -> Q v H'
theorem yu5 {K : PySem.W.Frag} {κ : Str -> Addr} {H : Hp} {v0 v : V} {d0 d : D} {fp : List Addr} {p : List Ps1} (R : Rep K κ H v0 d0 fp) (g : zf3 d0 p = some d) (a : At H v0 p v) : ∃ fd, Rep K κ H v d fd := by
  have key : ∀ {p : List Ps1} {v0 v : V} {d0 d : D} {fp : List Addr}, Rep K κ H v0 d0 fp -> zf3 d0 p = some d -> At H v0 p v -> ∃ fd, Rep K κ H v d fd := by
    intro p
    induction p with
    | nil => intro v0 v d0 d fp R g a; cases g; cases (show v = v0 from a); exact ⟨fp, R⟩
    | cons s p ih =>
      intro v0 v d0 d fp R g a
      cases s with
      | ix n =>
        obtain ⟨b, vs, v1, e1, e2, e3, e4⟩ := a
        subst e1
        obtain ⟨xs, d1, rfl, h1, h2⟩ := xb2 g
        obtain ⟨_, _, _, e5, hb, hs, _⟩ := R.lstT_inv
        cases e5
        rw [e2] at hb; cases hb
        obtain ⟨v', f, q1, q2, _⟩ := hs.get h1
        rw [e3] at q1; cases q1
        exact ih q2 h2 e4
      | fld f =>
        obtain ⟨b, C, dx, fs, n, v1, e1, e2, e2', e3, e4⟩ := a
        subst e1
        obtain ⟨C', ns, xs, n', d1, rfl, h0, h1, h2⟩ := yu4 g
        obtain ⟨_, _, _, _, e5, hb, hn, hs, _⟩ := R.objT_inv
        cases e5
        rw [e2] at hb; cases hb
        subst hn
        rw [e2'] at h0; cases h0
        obtain ⟨v', f, q1, q2, _⟩ := hs.get h1
        rw [e3] at q1; cases q1
        exact ih q2 h2 e4
  exact key R g a
noncomputable def zb8 : PSt -> Option (List Ps1) := fun _ => some []
noncomputable def zf7 (j : Nat) (pf : PSt -> Option (List Ps1)) (fb : PSt -> Option D) : PSt -> Option (List Ps1) := fun ps => (pf ps).bind fun p => ((ps[j]?).join).bind fun d0 => (zf3 d0 p).bind fun d => (fb ps).bind fun y => match d, y with
  | .lst true xs, .int i => (ixN xs.length i).bind fun n => some (p ++ [.ix n])
  | _, _ => none
noncomputable def zh0 (j : Nat) (pf : PSt -> Option (List Ps1)) (C f : Str) : PSt -> Option (List Ps1) := fun ps => (pf ps).bind fun p => ((ps[j]?).join).bind fun d0 => (zf3 d0 p).bind fun d => match d with
  | .obj true C' _ _ => if C' = C then some (p ++ [.fld f]) else none
  | _ => none
theorem yh8 : ∀ {fs : List (Str × V)} {f : Str} {n : Nat} {v : V}, ze1 (fs.map (·.1)) f = some n -> (fs.map (·.2))[n]? = some v -> fs.lookup f = some v
  | [], _, _, _, h, _ => by cases h
  | (g, u) :: fs, f, n, v, h, hv => by
    rw [List.map_cons, ze1] at h
    by_cases e : g = f
    . rw [if_pos e] at h
      cases h
      rw [List.lookup_cons]
      have : (f == g) = true := by simp [e]
      rw [this]
      simpa using hv
    . rw [if_neg e] at h
      cases q : ze1 (fs.map (·.1)) f with
      | none => rw [q] at h; cases h
      | some m =>
        rw [q] at h; cases h
        rw [List.lookup_cons]
        have : (f == g) = false := by simp; exact fun z => e z.symm
        rw [this]
        exact yh8 q (by simpa using hv)
section
variable {X : Cx} {φ : F0} {κ : Str -> Addr} {K : PySem.W.Frag} {o e a b : Expr} {f fb fe : PSt -> Option D} {g : PSt -> Option (List D)} {pf : PSt -> Option (List Ps1)} {j : Nat} {pos apos : Pos}
theorem zg9 (j : Nat) {x : Str} (hN : X.N[j]? = some x := by rfl) (hv : Vis X.env.scope x := by first | exact Or.inl rfl | exact Or.inr (Or.inl rfl) | exact Or.inr (Or.inr rfl)) (hd : (x == ("__debug__" : Str)) = false := by decide)
    (hcd : (x == ("__classdict__" : Str)) = false := by decide) : PE X (.Name x pos) (zp5 K κ j zb8) := (yk8 hN hv hd hcd).imp fun σ H Q hh_ => by
  obtain ⟨ps, p, d0, d, w, e0, ep, eg, q⟩ := hh_
  cases ep
  obtain ⟨v, fp, h1, h2⟩ := w j d0 e0
  exact ⟨v, h1, q v H v (.refl H) h1 rfl⟩
theorem zq9 (ha : PE X a (zp5 X.K κ j pf)) (hb : QV X κ b fb) (hs : ye4 b := by exact fun _ _ => rfl) : PE X (.Subscript a b pos) (zp5 X.K κ j (zf7 j pf fb)) :=
  (xf6 xa8 ha hb hs).imp fun σ H Q hh_ => by
    obtain ⟨ps, p, d0, d, w, e0, ep, eg, q⟩ := hh_
    obtain ⟨p1, e1, e2⟩ := bind_some ep
    obtain ⟨d0', e3, e4⟩ := bind_some e2
    have := join_some e3
    rw [e0] at this; cases this
    obtain ⟨d1, e5, e6⟩ := bind_some e4
    obtain ⟨y, e7, e8⟩ := bind_some e6
    split at e8
    . rename_i xs i
      obtain ⟨n, e9, e10⟩ := bind_some e8
      cases e10
      refine ⟨ps, p1, d0, _, w, e0, e1, e5, fun v H1 v0 s1 ev a1 => ⟨ps, _, w.same s1, e7, fun u H2 fq s2 r2 => ?_⟩⟩
      obtain ⟨v0', fp, h1, h2⟩ := w j d0 e0
      rw [ev] at h1; cases h1
      obtain ⟨fd, rd⟩ := yu5 (h2.same (s1.trans s2)) e5 (a1.same s2)
      obtain ⟨l, vs, g, rfl, hl, hr, _⟩ := rd.lstT_inv
      have ln := hr.length
      have hn := (yr6 e9).2.1
      obtain ⟨v1, hv⟩ : ∃ v1, vs[n]? = some v1 := ⟨_, List.getElem?_eq_getElem (by rw [ln]; exact hn)⟩
      refine ⟨l, vs, i, v1, rfl, r2.is_int, .inl (.inl hl), ?_, q _ H2 v0 (s1.trans s2) ev (At.snoc_ix hl hv (a1.same s2))⟩
      unfold atI
      rw [ln, e9]; exact hv
    . cases e8
theorem zr9 {C fn : Str} (hc : Cls X.K (κ C)) (hna : zi1 X.K (κ C) fn) (ha : PE X a (zp5 X.K κ j pf)) (hb : attributeBase a fn X.env (eval a X.env) = eval a X.env := by rfl) : PE X (.Attribute a fn pos) (zp5 X.K κ j (zh0 j pf C fn)) :=
  (wq4 ha hb).imp fun σ H Q hh_ => by
    obtain ⟨ps, p, d0, d, w, e0, ep, eg, q⟩ := hh_
    obtain ⟨p1, e1, e2⟩ := bind_some ep
    obtain ⟨d0', e3, e4⟩ := bind_some e2
    have := join_some e3
    rw [e0] at this; cases this
    obtain ⟨d1, e5, e6⟩ := bind_some e4
    split at e6
    . rename_i C' ns xs
      obtain ⟨hC, e7⟩ := zh8 e6
      subst hC
      cases e7
      refine ⟨ps, p1, d0, _, w, e0, e1, e5, fun v H1 v0 s1 ev a1 => ?_⟩
      obtain ⟨v0', fp, h1, h2⟩ := w j d0 e0
      rw [ev] at h1; cases h1
      obtain ⟨fd, rd⟩ := yu5 (h2.same s1) e5 a1
      have key : ∀ {p : List Ps1} {d0 : D}, zf3 d0 p = some (.obj true C' ns xs) -> zf3 d0 (p ++ [.fld fn]) = some d -> ∃ n d', ze1 ns fn = some n /\ xs[n]? = some d' := by
        intro p
        induction p with
        | nil =>
          intro d0 h1 h2
          cases h1
          obtain ⟨n, k1, k2⟩ := bind_some h2
          obtain ⟨d', k3, _⟩ := bind_some k2
          exact ⟨n, d', k1, k3⟩
        | cons s p ih =>
          intro d0 h1 h2
          cases s with
          | ix m =>
            obtain ⟨ys, x1, rfl, k1, k2⟩ := xb2 h1
            obtain ⟨_, x2, z, k3, k4⟩ := xb2 h2
            cases z
            rw [k1] at k3; cases k3
            exact ih k2 k4
          | fld f' =>
            obtain ⟨C2, ns2, ys, m1, x1, rfl, k0, k1, k2⟩ := yu4 h1
            obtain ⟨_, _, _, m2, x2, z, k5, k3, k4⟩ := yu4 h2
            cases z
            rw [k0] at k5; cases k5
            rw [k1] at k3; cases k3
            exact ih k2 k4
      obtain ⟨n, d', k1, k2⟩ := key e5 eg
      obtain ⟨l, dx, fs, g, rfl, hl, hn, hr, _⟩ := rd.objT_inv
      subst hn
      obtain ⟨v1, f1, k3, _⟩ := hr.get k2
      exact ⟨l, κ C', dx, fs, v1, rfl, hl, hc, hna, yh8 k1 k3, q _ H1 v0 s1 ev (At.snoc_fld hl k1 k3 a1)⟩
    . cases e6
noncomputable def zd2 (j : Nat) (pf : PSt -> Option (List Ps1)) (g : PSt -> Option (List D)) (h : List D -> D -> Option (D × D)) : PSt -> Option (D × PSt) := fun ps => ((ps[j]?).join).bind fun d0 => (pf ps).bind fun p => (g ps).bind fun ys => (ze3 (h ys) d0 p).bind fun r => some (r.1, ps.set j (some r.2))
theorem yj3 {h : List D -> D -> Option (D × D)} {ps ps' : PSt} {d : D} (e : zd2 j pf g h ps = some (d, ps')) : ∃ d0 p ys d0', ps[j]? = some (some d0) /\ pf ps = some p /\ g ps = some ys /\ ze3 (h ys) d0 p = some (d, d0') /\ ps' = ps.set j (some d0') := by
  obtain ⟨d0, e1, e2⟩ := bind_some e
  obtain ⟨p, e3, e4⟩ := bind_some e2
  obtain ⟨ys, e5, e6⟩ := bind_some e4
  obtain ⟨⟨r, d0'⟩, e7, e8⟩ := bind_some e6
  cases e8
  exact ⟨d0, p, ys, d0', join_some e1, e3, e5, e7, rfl⟩
noncomputable def zb6 : List D -> D -> Option (D × D)
  | [y], .lst true xs => if xs.length < sizeLine then some (.non, .lst true (xs ++ [y])) else none
  | _, _ => none
theorem yp7 {ys : List D} {d r d' : D} (h : zb6 ys d = some (r, d')) : ∃ y xs, ys = [y] /\ d = .lst true xs /\ xs.length < sizeLine /\ r = .non /\ d' = .lst true (xs ++ [y]) := by
  unfold zb6 at h
  split at h
  . obtain ⟨hc, e⟩ := zh8 h
    cases e
    exact ⟨_, _, rfl, rfl, hc, rfl, rfl⟩
  . cases h
theorem xb3 {H H1 : Hp} {σ : St} {ps : PSt} {d0 d : D} {v0 v : V} {p : List Ps1} (w : WS K κ H σ ps) (s1 : SameK H H1) (e0 : ps[j]? = some (some d0)) (ev : σ[j]? = some (some v0)) (g : zf3 d0 p = some d) (a : At H1 v0 p v) : ∃ fd, Rep K κ H1 v d fd := by
  obtain ⟨v0', fp, h1, h2⟩ := w j d0 e0
  rw [ev] at h1; cases h1
  exact yu5 (h2.same s1) g a
theorem zm5 (hb : φ.bor j = false) (ho : PE X o (zp5 X.K κ j pf)) (ha : PA X [e] (tPA X.K κ g))
    (hbase : attributeBase o "append" X.env (eval o X.env) = eval o X.env := by rfl)
    (hfew : ((backTo pos (starEach [e] X.env)).all (fun x => !x.1) && (backToKw pos (keywordEach [] X.env)).all (fun x => x.1.isSome)
      && decide ([e].length + ([] : List Keyword).length + (if ([] : List Keyword).isEmpty then 0 else 1) < 30)) = true := by rfl)
    (hline : (apos.endLine == pos.line) = true := by rfl) (hs : starEach [e] X.env = (false, eval e X.env) :: starEach [] X.env := by rfl) (hplain : (backTo pos (starEach [] X.env)).any (·.1) = false := by rfl) :
    QE X κ φ (.Call (.Attribute o "append" apos) [e] [] pos) (zd2 j pf g zb6) :=
  (wj2 PySem.F.plainAttrs_list PySem.F.slot_list_append PySem.F.type_list_append xc8 ho ha hbase hfew hline hs hplain).imp fun σ H Q hh_ => by
    obtain ⟨ps, F, d, ps', R, e, q⟩ := hh_
    obtain ⟨d0, p, ys, d0', e0, ep, eg, em, rfl⟩ := yj3 e
    obtain ⟨dd, dn, gp, hh⟩ := yb0 em
    refine ⟨ps, p, d0, dd, R.ws, e0, ep, gp, fun v H1 v0 s1 ev a1 => ⟨?_, ps, ys, R.ws.same s1, eg, fun vs H2 fy s2 n2 nd2 r2 => ?_⟩⟩
    . obtain ⟨y, xs, rfl, rfl, _⟩ := yp7 hh
      obtain ⟨fd, rd⟩ := xb3 R.ws s1 e0 ev gp a1
      obtain ⟨_, _, _, rfl, hl, hr, rfl⟩ := rd.lstT_inv
      exact .inl ⟨rfl, _, .inl (.inl hl)⟩
    . obtain ⟨d1, d1', fd, m1, m2, m3, m4, m5⟩ := yp6 R (s1.trans s2) hb e0 ev em (a1.same s2)
      obtain ⟨y, xs, rfl, rfl, hz, rfl, rfl⟩ := yp7 m2
      obtain ⟨u, rfl, ru⟩ := r2.one_inv
      obtain ⟨l, us, g1, rfl, hl, hr, rfl⟩ := m1.lstT_inv
      have ln := hr.length
      refine ⟨l, us, u, rfl, rfl, hl, by omega, ?_⟩
      have nl : l ∉ fy := fun z => by have := n2 l z; have := s1.keep l; obtain ⟨o, h1, h2, _⟩ := R.own (m4 l List.mem_cons_self); have := s1.keep l o h1 h2; rw [n2 l z] at this; cases this
      obtain ⟨nl2, nd3⟩ := List.nodup_cons.mp m3
      have up : ∀ a, a ≠ l -> upd H2 l (.lst (us ++ [u])) a = H2 a := fun a h => zi0 h
      have tfk : ∀ a o, H2 a = some o -> tf o = true -> upd H2 l (.lst (us ++ [u])) a = some o := fun a o h t => by
        rw [up a]
        . exact h
        . rintro rfl; rw [hl] at h; cases h; cases t
      obtain ⟨F', st, ow⟩ := m5 (upd H2 l (.lst (us ++ [u]))) (l :: (g1 ++ fy)) [] (fun a o h _ hn => by rw [up a (fun z => hn (z ▸ List.mem_cons_self))]; exact h)
        (fun a h => by
          by_cases z : a = l
          . subst z; rw [zm0] at h; cases h
          . rw [up a z] at h; exact h)
        (.lst zm0 (Reps.append (hr.move tfk fun a ha => up a fun z => nl2 (z ▸ ha)) (Reps.one (ru.move tfk fun a ha => up a fun z => nl (z ▸ ha)))))
        (by
          rw [List.append_nil, List.nodup_cons, List.nodup_append]
          refine ⟨fun z => (List.mem_append.mp z).elim nl2 nl, nd3, nd2, fun a ha b hb e => ?_⟩
          subst e
          obtain ⟨o, h1, h2, _⟩ := R.own (m4 a (List.mem_cons_of_mem _ ha))
          have := s1.keep a o h1 h2
          rw [n2 a hb] at this; cases this)
        (fun a ha => by
          rw [List.append_nil] at ha
          rcases List.mem_cons.mp ha with z | z
          . exact .inl (z ▸ List.mem_cons_self)
          . rcases List.mem_append.mp z with z | z
            . exact .inl (List.mem_cons_of_mem _ z)
            . exact .inr (s1.grow a (n2 a z)))
      exact q .non _ F' [] st ow .non
end
end L2
namespace L2
open PySem PySem.Spec PyProof.Rows
section
variable {K : PySem.W.Frag} {κ : Str -> Addr} {H : Hp} {l : Addr} {o0 o : HO}
theorem wa5 (hl : H l = some o0) (ht : tf o0 = false) : ∀ a u, H a = some u -> tf u = true -> upd H l o a = some u := fun a u h t => by
  rw [zi0]
  . exact h
  . rintro rfl; rw [hl] at h; cases h; rw [ht] at t; cases t
theorem Rep.updL {v : V} {d : D} {g : List Addr} (r : Rep K κ H v d g) (hl : H l = some o0) (ht : tf o0 = false) (n : l ∉ g) : Rep K κ (upd H l o) v d g := r.move (wa5 hl ht) fun a ha => zi0 fun z => n (z ▸ ha)
theorem Reps.updL {v : List V} {d : List D} {g : List Addr} (r : Reps K κ H v d g) (hl : H l = some o0) (ht : tf o0 = false) (n : l ∉ g) : Reps K κ (upd H l o) v d g := r.move (wa5 hl ht) fun a ha => zi0 fun z => n (z ▸ ha)
theorem yu6 {a : Addr} {u : HO} {g : List Addr} (h : H a = some u) (n : a ∉ l :: g) : upd H l o a = some u := by
  rw [zi0 (fun z => n (by rw [z]; exact List.mem_cons_self))]; exact h
theorem yu7 {a : Addr} (h : upd H l o a = none) : H a = none := by
  by_cases z : a = l
  . subst z; rw [zm0] at h; cases h
  . rw [zi0 z] at h; exact h
theorem Reps.pop : ∀ {vs : List V} {ds : List D} {g : List Addr} {d : D}, Reps K κ H vs ds g -> ds[ds.length - 1]? = some d -> ∃ v g1 f, vs[vs.length - 1]? = some v /\ Rep K κ H v d f /\ Reps K κ H vs.dropLast ds.dropLast g1 /\ g = g1 ++ f
  | _, _, _, _, .nil, e => by simp at e
  | _, [d1], _, d, .cons (f := f) h .nil, e => by
    have e' : d1 = d := by simpa using e
    subst e'
    exact ⟨_, [], f, by simp, h, .nil, by simp⟩
  | v :: v2 :: vs, d1 :: d2 :: ds, _, d, .cons (f := f) h (.cons (f := f2) (g := g2) h2 hs), e => by
    obtain ⟨w, g1, f', k1, k2, k3, k4⟩ := Reps.pop (.cons h2 hs) (d := d) (by simpa using e)
    refine ⟨w, f ++ g1, f', by simpa using k1, k2, ?_, by rw [List.append_assoc, <- k4]⟩
    rw [List.dropLast_cons₂, List.dropLast_cons₂]
    exact .cons h k3
theorem Reps.setV : ∀ {vs : List V} {ds : List D} {g : List Addr} {n : Nat} {v' : V} {d' : D} {f' : List Addr}, Reps K κ H vs ds g -> n < ds.length -> Rep K κ H v' d' f' -> ∃ f1 rest g', g.Perm (f1 ++ rest) /\ Reps K κ H (vs.set n v') (ds.set n d') g' /\ g'.Perm (f' ++ rest)
  | _, _, _, _, _, _, _, .nil, e, _ => by simp at e
  | _, _, _, 0, _, _, f', .cons (f := f) (g := g) h hs, _, r => ⟨f, g, f' ++ g, .refl _, .cons r hs, .refl _⟩
  | _, _, _, n + 1, _, _, f', .cons (f := f) (g := g) h hs, e, r => by
    obtain ⟨f1, rest, g', h1, h2, h3⟩ := Reps.setV (n := n) hs (by simpa using e) r
    refine ⟨f1, f ++ rest, f ++ g', ?_, .cons h h2, ?_⟩
    . refine (h1.append_left f).trans ?_
      rw [<- List.append_assoc, <- List.append_assoc]
      exact List.perm_append_comm.append_right rest
    . refine (h3.append_left f).trans ?_
      rw [<- List.append_assoc, <- List.append_assoc]
      exact List.perm_append_comm.append_right rest
end
section
variable {X : Cx} {φ : F0} {κ : Str -> Addr} {K : PySem.W.Frag} {o e a b : Expr} {f fi fe : PSt -> Option D} {g : PSt -> Option (List D)} {pf : PSt -> Option (List Ps1)} {j : Nat} {pos apos : Pos}
noncomputable def zj2 : List D -> D -> Option (D × D)
  | [], .lst true xs => (xs[xs.length - 1]?).bind fun y => some (y, .lst true xs.dropLast)
  | _, _ => none
theorem xd7 {ys : List D} {d r d' : D} (h : zj2 ys d = some (r, d')) : ∃ xs, ys = [] /\ d = .lst true xs /\ xs[xs.length - 1]? = some r /\ d' = .lst true xs.dropLast := by
  unfold zj2 at h
  split at h
  . obtain ⟨y, h1, h2⟩ := bind_some h
    cases h2
    exact ⟨_, rfl, rfl, h1, rfl⟩
  . cases h
theorem yw8 (hb : φ.bor j = false) (ho : PE X o (zp5 X.K κ j pf))
    (hbase : attributeBase o "pop" X.env (eval o X.env) = eval o X.env := by rfl) (hline : (apos.endLine == pos.line) = true := by rfl) : QE X κ φ (.Call (.Attribute o "pop" apos) [] [] pos) (zd2 j pf za2 zj2) :=
  (wr1 PySem.F.plainAttrs_list PySem.F.slot_list_pop PySem.F.type_list_pop wr2 ho hbase hline).imp fun σ H Q hh_ => by
    obtain ⟨ps, F, d, ps', R, e, q⟩ := hh_
    obtain ⟨d0, p, ys, d0', e0, ep, eg, em, rfl⟩ := yj3 e
    cases eg
    obtain ⟨dd, dn, gp, hh⟩ := yb0 em
    refine ⟨ps, p, d0, dd, R.ws, e0, ep, gp, fun v H1 v0 s1 ev a1 => ⟨?_, ?_⟩⟩
    . obtain ⟨xs, _, rfl, _⟩ := xd7 hh
      obtain ⟨fd, rd⟩ := xb3 R.ws s1 e0 ev gp a1
      obtain ⟨_, _, _, rfl, hl, hr, rfl⟩ := rd.lstT_inv
      exact .inl ⟨rfl, _, .inl (.inl hl)⟩
    . obtain ⟨d1, d1', fd, m1, m2, m3, m4, m5⟩ := yp6 R s1 hb e0 ev em a1
      obtain ⟨xs, _, rfl, hx, rfl⟩ := xd7 m2
      obtain ⟨l, us, g1, rfl, hl, hr, rfl⟩ := m1.lstT_inv
      obtain ⟨u, g2, f2, k1, k2, k3, rfl⟩ := hr.pop hx
      obtain ⟨nl, nd3⟩ := List.nodup_cons.mp m3
      have n1 : l ∉ g2 := fun z => nl (List.mem_append_left _ z)
      have n2 : l ∉ f2 := fun z => nl (List.mem_append_right _ z)
      refine ⟨l, us, u, rfl, rfl, hl, k1, ?_⟩
      obtain ⟨F', st, ow⟩ := m5 (upd H1 l (.lst us.dropLast)) (l :: g2) f2 (fun a o h _ hn => yu6 h hn)
        (fun a h => yu7 h)
        (.lst zm0 (k3.updL hl rfl n1)) (by rw [List.cons_append, List.nodup_cons]; exact ⟨nl, nd3⟩) (fun a ha => .inl ha)
      exact q u _ F' f2 st ow (k2.updL hl rfl n2)
noncomputable def zr5 : D -> D -> D -> Option (Unit × D)
  | .int i, y, .lst true xs => (ixN xs.length i).bind fun n => some ((), .lst true (xs.set n y))
  | _, _, _ => none
noncomputable def zq4 (j : Nat) (pf : PSt -> Option (List Ps1)) (fi fe : PSt -> Option D) : PSt -> Option (Fl × PSt) := fun ps => (fe ps).bind fun y => ((ps[j]?).join).bind fun d0 => (pf ps).bind fun p => (fi ps).bind fun i => (ze3 (zr5 i y) d0 p).bind fun r => some (.nx, ps.set j (some r.2))
theorem xn8 {i y d d' : D} {r : Unit} (h : zr5 i y d = some (r, d')) : ∃ k xs n, i = .int k /\ d = .lst true xs /\ ixN xs.length k = some n /\ d' = .lst true (xs.set n y) := by
  unfold zr5 at h
  split at h
  . obtain ⟨n, h1, h2⟩ := bind_some h
    cases h2
    exact ⟨_, _, n, rfl, rfl, h1, rfl⟩
  . cases h
theorem yu8 {i : Expr} (hb : φ.bor j = false) (he : PE X e (tP X.K κ fe)) (ho : PE X o (zp5 X.K κ j pf)) (hi : PE X i (tV X.K κ fi)) (hs : swapsWithSole [.Subscript o i apos] e pos.line X.env = pure false := by rfl) (hw : swappedStores [.Subscript o i apos] e X.env = pure none := by rfl)
    (h1 : (assignEach [.Subscript o i apos] X.env).map (·.2) = [assign (.Subscript o i apos) X.env] := by rfl)
    (ha : ∀ v, assign (.Subscript o i apos) X.env v = (do
      let ov <- holding [v] (eval o X.env)
      let iv <- holding [v, ov] (eval i X.env)
      standAt apos
      holding [v, ov, iv] (setItem ov iv v)
      release [v, ov, iv] []) := by intro _; rfl) : QS X κ φ (.Assign [.Subscript o i apos] e pos) (zq4 j pf fi fe) :=
  (xx3 he (wp8 ho hi wf3 ha) hs hw h1).imp fun E σ H hh_ => by
    obtain ⟨ps, F, fl, ps', R, e, q⟩ := hh_
    obtain ⟨y, e1, e2⟩ := bind_some e
    obtain ⟨d0, e3, e4⟩ := bind_some e2
    have e0 := join_some e3
    obtain ⟨p, e5, e6⟩ := bind_some e4
    obtain ⟨iv, e7, e8⟩ := bind_some e6
    obtain ⟨⟨r, d0'⟩, em, e9⟩ := bind_some e8
    cases e9
    obtain ⟨dd, dn, gp, hh⟩ := yb0 em
    refine ⟨ps, y, R.ws, e1, fun v H1 fy s1 n1 nd1 ry => ⟨ps, p, d0, dd, R.ws.same s1, e0, e5, gp, fun lv H2 v0 s2 ev a2 => ⟨ps, iv, (R.ws.same s1).same s2, e7, fun u H3 fu s3 r3 => ?_⟩⟩⟩
    have s13 := (s1.trans s2).trans s3
    obtain ⟨d1, d1', fd, m1, m2, m3, m4, m5⟩ := yp6 R s13 hb e0 ev em (a2.same s3)
    obtain ⟨k, xs, n, rfl, rfl, hn, rfl⟩ := xn8 m2
    obtain ⟨l, us, g1, rfl, hl, hr, rfl⟩ := m1.lstT_inv
    have ln := hr.length
    have ry3 := (ry.same s2).same s3
    obtain ⟨nl, nd3⟩ := List.nodup_cons.mp m3
    have own0 : ∀ a ∈ l :: g1, H a ≠ none := fun a ha z => by obtain ⟨o, h, _⟩ := R.own (m4 a ha); rw [z] at h; cases h
    have nl2 : l ∉ fy := fun z => own0 l List.mem_cons_self (n1 l z)
    obtain ⟨f1, rest, g2, k1, k2, k3⟩ := hr.setV (n := n) (yr6 hn).2.1 ry3
    have mem2 : ∀ a ∈ g2, a ∈ fy \/ a ∈ g1 := fun a ha => (List.mem_append.mp (k3.mem_iff.mp ha)).elim .inl fun z => .inr (k1.mem_iff.mpr (List.mem_append_right _ z))
    have n2 : l ∉ g2 := fun z => (mem2 l z).elim nl2 nl
    refine ⟨l, us, k, n, rfl, r3.is_int, hl, by rw [ln]; exact hn, ?_⟩
    obtain ⟨F', st, ow⟩ := m5 (upd H3 l (.lst (us.set n v))) (l :: g2) [] (fun a o h _ hn => yu6 h hn)
      (fun a h => yu7 h)
      (.lst zm0 (k2.updL hl rfl n2))
      (by
        rw [List.append_nil, List.nodup_cons]
        refine ⟨n2, k3.nodup_iff.mpr (List.nodup_append.mpr ⟨nd1, ?_, fun a ha b hb e => ?_⟩)⟩
        . exact (List.nodup_append.mp (k1.nodup_iff.mp nd3)).2.1
        . subst e
          exact own0 a (List.mem_cons_of_mem _ (k1.mem_iff.mpr (List.mem_append_right _ hb))) (n1 a ha))
      (fun a ha => by
        rw [List.append_nil] at ha
        rcases List.mem_cons.mp ha with z | z
        . exact .inl (by rw [z]; exact List.mem_cons_self)
        . exact (mem2 a z).elim (fun z => .inr (n1 a z)) fun z => .inl (List.mem_cons_of_mem _ z))
    exact q _ _ F' st
end
end L2
namespace L2
open PySem PySem.Spec PyProof.Rows
section
variable {φ : Fx} {H H1 : Hp} {σ σ1 : St} {ps ps1 : PSt} {F F1 : Nat -> List Addr}
theorem Stp.set' {fv : List Addr} {i : Nat} {v : V} {d : D} (s1 : Stp φ σ H F σ1 H1 ps1 F1) (o : OwnV F H F1 fv) (R : RS φ H σ ps F) (r : Rep φ.K φ.κ H1 v d fv) (hb : φ.bor i = false \/ fv = []) (hm : φ.M i = false) :
    ∃ F', Stp φ σ H F (σ1.set i (some v)) H1 (ps1.set i (some d)) F' /\ ∀ k a, a ∈ F' k -> a ∈ fv \/ a ∈ F1 k := by
  refine ⟨_, ⟨s1.fr, fun j a h => ?_, s1.rs.set r hb (fun j _ => o.dis j) o.nd fun a ha => R.notB (o.nw a ha), fun j h => ?_⟩, fun k a h => ?_⟩
  . rcases zw0 h with z | z
    . by_cases k : i < ps1.length
      . rw [if_pos k] at z; exact o.nw a z
      . rw [if_neg k] at z; exact absurd z (by simp)
    . exact s1.nw j a z
  . rw [List.getElem?_set_ne (fun z => by subst z; rw [hm] at h; cases h)]
    exact s1.msk j h
  . rcases zw0 h with z | z
    . by_cases k : i < ps1.length
      . rw [if_pos k] at z; exact .inl z
      . rw [if_neg k] at z; exact absurd z (by simp)
    . exact .inr z
noncomputable def setN : St -> List Nat -> List V -> St
  | σ, i :: is, v :: vs => setN (σ.set i (some v)) is vs
  | σ, _, _ => σ
noncomputable def yo4 : PSt -> List Nat -> List D -> PSt
  | ps, i :: is, d :: ds => yo4 (ps.set i (some d)) is ds
  | ps, _, _ => ps
noncomputable def yz3 : List Nat -> TGs
  | [] => wi2
  | i :: is => xw4 (yh0 i) (yz3 is)
theorem yp8 {Q : St -> Hp -> Prop} : ∀ {is : List Nat} {vs : List V} {σ : St}, vs.length = is.length -> Q (setN σ is vs) H -> yz3 is vs σ H Q
  | [], [], σ, _, q => ⟨rfl, q⟩
  | i :: is, v :: vs, σ, h, q => ⟨v, vs, rfl, yp8 (is := is) (by simpa using h) q⟩
  | [], _ :: _, _, h, _ => by simp at h
  | _ :: _, [], _, h, _ => by simp at h
theorem Stp.setN (R : RS φ H σ ps F) : ∀ {is : List Nat} {vs : List V} {ds : List D} {g : List Addr} {σ1 : St} {ps1 : PSt} {F1 : Nat -> List Addr}, Stp φ σ H F σ1 H1 ps1 F1 -> OwnV F H F1 g -> Reps φ.K φ.κ H1 vs ds g -> (∀ i ∈ is, φ.bor i = false /\ φ.M i = false) ->
    ∃ F', Stp φ σ H F (L2.setN σ1 is vs) H1 (yo4 ps1 is ds) F' := by
  intro is
  induction is with
  | nil => intro vs ds g σ1 ps1 F1 s _ _ _; exact ⟨F1, by simpa [L2.setN, yo4] using s⟩
  | cons i is ih =>
    intro vs ds g σ1 ps1 F1 s o r hi
    cases ds with
    | nil => cases r; exact ⟨F1, by simpa [L2.setN, yo4] using s⟩
    | cons d ds =>
      obtain ⟨v, us, f, g', rfl, h, hs, rfl⟩ := r.split
      obtain ⟨nd1, nd2, nd3⟩ := List.nodup_append.mp o.nd
      obtain ⟨F2, s2, hF⟩ := s.set' (i := i) (fv := f) ⟨fun a ha => o.nw a (List.mem_append_left _ ha), nd1, fun k a ha hf => o.dis k a ha (List.mem_append_left _ hf)⟩ R h (.inl (hi i List.mem_cons_self).1) (hi i List.mem_cons_self).2
      refine ih s2 ⟨fun a ha => o.nw a (List.mem_append_right _ ha), nd2, fun k a ha hg => ?_⟩ hs fun k hk => hi k (List.mem_cons_of_mem _ hk)
      rcases hF k a ha with z | z
      . exact nd3 a z a hg rfl
      . exact o.dis k a z (List.mem_append_right _ hg)
end
noncomputable def xn1 : D -> Option (List D)
  | .lst _ ds => some ds
  | .tup ds => some ds
  | _ => none
noncomputable def yo5 (is : List Nat) (f : PSt -> Option (D × PSt)) : PSt -> Option (Fl × PSt) := fun ps => (f ps).bind fun r => (xn1 r.1).bind fun ds => if ds.length = is.length then some (.nx, yo4 r.2 is ds) else none
section
variable {X : Cx} {κ : Str -> Addr} {φ : F0} {es : List Expr} {pos p : Pos} {k : Nat} {is : List Nat} {e : Expr} {f : PSt -> Option (D × PSt)}
theorem ws2 {t : TGs} {n : Nat} (hc : X.calm = true) (h : PGs X es t)
    (hn : (assignEach es X.env).length = n := by rfl) (hst : (assignEach es X.env).findIdx? (·.1) = none := by rfl) : PG X (.Tuple es k pos) (fun v σ H Q => wv4 X.K n t v σ H Q \/ wu5 X.K n t v σ H Q) := by
  intro pins s σ H v u Q I r hw
  rcases hw with hw | hw
  . exact wr8 hc h hn hst pins s σ H v u Q I r hw
  . exact wp7 hc h hn hst pins s σ H v u Q I r hw
theorem yp9 (hc : X.calm = true) (hg : PGs X es (yz3 is)) (he : QE X κ φ e f) (hb : ∀ i ∈ is, φ.bor i = false /\ φ.M i = false) (hn : (assignEach es X.env).length = is.length := by rfl) (hst : (assignEach es X.env).findIdx? (·.1) = none := by rfl)
    (hs : swapsWithSole [.Tuple es k p] e pos.line X.env = pure false := by rfl) (hw : swappedStores [.Tuple es k p] e X.env = pure none := by rfl)
    (h1 : (assignEach [.Tuple es k p] X.env).map (·.2) = [assign (.Tuple es k p) X.env] := by rfl) : QS X κ φ (.Assign [.Tuple es k p] e pos) (yo5 is f) :=
  (xx3 he (ws2 (n := is.length) hc hg hn hst) hs hw h1).imp fun E σ H hh_ => by
    obtain ⟨ps, F, fl, ps', R, e, q⟩ := hh_
    obtain ⟨⟨d, ps1⟩, e1, e2⟩ := bind_some e
    obtain ⟨ds, e3, e4⟩ := bind_some e2
    obtain ⟨hl, e5⟩ := zh8 e4
    cases e5
    refine ⟨ps, F, d, ps1, R, e1, fun v H' F' fv s o r => ?_⟩
    cases d with
    | lst ow xs =>
      cases e3
      obtain ⟨a, vs, g, rfl, h, hs, sub⟩ := r.lst_inv
      have ln := hs.length
      obtain ⟨F2, s2⟩ := Stp.setN R s ⟨fun a ha => o.nw a (sub.subset ha), o.nd.sublist sub, fun k a ha hg => o.dis k a ha (sub.subset hg)⟩ hs hb
      exact .inl ⟨a, vs, rfl, .inl h, by omega, yp8 (by omega) (q _ _ F2 s2)⟩
    | tup xs =>
      cases e3
      obtain ⟨a, vs, rfl, h, hs⟩ := r.tup_inv
      have ln := hs.length
      obtain ⟨F2, s2⟩ := Stp.setN R s ⟨fun a ha => absurd ha (by simp), List.nodup_nil, fun k a ha hg => absurd hg (by simp)⟩ hs hb
      exact .inr ⟨a, vs, rfl, h, by omega, yp8 (by omega) (q _ _ F2 s2)⟩
    | _ => cases e3
end
noncomputable def D.key : D -> Option Key
  | .int i => some (.inl i)
  | .str x => some (.inr x)
  | _ => none
theorem xq3 {K : PySem.W.Frag} {κ : Str -> Addr} {H : Hp} {v : V} {d : D} {fp : List Addr} {k : Key} (r : Rep K κ H v d fp) (h : d.key = some k) : v = kV k := by
  cases r <;> first | (cases h; rfl) | cases h
noncomputable def zu4 : List Key -> List D -> Key -> Option D
  | k :: ks, d :: ds, j => if k = j then some d else zu4 ks ds j
  | _, _, _ => none
noncomputable def zt1 : D -> D -> Option D
  | .dic _ ks ds, y => y.key.bind fun k => zu4 ks ds k
  | _, _ => none
theorem xi9 {K : PySem.W.Frag} {κ : Str -> Addr} {H : Hp} : ∀ {kvs : List (Key × V)} {ks : List Key} {ds : List D} {g : List Addr} {k : Key} {d : D}, kvs.map (·.1) = ks -> Reps K κ H (kvs.map (·.2)) ds g -> zu4 ks ds k = some d -> ∃ v f, yj0 kvs k = some v /\ Rep K κ H v d f /\ f.Sublist g
  | [], _, _, _, _, _, e, r, h => by subst e; cases r; cases h
  | (k0, v0) :: kvs, _, _, _, k, d, e, .cons (f := f) (g := g) h hs, q => by
    subst e
    rw [List.map_cons, zu4] at q
    by_cases z : k0 = k
    . rw [if_pos z] at q
      cases q
      exact ⟨v0, f, yt9 z, h, List.sublist_append_left _ _⟩
    . rw [if_neg z] at q
      obtain ⟨v, f', q1, q2, q3⟩ := xi9 rfl hs q
      exact ⟨v, f', by rw [yu0 z]; exact q1, q2, q3.trans (List.sublist_append_right _ _)⟩
end L2
namespace L2
open PySem PySem.Spec PyProof.Rows
noncomputable def fxE (K : PySem.W.Frag) (κ : Str -> Addr) (np : Nat) (m : Nat -> Bool) : Fx := ⟨K, κ, fun i => decide (i < np) && !m i, m, fun _ _ => False⟩
noncomputable def f0E (np : Nat) (m : Nat -> Bool) : F0 := ⟨fun i => decide (i < np) && !m i, m, fun _ _ => False⟩
noncomputable def SpE (np : Nat) (K : PySem.W.Frag) (κ : Str -> Addr) (m : Nat -> Bool) (g : List D -> Option (D × List D)) : Sp := fun vs H Q _ => vs.length = np /\ ∃ ds r ds' F, ds.length = np /\ RS (fxE K κ np m) H (vs.map some) (ds.map some) F /\ g ds = some (r, ds') /\
  ∀ v H' F' fv, Stp (fxE K κ np m) (vs.map some) H F (vs.map some) H' (ds'.map some) F' -> OwnV F H F' fv -> Rep K κ H' v r fv -> Q v H'
noncomputable def zl1 (m : Nat -> Bool) (ps : PSt) : Nat -> List D -> Option (List D)
  | _, [] => some []
  | i, d :: ds => (if m i = true then (ps[i]?).join else some d).bind fun d' => (zl1 m ps (i + 1) ds).bind fun ds' => some (d' :: ds')
theorem xd8 {m : Nat -> Bool} {ps : PSt} : ∀ {ds ds' : List D} {i : Nat}, zl1 m ps i ds = some ds' -> ds'.length = ds.length /\ ∀ (k : Nat) (d' : D), ds'[k]? = some d' -> (m (i + k) = true -> ps[i + k]? = some (some d')) /\ (m (i + k) = false -> ds[k]? = some d')
  | [], _, _, e => by cases e; exact ⟨rfl, fun k d' h => by simp at h⟩
  | d :: ds, _, i, e => by
    obtain ⟨d1, e1, e2⟩ := bind_some e
    obtain ⟨ds1, e3, e4⟩ := bind_some e2
    cases e4
    obtain ⟨l, h⟩ := xd8 e3
    refine ⟨by simp [l], fun k d' hk => ?_⟩
    cases k with
    | zero =>
      simp at hk; subst hk
      refine ⟨fun z => ?_, fun z => ?_⟩
      . rw [Nat.add_zero] at z |-; rw [if_pos z] at e1; exact join_some e1
      . rw [Nat.add_zero] at z; rw [if_neg (by rw [z]; simp)] at e1; simpa using e1
    | succ k =>
      obtain ⟨h1, h2⟩ := h k d' (by simpa using hk)
      have ea : i + (k + 1) = i + 1 + k := by omega
      rw [ea]
      exact ⟨h1, fun z => by simpa using h2 z⟩
noncomputable def gE (np n : Nat) (m : Nat -> Bool) (f : PSt -> Option (Fl × PSt)) : List D -> Option (D × List D) := fun ds => if ds.length = np then (f (ds.map some ++ List.replicate n none)).bind fun r => match r with
  | (.ret d, ps) => (zl1 m ps 0 ds).bind fun ds' => some (d, ds')
  | (.nx, ps) => (zl1 m ps 0 ds).bind fun ds' => some (.non, ds')
  | _ => none
  else none
theorem RS.more {φ : Fx} {H : Hp} {σ σ2 : St} {ps : PSt} {F : Nat -> List Addr} {n : Nat} (R : RS φ H σ ps F) (hl : ps.length = σ.length) (h2 : n <= σ2.length) : RS φ H (σ ++ σ2) (ps ++ List.replicate n none) F := by
  refine ⟨fun i d h => ?_, fun i a h => ?_, R.dis, R.nd, R.nb, R.bt, by simp [hl]; omega⟩
  . by_cases hi : i < ps.length
    . rw [List.getElem?_append_left hi] at h
      rw [List.getElem?_append_left (by omega)]
      exact R.rep i d h
    . rw [List.getElem?_append_right (by omega), List.getElem?_replicate] at h
      split at h <;> cases h
  . obtain ⟨b, d, e⟩ := R.emp i a h
    have hi := (List.getElem?_eq_some_iff.mp e).1
    exact ⟨b, d, by rw [List.getElem?_append_left hi]; exact e⟩
theorem xj0 {K : PySem.W.Frag} {κ : Str -> Addr} {np n : Nat} {m : Nat -> Bool} {H H' : Hp} {vs : List V} {σ2 σ' : St} {ds ds' : List D} {ps' : PSt} {F F' : Nat -> List Addr} {fv : List Addr} (hm : ∀ i, m i = true -> i < np) (hl : vs.length = np) (hd : ds.length = np) (R : RS (fxE K κ np m) H (vs.map some) (ds.map some) F)
    (s : Stp (fxE K κ np m) (vs.map some ++ σ2) H F σ' H' ps' F') (o : OwnV F H F' fv) (e : zl1 m ps' 0 ds = some ds') :
    ∃ F2, Stp (fxE K κ np m) (vs.map some) H F (vs.map some) H' (ds'.map some) F2 /\ OwnV F H F2 fv := by
  obtain ⟨l, ho⟩ := xd8 e
  have sub : ∀ i a, a ∈ (if m i = true then F' i else []) -> m i = true /\ a ∈ F' i := fun i a h => by
    by_cases z : m i = true
    . rw [if_pos z] at h; exact ⟨z, h⟩
    . rw [if_neg z] at h; exact absurd h (by simp)
  have tfk : ∀ a u, H a = some u -> tf u = true -> H' a = some u := fun a u h t => s.fr.keep a u h (ya9 t) fun i hi => by
    obtain ⟨u', h', _, t'⟩ := R.own hi
    rw [h] at h'; cases h'; rw [t] at t'; cases t'
  have mb : ∀ i, m i = true -> (fxE K κ np m).bor i = false := fun i h => by simp [fxE, h]
  refine ⟨fun i => if m i = true then F' i else [], ⟨s.fr, fun i a h => s.nw i a (sub i a h).2, ⟨fun i d h => ?_, fun i a h => ?_, fun i j a h1 h2 => s.rs.dis i j a (sub i a h1).2 (sub j a h2).2, fun i => ?_, fun i a h => s.rs.nb i a (sub i a h).2, fun _ a h => h.elim, by simp [l, hl, hd]⟩, fun _ _ => rfl⟩, ⟨o.nw, o.nd, fun i a h => o.dis i a (sub i a h).2⟩⟩
  . rw [List.getElem?_map] at h
    cases q : ds'[i]? with
    | none => rw [q] at h; cases h
    | some d1 =>
      rw [q] at h; cases h
      obtain ⟨h1, h2⟩ := ho i d q
      rw [Nat.zero_add] at h1 h2
      by_cases z : m i = true
      . obtain ⟨v, fp, k1, k2, k3, _⟩ := s.rs.rep i d (h1 z)
        refine ⟨v, fp, ?_, k2, fun _ => by rw [if_pos z]; exact k3 (mb i z), fun w => by rw [mb i z] at w; cases w⟩
        rw [<- k1]
        have := s.msk i z
        rw [this, List.getElem?_append_left (by simp [hl]; exact hm i z)]
      . have zf : m i = false := by simpa using z
        have hi : (ds.map some)[i]? = some (some d) := by rw [List.getElem?_map, h2 zf]; rfl
        have hib : (fxE K κ np m).bor i = true := by
          have := (List.getElem?_eq_some_iff.mp (h2 zf)).1
          simp [fxE, zf]; omega
        obtain ⟨v, fp, k1, k2, _, k4⟩ := R.rep i d hi
        have efp : fp = [] := by
          cases fp with
          | nil => rfl
          | cons a r => exact (k4 hib a List.mem_cons_self).elim
        subst efp
        exact ⟨v, [], k1, k2.move tfk (fun a ha => absurd ha (by simp)), (fun w => by rw [hib] at w; cases w), (fun _ a ha => absurd ha (by simp))⟩
  . obtain ⟨z, h⟩ := sub i a h
    refine ⟨mb i z, ?_⟩
    have hi : i < ds'.length := by rw [l, hd]; exact hm i z
    exact ⟨ds'[i], by rw [List.getElem?_map, List.getElem?_eq_getElem hi]; rfl⟩
  . by_cases z : m i = true
    . rw [if_pos z]; exact s.rs.nd i
    . rw [if_neg z]; exact List.nodup_nil
section
variable {P : Program} {w : World} {K : PySem.W.Frag} {mg : Str -> Option Value} {base : Heap} {κ : Str -> Addr}
theorem yj4 {x qual : Str} {st : Stmt} {f : Addr} {fd : FuncData} {N ps : List Str} {k : Nat} {fb : PSt -> Option (Fl × PSt)} {m : Nat -> Bool} (F : Fun K x qual st f fd) (S : FnScope N ps (zc7 st)) (hm : ∀ i, m i = true -> i < ps.length)
    (hbody : ∀ (cdv : Value) (A : Around) (outer : List Env) (s : Shared) (H : Hp) (E : XK), Room k (A.deeper (envOfC qual (zc7 st) s.heap.objs.size f cdv)) ->
      QSs (yk2 CX0 P w K mg base N qual (zc7 st) f cdv A outer s H E).nox κ (f0E ps.length m) (zh3 st) fb) :
    FnOk P w K mg base CX0 (k + 1) f fd ps (SpE ps.length K κ m (gE ps.length (N.length - ps.length) m fb)) := by
  refine F.ok S (fun vs H Q E h => h.1) fun cdv A outer s H vs Q E hr ⟨hl, ds, r, ds', F0, hd, R, e, q⟩ => ⟨_, hbody cdv A outer s H E hr, ?_⟩
  have hn : ps.length <= N.length := by have := congrArg List.length S.pre; rw [List.length_take] at this; omega
  unfold gE at e
  obtain ⟨_, e0⟩ := zh8 e
  obtain ⟨⟨fl, ps'⟩, e1, e2⟩ := bind_some e0
  have R0 := R.more (σ2 := List.replicate (N.length - vs.length) none) (n := N.length - ps.length) (by simp [hl, hd]) (by simp [hl])
  refine ⟨_, F0, fl, ps', R0, e1, ?_⟩
  cases fl with
  | ret d' =>
    obtain ⟨ds1, e3, e4⟩ := bind_some e2
    cases e4
    exact fun v σ' H' F' fv s o rv => by
      obtain ⟨F2, s2, o2⟩ := xj0 (n := 0) hm hl hd R s o e3
      exact q v H' F2 fv s2 o2 rv
  | nx =>
    obtain ⟨ds1, e3, e4⟩ := bind_some e2
    cases e4
    exact fun σ' H' F' s => by
      obtain ⟨F2, s2, o2⟩ := xj0 (n := 0) (fv := []) hm hl hd R s ⟨fun _ h => absurd h (by simp), List.nodup_nil, fun _ _ _ h => absurd h (by simp)⟩ e3
      exact q .non H' F2 [] s2 o2 .non
  | bk => cases e2
  | ct => cases e2
end
inductive Arg where
  | io (j : Nat) | im (f : PSt -> Option D)
noncomputable def ze2 : List Arg -> PSt -> Option (List D)
  | [], _ => some []
  | .io j :: as, ps => ((ps[j]?).join).bind fun d => (ze2 as ps).bind fun ds => some (d :: ds)
  | .im f :: as, ps => (zb3 f ps).bind fun d => (ze2 as ps).bind fun ds => some (d :: ds)
noncomputable def zy6 : List Arg -> Nat -> Bool
  | .io _ :: _, 0 => true
  | _ :: as, i + 1 => zy6 as i
  | _, _ => false
noncomputable def slots : List Arg -> List Nat
  | [] => []
  | .io j :: as => j :: slots as
  | .im _ :: as => slots as
noncomputable def zi3 : PSt -> List Arg -> List D -> PSt
  | ps, .io j :: as, d :: ds => zi3 (ps.set j (some d)) as ds
  | ps, .im _ :: as, _ :: ds => zi3 ps as ds
  | ps, _, _ => ps
inductive ArgsAt (K : PySem.W.Frag) (κ : Str -> Addr) (H : Hp) (σ : St) (ps : PSt) : List Arg -> List V -> List D -> Prop
  | nil : ArgsAt K κ H σ ps [] [] []
  | io {j : Nat} {as : List Arg} {v : V} {vs : List V} {d : D} {ds : List D} : σ[j]? = some (some v) -> ps[j]? = some (some d) -> ArgsAt K κ H σ ps as vs ds -> ArgsAt K κ H σ ps (.io j :: as) (v :: vs) (d :: ds)
  | im {f : PSt -> Option D} {as : List Arg} {v : V} {vs : List V} {d : D} {ds : List D} : Rep K κ H v d [] -> ArgsAt K κ H σ ps as vs ds -> ArgsAt K κ H σ ps (.im f :: as) (v :: vs) (d :: ds)
theorem ArgsAt.len {K : PySem.W.Frag} {κ : Str -> Addr} {H : Hp} {σ : St} {ps : PSt} : ∀ {as : List Arg} {vs : List V} {ds : List D}, ArgsAt K κ H σ ps as vs ds -> vs.length = as.length /\ ds.length = as.length
  | _, _, _, .nil => ⟨rfl, rfl⟩
  | _, _, _, .io _ _ h => by have := h.len; simp [this]
  | _, _, _, .im _ h => by have := h.len; simp [this]
theorem ArgsAt.get {K : PySem.W.Frag} {κ : Str -> Addr} {H : Hp} {σ : St} {ps : PSt} : ∀ {as : List Arg} {vs : List V} {ds : List D} {i : Nat} {d : D}, ArgsAt K κ H σ ps as vs ds -> ds[i]? = some d -> ∃ v, vs[i]? = some v /\ ((∃ j, as[i]? = some (.io j) /\ zy6 as i = true /\ σ[j]? = some (some v) /\ ps[j]? = some (some d)) \/ (zy6 as i = false /\ Rep K κ H v d []))
  | _, _, _, _, _, .nil, e => by simp at e
  | _, _, _, 0, _, .io h1 h2 _, e => by simp at e; subst e; exact ⟨_, rfl, .inl ⟨_, rfl, rfl, h1, h2⟩⟩
  | _, _, _, 0, _, .im r _, e => by simp at e; subst e; exact ⟨_, rfl, .inr ⟨rfl, r⟩⟩
  | _, _, _, i + 1, _, .io _ _ h, e => by
    obtain ⟨v, h1, h2⟩ := ArgsAt.get (i := i) h (by simpa using e)
    exact ⟨v, by simpa using h1, by simpa [zy6] using h2⟩
  | _, _, _, i + 1, _, .im _ h, e => by
    obtain ⟨v, h1, h2⟩ := ArgsAt.get (i := i) h (by simpa using e)
    exact ⟨v, by simpa using h1, by simpa [zy6] using h2⟩
theorem xb4 : ∀ {as : List Arg} {i : Nat}, zy6 as i = true -> ∃ j, as[i]? = some (.io j)
  | .io j :: _, 0, _ => ⟨j, rfl⟩
  | .im _ :: _, 0, h => by cases h
  | .io _ :: as, i + 1, h => by obtain ⟨j, e⟩ := xb4 (as := as) (i := i) h; exact ⟨j, by simpa using e⟩
  | .im _ :: as, i + 1, h => by obtain ⟨j, e⟩ := xb4 (as := as) (i := i) h; exact ⟨j, by simpa using e⟩
  | [], _, h => by cases h
theorem yd7 : ∀ {as : List Arg} {i j : Nat}, as[i]? = some (.io j) -> zy6 as i = true
  | .io _ :: _, 0, _, _ => rfl
  | .im _ :: _, 0, _, h => by simp at h
  | .io _ :: as, i + 1, j, h => yd7 (as := as) (i := i) (j := j) (by simpa using h)
  | .im _ :: as, i + 1, j, h => yd7 (as := as) (i := i) (j := j) (by simpa using h)
  | [], _, _, h => by simp at h
theorem zt4 : ∀ {as : List Arg} {i j : Nat}, as[i]? = some (.io j) -> j ∈ slots as
  | .io _ :: _, 0, _, h => by simp at h; subst h; exact List.mem_cons_self
  | .im _ :: _, 0, _, h => by simp at h
  | .io _ :: as, i + 1, j, h => List.mem_cons_of_mem _ (zt4 (as := as) (i := i) (by simpa using h))
  | .im _ :: as, i + 1, j, h => zt4 (as := as) (i := i) (by simpa using h)
  | [], _, _, h => by simp at h
theorem yq0 : ∀ {as : List Arg} {i k j : Nat}, (slots as).Nodup -> as[i]? = some (.io j) -> as[k]? = some (.io j) -> i = k
  | [], _, _, _, _, h, _ => by simp at h
  | a :: as, 0, 0, _, _, _, _ => rfl
  | .io j' :: as, 0, k + 1, j, nd, h1, h2 => by
    simp at h1; subst h1
    exact absurd (zt4 (as := as) (i := k) (by simpa using h2)) (List.nodup_cons.mp nd).1
  | .im _ :: as, 0, k + 1, j, _, h1, _ => by simp at h1
  | .io j' :: as, i + 1, 0, j, nd, h1, h2 => by
    simp at h2; subst h2
    exact absurd (zt4 (as := as) (i := i) (by simpa using h1)) (List.nodup_cons.mp nd).1
  | .im _ :: as, i + 1, 0, j, _, _, h2 => by simp at h2
  | .io j' :: as, i + 1, k + 1, j, nd, h1, h2 => by rw [yq0 (as := as) (i := i) (k := k) (j := j) (List.nodup_cons.mp nd).2 (by simpa using h1) (by simpa using h2)]
  | .im _ :: as, i + 1, k + 1, j, nd, h1, h2 => by rw [yq0 (as := as) (i := i) (k := k) (j := j) nd (by simpa using h1) (by simpa using h2)]
noncomputable def zo5 : List Arg -> Nat -> Option Nat
  | [], _ => none
  | .io i :: as, j => if i = j then some 0 else (zo5 as j).map (· + 1)
  | .im _ :: as, j => (zo5 as j).map (· + 1)
theorem zz5 : ∀ {as : List Arg} {j i : Nat}, zo5 as j = some i -> as[i]? = some (.io j)
  | [], _, _, h => by cases h
  | .io k :: as, j, i, h => by
    rw [zo5] at h
    by_cases z : k = j
    . rw [if_pos z] at h; cases h; rw [z]; rfl
    . rw [if_neg z] at h
      cases q : zo5 as j with
      | none => rw [q] at h; cases h
      | some n => rw [q] at h; cases h; simpa using zz5 q
  | .im _ :: as, j, i, h => by
    rw [zo5] at h
    cases q : zo5 as j with
    | none => rw [q] at h; cases h
    | some n => rw [q] at h; cases h; simpa using zz5 q
theorem zw1 : ∀ {as : List Arg} {j : Nat}, zo5 as j = none -> j ∉ slots as
  | [], _, _ => by simp [slots]
  | .io k :: as, j, h => by
    rw [zo5] at h
    by_cases z : k = j
    . rw [if_pos z] at h; cases h
    . rw [if_neg z] at h
      have h' : zo5 as j = none := by
        cases q : zo5 as j with
        | none => rfl
        | some n => rw [q] at h; cases h
      exact fun hm => (List.mem_cons.mp hm).elim (fun e => z e.symm) (zw1 h')
  | .im _ :: as, j, h => by
    rw [zo5] at h
    have h' : zo5 as j = none := by
      cases q : zo5 as j with
      | none => rfl
      | some n => rw [q] at h; cases h
    exact fun hm => zw1 (as := as) h' hm
theorem yn1 : ∀ {as : List Arg} {ds : List D} {ps : PSt}, (zi3 ps as ds).length = ps.length
  | [], _, _ => by simp [zi3]
  | .io j :: as, [], _ => by simp [zi3]
  | .im _ :: as, [], _ => by simp [zi3]
  | .io j :: as, d :: ds, ps => by rw [zi3, yn1 (as := as)]; simp
  | .im _ :: as, d :: ds, ps => by rw [zi3, yn1 (as := as)]
theorem yc6 : ∀ {as : List Arg} {ds : List D} {ps : PSt} {j : Nat}, j ∉ slots as -> (zi3 ps as ds)[j]? = ps[j]?
  | [], _, _, _, _ => by simp [zi3]
  | .io _ :: _, [], _, _, _ => by simp [zi3]
  | .im _ :: _, [], _, _, _ => by simp [zi3]
  | .io k :: as, d :: ds, ps, j, h => by
    rw [zi3, yc6 (as := as) (fun z => h (List.mem_cons_of_mem _ z)), List.getElem?_set_ne (fun z => h (by rw [<- z]; exact List.mem_cons_self))]
  | .im _ :: as, d :: ds, ps, j, h => by rw [zi3]; exact yc6 (as := as) h
theorem ys0 : ∀ {as : List Arg} {ds : List D} {ps : PSt} {i j : Nat} {d : D}, (slots as).Nodup -> as[i]? = some (.io j) -> ds[i]? = some d -> j < ps.length -> (zi3 ps as ds)[j]? = some (some d)
  | [], _, _, _, _, _, _, h, _, _ => by simp at h
  | _ :: _, [], _, _, _, _, _, _, h, _ => by simp at h
  | .io k :: as, d1 :: ds, ps, 0, j, d, nd, h1, h2, h3 => by
    simp at h1 h2; subst h1; subst h2
    rw [zi3, yc6 (List.nodup_cons.mp nd).1, List.getElem?_set_self h3]
  | .im _ :: as, d1 :: ds, ps, 0, j, d, _, h1, _, _ => by simp at h1
  | .io k :: as, d1 :: ds, ps, i + 1, j, d, nd, h1, h2, h3 => by
    rw [zi3]; exact ys0 (List.nodup_cons.mp nd).2 (by simpa using h1) (by simpa using h2) (by simpa using h3)
  | .im _ :: as, d1 :: ds, ps, i + 1, j, d, nd, h1, h2, h3 => by
    rw [zi3]; exact ys0 (as := as) nd (by simpa using h1) (by simpa using h2) h3
noncomputable def ye6 (as : List Arg) (F : Nat -> List Addr) : Nat -> List Addr := fun i => match as[i]? with
  | some (.io j) => F j
  | _ => []
theorem xq4 {as : List Arg} {F : Nat -> List Addr} {i j : Nat} (e : as[i]? = some (.io j)) : ye6 as F i = F j := by unfold ye6; rw [e]
theorem xj1 {as : List Arg} {F : Nat -> List Addr} {i : Nat} {b : Addr} (h : b ∈ ye6 as F i) : ∃ j, as[i]? = some (.io j) /\ b ∈ F j := by
  unfold ye6 at h
  cases q : as[i]? with
  | none => rw [q] at h; exact absurd h (by simp)
  | some x =>
    cases x with
    | io j => rw [q] at h; exact ⟨j, rfl, h⟩
    | im _ => rw [q] at h; exact absurd h (by simp)
theorem xb5 {as : List Arg} {F : Nat -> List Addr} {i : Nat} (e : zy6 as i = false) : ye6 as F i = [] := by
  unfold ye6
  cases q : as[i]? with
  | none => rfl
  | some x => cases x with
    | io j => rw [yd7 q] at e; cases e
    | im _ => rfl
theorem wg5 {φ : Fx} {H : Hp} {σ : St} {ps : PSt} {F : Nat -> List Addr} {as : List Arg} {vs : List V} {ds : List D} (R : RS φ H σ ps F) (nd : (slots as).Nodup) (hb : ∀ j ∈ slots as, φ.bor j = false) (a : ArgsAt φ.K φ.κ H σ ps as vs ds) :
    RS (fxE φ.K φ.κ as.length (zy6 as)) H (vs.map some) (ds.map some) (ye6 as F) := by
  obtain ⟨lv, ld⟩ := a.len
  have memF : ∀ i b, b ∈ ye6 as F i -> ∃ j, as[i]? = some (Arg.io j) /\ b ∈ F j := fun i b h => xj1 h
  refine ⟨fun i d h => ?_, fun i b h => ?_, fun i k b h1 h2 => ?_, fun i => ?_, fun i b h k z => z.elim, fun k b z => z.elim, by simp [lv, ld]⟩
  . rw [List.getElem?_map] at h
    cases q : ds[i]? with
    | none => rw [q] at h; cases h
    | some d1 =>
      rw [q] at h; cases h
      obtain ⟨v, h1, h2⟩ := a.get q
      have hi := (List.getElem?_eq_some_iff.mp q).1
      refine ⟨v, ye6 as F i, by rw [List.getElem?_map, h1]; rfl, ?_, fun _ => rfl, fun z => ?_⟩
      . rcases h2 with ⟨j, e1, e2, e3, e4⟩ | ⟨e1, r⟩
        . obtain ⟨v', fp, k1, k2, k3, _⟩ := R.rep j d e4
          rw [e3] at k1; cases k1
          rw [xq4 e1]
          have := k3 (hb j (zt4 e1))
          subst this
          exact k2
        . rw [xb5 e1]; exact r
      . rcases h2 with ⟨j, e1, e2, _⟩ | ⟨e1, r⟩
        . simp [fxE, e2] at z
        . rw [xb5 e1]; intro b hb; exact absurd hb (by simp)
  . obtain ⟨j, e, hj⟩ := memF i b h
    have hi : i < ds.length := by rw [ld]; exact (List.getElem?_eq_some_iff.mp e).1
    exact ⟨by simp [fxE, yd7 e], ds[i], by rw [List.getElem?_map, List.getElem?_eq_getElem hi]; rfl⟩
  . obtain ⟨j1, e1, m1⟩ := memF i b h1
    obtain ⟨j2, e2, m2⟩ := memF k b h2
    have := R.dis j1 j2 b m1 m2
    subst this
    exact yq0 nd e1 e2
  . cases z : zy6 as i with
    | true => obtain ⟨j, e⟩ := xb4 z; rw [xq4 e]; exact R.nd j
    | false => rw [xb5 z]; exact List.nodup_nil
noncomputable def yj7 (as : List Arg) (F Fc : Nat -> List Addr) : Nat -> List Addr := fun j => match zo5 as j with
  | some i => Fc i
  | none => F j
theorem wa6 {as : List Arg} {F Fc : Nat -> List Addr} {j : Nat} {b : Addr} (h : b ∈ yj7 as F Fc j) : (∃ i, zo5 as j = some i /\ b ∈ Fc i) \/ (zo5 as j = none /\ b ∈ F j) := by
  unfold yj7 at h
  cases q : zo5 as j with
  | none => rw [q] at h; exact .inr ⟨rfl, h⟩
  | some i => rw [q] at h; exact .inl ⟨i, rfl, h⟩
theorem yw9 {as : List Arg} {F Fc : Nat -> List Addr} {j i : Nat} (e : zo5 as j = some i) : yj7 as F Fc j = Fc i := by unfold yj7; rw [e]
theorem yx0 {as : List Arg} {F Fc : Nat -> List Addr} {j : Nat} (e : zo5 as j = none) : yj7 as F Fc j = F j := by unfold yj7; rw [e]
theorem wm5 {φ : Fx} {H H1 H' : Hp} {σ : St} {ps : PSt} {F Fc' : Nat -> List Addr} {as : List Arg} {vs : List V} {ds ds' : List D} {fv : List Addr} (R : RS φ H σ ps F) (s1 : SameK H H1) (nd : (slots as).Nodup) (hb : ∀ j ∈ slots as, φ.bor j = false) (a : ArgsAt φ.K φ.κ H1 σ ps as vs ds) (hl : ds'.length = as.length)
    (s : Stp (fxE φ.K φ.κ as.length (zy6 as)) (vs.map some) H1 (ye6 as F) (vs.map some) H' (ds'.map some) Fc') (o : OwnV (ye6 as F) H1 Fc' fv) :
    ∃ F', Stp φ σ H F σ H' (zi3 ps as ds') F' /\ OwnV F H F' fv := by
  have memF : ∀ i b, b ∈ ye6 as F i -> ∃ j, as[i]? = some (Arg.io j) /\ b ∈ F j := fun i b h => xj1 h
  have nwA : ∀ b, ((∃ i, b ∈ ye6 as F i) \/ H1 b = none) -> (∃ j ∈ slots as, b ∈ F j) \/ H b = none := fun b h => by
    rcases h with ⟨i, h⟩ | h
    . obtain ⟨j, e, m⟩ := memF i b h
      exact .inl ⟨j, zt4 e, m⟩
    . exact .inr (s1.grow b h)
  have isDisj : ∀ b, ((∃ i, b ∈ Fc' i) \/ b ∈ fv) -> ∀ j, j ∉ slots as -> b ∉ F j := fun b h j hj hm => by
    have h' : (∃ j ∈ slots as, b ∈ F j) \/ H b = none := by
      rcases h with ⟨i, h⟩ | h
      . exact nwA b (s.nw i b h)
      . exact nwA b (o.nw b h)
    rcases h' with ⟨k, hk, hm2⟩ | z
    . exact hj (R.dis j k b hm hm2 ▸ hk)
    . obtain ⟨u, q, _⟩ := R.own hm; rw [z] at q; cases q
  have keepN : ∀ b u, H b = some u -> kd u = true -> (∀ j ∈ slots as, b ∉ F j) -> H' b = some u := fun b u h k n => s.fr.keep b u (s1.keep b u h k) k fun i hi => by
    obtain ⟨j, e, m⟩ := memF i b hi
    exact n j (zt4 e) m
  have tfk : ∀ b u, H b = some u -> tf u = true -> H' b = some u := fun b u h t => keepN b u h (ya9 t) fun j _ hm => by
    obtain ⟨u', h', _, t'⟩ := R.own hm
    rw [h] at h'; cases h'; rw [t] at t'; cases t'
  have posmem : ∀ j b, b ∈ yj7 as F Fc' j -> (∃ i, zo5 as j = some i /\ b ∈ Fc' i) \/ (zo5 as j = none /\ b ∈ F j) := fun j b h => wa6 h
  refine ⟨yj7 as F Fc', ⟨⟨fun b u h k n => keepN b u h k fun j _ => n j, fun b h => s1.grow b (s.fr.grow b h)⟩, fun j b h => ?_, ⟨fun j d h => ?_, fun j b h => ?_, fun j k b h1 h2 => ?_, fun j => ?_, fun j b h => ?_, fun kk b hB z => R.bt kk b hB (s1.grow b (s.fr.grow b z)), by rw [yn1]; exact R.len⟩, fun _ _ => rfl⟩, ⟨fun b hb' => ?_, o.nd, fun j b h hv => ?_⟩⟩
  . rcases posmem j b h with ⟨i, e, m⟩ | ⟨e, m⟩
    . exact (nwA b (s.nw i b m)).elim (fun ⟨k, _, hk⟩ => .inl ⟨k, hk⟩) .inr
    . exact .inl ⟨j, m⟩
  . cases q : zo5 as j with
    | some i =>
      have e := zz5 q
      have hi : i < ds'.length := by rw [hl]; exact (List.getElem?_eq_some_iff.mp e).1
      have ei : ds'[i]? = some ds'[i] := List.getElem?_eq_getElem hi
      have hj : j < ps.length := by
        have := (List.getElem?_eq_some_iff.mp h).1
        rwa [yn1] at this
      rw [ys0 nd e ei hj] at h
      cases h
      obtain ⟨v, fp, k1, k2, k3, _⟩ := s.rs.rep i ds'[i] (by rw [List.getElem?_map, ei]; rfl)
      have hbi : (fxE φ.K φ.κ as.length (zy6 as)).bor i = false := by simp [fxE, yd7 e]
      have k3 := k3 hbi
      subst k3
      have hvi : i < vs.length := by rw [a.len.1]; exact (List.getElem?_eq_some_iff.mp e).1
      have hdi : i < ds.length := by rw [a.len.2]; exact (List.getElem?_eq_some_iff.mp e).1
      obtain ⟨v', g1, g2⟩ := a.get (List.getElem?_eq_getElem hdi)
      rw [List.getElem?_map, g1] at k1
      cases k1
      rcases g2 with ⟨j', e1, _, e3, _⟩ | ⟨e1, _⟩
      . rw [e] at e1; cases e1
        exact ⟨v, Fc' i, e3, k2, (fun _ => (yw9 q).symm), (fun z => by rw [hb j (zt4 e)] at z; cases z)⟩
      . rw [yd7 e] at e1; cases e1
    | none =>
      have hn := zw1 q
      rw [yc6 hn] at h
      obtain ⟨v, fp, k1, k2, k3, k4⟩ := R.rep j d h
      refine ⟨v, fp, k1, k2.move tfk fun b hb' => ?_, (fun z => by rw [yx0 q]; exact k3 z), k4⟩
      obtain ⟨u, q1, q2, _⟩ := k2.own b hb'
      rw [q1]
      refine keepN b u q1 q2 fun k hk hm => ?_
      cases z : φ.bor j with
      | true => exact R.nb k b hm j (k4 z b hb')
      | false => rw [k3 z] at hb'; exact hn (R.dis j k b hb' hm ▸ hk)
  . rcases posmem j b h with ⟨i, e, m⟩ | ⟨e, m⟩
    . have e' := zz5 e
      refine ⟨hb j (zt4 e'), ?_⟩
      have hi : i < ds'.length := by rw [hl]; exact (List.getElem?_eq_some_iff.mp e').1
      have hdi : i < ds.length := by rw [a.len.2]; exact (List.getElem?_eq_some_iff.mp e').1
      obtain ⟨v', g1, g2⟩ := a.get (List.getElem?_eq_getElem hdi)
      rcases g2 with ⟨j', e1, _, _, e4⟩ | ⟨e1, _⟩
      . rw [e'] at e1; cases e1
        exact ⟨_, ys0 nd e' (List.getElem?_eq_getElem hi) (List.getElem?_eq_some_iff.mp e4).1⟩
      . rw [yd7 e'] at e1; cases e1
    . obtain ⟨b1, d, b2⟩ := R.emp j b m
      exact ⟨b1, d, by rw [yc6 (zw1 e)]; exact b2⟩
  . rcases posmem j b h1 with ⟨i, e, m⟩ | ⟨e, m⟩
    . rcases posmem k b h2 with ⟨i', e', m'⟩ | ⟨e', m'⟩
      . have := s.rs.dis i i' b m m'
        subst this
        have q1 := zz5 e
        have q2 := zz5 e'
        rw [q1] at q2
        cases q2; rfl
      . exact absurd m' (isDisj b (.inl ⟨i, m⟩) k (zw1 e'))
    . rcases posmem k b h2 with ⟨i', e', m'⟩ | ⟨e', m'⟩
      . exact absurd m (isDisj b (.inl ⟨i', m'⟩) j (zw1 e))
      . exact R.dis j k b m m'
  . cases q : zo5 as j with
    | some i => rw [yw9 q]; exact s.rs.nd i
    | none => rw [yx0 q]; exact R.nd j
  . rcases posmem j b h with ⟨i, e, m⟩ | ⟨e, m⟩
    . exact R.notB ((nwA b (s.nw i b m)).elim (fun ⟨k, _, hk⟩ => .inl ⟨k, hk⟩) .inr)
    . exact R.nb j b m
  . exact (nwA b (o.nw b hb')).elim (fun ⟨k, _, hk⟩ => .inl ⟨k, hk⟩) .inr
  . rcases posmem j b h with ⟨i, e, m⟩ | ⟨e, m⟩
    . exact o.dis i b m hv
    . exact isDisj b (.inr hv) j (zw1 e) m
noncomputable def tIO (K : PySem.W.Frag) (κ : Str -> Addr) (as : List Arg) : TA := fun σ H Q => ∃ ps ds, WS K κ H σ ps /\ ze2 as ps = some ds /\ ∀ vs H', SameK H H' -> ArgsAt K κ H' σ ps as vs ds -> Q vs H'
noncomputable def fIO (as : List Arg) (g : List D -> Option (D × List D)) : PSt -> Option (D × PSt) := fun ps => (ze2 as ps).bind fun ds => (g ds).bind fun r => if r.2.length = as.length then some (r.1, zi3 ps as r.2) else none
section
variable {X : Cx} {φ : F0} {κ : Str -> Addr} {e : Expr} {es : List Expr} {as : List Arg} {f : PSt -> Option D} {pos p : Pos}
theorem yb8 : PA X [] (tIO X.K κ []) := yc1.imp fun σ H Q ⟨ps, ds, w, e, q⟩ => by cases e; exact q [] H (.refl H) .nil
theorem yq1 (j : Nat) {x : Str} (hr : PA X es (tIO X.K κ as)) (hN : X.N[j]? = some x := by rfl) (hv : Vis X.env.scope x := by first | exact Or.inl rfl | exact Or.inr (Or.inl rfl) | exact Or.inr (Or.inr rfl)) (hd : (x == ("__debug__" : Str)) = false := by decide)
    (hcd : (x == ("__classdict__" : Str)) = false := by decide) (hs : starEach (.Name x pos :: es) X.env = (false, eval (.Name x pos) X.env) :: starEach es X.env := by rfl) : PA X (.Name x pos :: es) (tIO X.K κ (.io j :: as)) :=
  (zp6 (yk8 hN hv hd hcd) hr hs).imp fun σ H Q hh_ => by
    obtain ⟨ps, ds, w, e, q⟩ := hh_
    obtain ⟨d, e1, e2⟩ := bind_some e
    obtain ⟨ds', e3, e4⟩ := bind_some e2
    cases e4
    have e0 := join_some e1
    obtain ⟨v, fp, h1, h2⟩ := w j d e0
    exact ⟨v, h1, ps, ds', w, e3, fun vs H1 s1 a1 => q (v :: vs) H1 s1 (.io h1 e0 a1)⟩
theorem yl4 (ha : QV X κ e f) (hr : PA X es (tIO X.K κ as)) (hs : starEach (e :: es) X.env = (false, eval e X.env) :: starEach es X.env := by rfl) : PA X (e :: es) (tIO X.K κ (.im f :: as)) :=
  (zp6 ha.p hr hs).imp fun σ H Q hh_ => by
    obtain ⟨ps, ds, w, e, q⟩ := hh_
    obtain ⟨d, e1, e2⟩ := bind_some e
    obtain ⟨ds', e3, e4⟩ := bind_some e2
    cases e4
    refine ⟨ps, d, w, e1, fun v H1 fv s1 n1 nd1 r1 => ⟨ps, ds', w.same s1, e3, fun vs H2 s2 a2 => q (v :: vs) H2 (s1.trans s2) (.im ?_ a2)⟩⟩
    unfold zb3 at e1
    obtain ⟨d1, k1, k2⟩ := bind_some e1
    obtain ⟨k3, k4⟩ := zh8 k2
    cases k4
    have := r1.imm k3
    subst this
    exact r1.same s2
theorem yx1 {x : Str} {st : Stmt} {ps : List Str} {fa : Addr} {fd : FuncData} {k np : Nat} {m : Nat -> Bool} {g : List D -> Option (D × List D)} (Dd : Dn X.K X.mg x st ps fa fd) (G : FnOk X.prog X.w X.K X.mg X.base CX0 k fa fd ps (SpE np X.K κ m g)) (hr : Room k X.A) (hg : Gl X x) (ha : PA X (e :: es) (tIO X.K κ as))
    (hnp : np = as.length) (hm : m = zy6 as) (nd : (slots as).Nodup) (hb : ∀ j ∈ slots as, φ.bor j = false)
    (hdb : (x == ("__debug__" : Str)) = false := by decide) (he : starEach (e :: es) X.env = (false, eval e X.env) :: starEach es X.env := by rfl) (hpl : (backTo pos (starEach es X.env)).any (·.1) = false := by rfl) :
    QE X κ φ (.Call (.Name x p) (e :: es) [] pos) (fIO as g) := (xt5 Dd G hr hg ha hdb he hpl).imp fun σ H Q hh_ => by
  obtain ⟨ps, F, d, ps', R, e, q⟩ := hh_
  obtain ⟨ds, e1, e2⟩ := bind_some e
  obtain ⟨⟨r, ds'⟩, e3, e4⟩ := bind_some e2
  obtain ⟨hl, e5⟩ := zh8 e4
  cases e5
  subst hnp hm
  refine ⟨ps, ds, R.ws, e1, fun vs H1 s1 a1 => ?_⟩
  show SpE _ X.K κ _ g (vs ++ []) H1 Q E0
  rw [List.append_nil]
  refine ⟨a1.len.1, ds, r, ds', _, a1.len.2, wg5 (R.same s1) nd hb a1, e3, fun v H' F' fv s o rv => ?_⟩
  obtain ⟨F2, s2, o2⟩ := wm5 R s1 nd hb a1 hl s o
  exact q v H' F2 fv s2 o2 rv
end
end L2
namespace L2
open PySem PySem.Spec PyProof.Rows
inductive AreD : List Expr -> List D -> Prop
  | nil : AreD [] []
  | int {i : Int} {j : Nat} {pos : Pos} {es : List Expr} {ds : List D} : AreD es ds -> AreD (.Constant (.int i) j pos :: es) (.int i :: ds)
  | str {x : Str} {j : Nat} {pos : Pos} {es : List Expr} {ds : List D} : AreD es ds -> AreD (.Constant (.str x) j pos :: es) (.str x :: ds)
noncomputable def fKs (ds : List D) : PSt -> Option (List D) := fun _ => some ds
theorem zz6 {X : Cx} {κ : Str -> Addr} {es : List Expr} {ds : List D} (h : AreD es ds) : QPA X κ es (fKs ds) := by
  have key : ∃ vs, AreC es vs /\ ∀ K κ H, Reps K κ H vs ds [] := by
    induction h with
    | nil => exact ⟨[], .nil, fun _ _ _ => .nil⟩
    | int _ ih => obtain ⟨vs, h1, h2⟩ := ih; exact ⟨_, .int h1, fun K κ H => .cons (f := []) (g := []) (.int _) (h2 K κ H)⟩
    | str _ ih => obtain ⟨vs, h1, h2⟩ := ih; exact ⟨_, .str h1, fun K κ H => .cons (f := []) (g := []) (.str _) (h2 K κ H)⟩
  obtain ⟨vs, h1, h2⟩ := key
  exact (xz9 h1).imp fun σ H Q ⟨ps, ds', w, e, q⟩ => by cases e; exact q vs H [] (.refl H) (fun _ h => absurd h (by simp)) List.nodup_nil (h2 _ _ _)
noncomputable def zf2 (l : List Bool) : Nat -> Bool := fun i => (l[i]?).getD false
noncomputable def we0 (as : List Arg) : List Bool := as.map fun a => match a with
  | .io _ => true
  | .im _ => false
theorem yn2 : ∀ {as : List Arg} {l : List Bool}, we0 as = l -> zf2 l = zy6 as := by
  intro as l h
  subst h
  funext i
  induction as generalizing i with
  | nil => cases i <;> rfl
  | cons a as ih =>
    cases i with
    | zero => cases a <;> rfl
    | succ i =>
      have e : zy6 (a :: as) (i + 1) = zy6 as i := by cases a <;> rfl
      rw [e, <- ih i]
      simp [zf2, we0]
theorem yd8 {l : List Bool} {i : Nat} (h : zf2 l i = true) : i < l.length := by
  unfold zf2 at h
  cases q : l[i]? with
  | none => rw [q] at h; cases h
  | some b => exact (List.getElem?_eq_some_iff.mp q).1
section
variable {P : Program} {w : World} {K : PySem.W.Frag} {mg : Str -> Option Value} {base : Heap} {κ : Str -> Addr}
theorem FnOk.noneP {f : Addr} {fd : FuncData} {ps : List Str} {k : Nat} : FnOk P w K mg base CX0 k f fd ps (SpP ps.length K κ fun _ => none) :=
  ⟨fun vs H Q E h => h.1, fun A outer s H args us vs Q E _ _ _ _ ⟨_, ds, fp, d, _, e, _⟩ => by cases e⟩
end
end L2
namespace L2
open PySem PySem.Spec PyProof.Rows
noncomputable def KDk (P : Program) (w : World) (K : PySem.W.Frag) (a : Addr) (kvs : List (Key × V)) : Prop :=
  (a == sysModules) = false /\ ∃ (o : Obj) (es : Array DictEntry) (ep : Nat) (vs : List (Key × Value)), K.lookup a = some o /\ o.ExactDict /\ o.data = .dict es ep /\ KV kvs vs /\ KeysOf (zx1 P w) es /\ PySem.Pairs (zx1 P w) es.toList vs /\ (vs.map (·.1)).Nodup
noncomputable def yk5 (P : Program) (w : World) (K : PySem.W.Frag) (κ : Str -> Addr) (a : Addr) (ks : List Key) (ds : List D) : Prop := ∃ kvs, KDk P w K a kvs /\ kvs.map (·.1) = ks /\ ∀ H, Reps K κ H (kvs.map (·.2)) ds []
section
variable {X : Cx} {κ : Str -> Addr} {tg b : Expr} {fb : PSt -> Option D} {pos p : Pos} {x : Str} {a : Addr} {ks : List Key} {ds : List D}
theorem wm6 {kvs : List (Key × V)} {ty : TE} (hg : Gl X x) (hm : X.mg x = some (.ref a)) (hk : KDk X.prog X.w X.K a kvs) (hi : PE X b ty) (hs : xw6 b) (hdb : (x == ("__debug__" : Str)) = false := by decide) :
    PE X (.Subscript (.Name x p) b pos) (fun σ H Q => ty σ H fun y H1 => ∃ k v, y = kV k /\ yj0 kvs k = some v /\ Q v H1) := by
  obtain ⟨hsm, o, es, ep, vs, h1, h2, h3, h4, h5, h6, h7⟩ := hk
  intro pins s σ H Q I h
  refine wl8 PySem.F.slot_dict_getitem.lookup hs (thn (xa4 (v := .ref a) hg hm rfl hdb pins s σ H (fun x H1 => x = .ref a /\ H1 = H) I ⟨rfl, rfl⟩) fun u s1 ⟨x, H1, I1, r1, e1, e2⟩ => ?_)
  subst e1 e2
  cases r1
  refine thn (hi pins s1 σ H1 _ I1 h) fun iv s2 ⟨y, H2, I2, ry, k, v, ey, l, q2⟩ => ?_
  subst ey
  have dd : s2.heap.DictAt (zx1 X.prog X.w) a vs ep := ⟨o, es, I2.kIn a o h1, h2, h3, h5, h6, h7⟩
  obtain ⟨w', hw, rw'⟩ := ya5.some_of (v := v) (o := valueAt vs k) (by rw [<- l]; exact h4.val k)
  exact ⟨dd.dictOf.typeIs, wpAny_getItem_of (wj3 ry) dd.dictOf.mapOf hw ⟨v, H2, I2.tok _, rw', q2⟩⟩
theorem ys1 (hg : Gl X x) (hm : X.mg x = some (.ref a)) (hk : yk5 X.prog X.w X.K κ a ks ds) (hb : QV X κ b fb) (hs : xw6 b := by exact fun _ _ => rfl) (hdb : (x == ("__debug__" : Str)) = false := by decide) : QV X κ (.Subscript (.Name x p) b pos) (f2 zt1 (fC (.dic false ks ds)) fb) := by
  obtain ⟨kvs, hkd, hks, hds⟩ := hk
  refine (wm6 hg hm hkd hb hs hdb).imp fun σ H Q ⟨ps, d, w, e, q⟩ => ?_
  obtain ⟨x, y, e1, e2, e3⟩ := yr7 e
  cases e1
  obtain ⟨k, e4, e5⟩ := bind_some e3
  refine ⟨ps, y, w, e2, fun u H1 fq s1 r1 => ?_⟩
  obtain ⟨v, f, q1, q2, q3⟩ := xi9 hks (hds H1) e5
  exact ⟨k, v, xq3 r1 e4, q1, q v H1 f s1 q2⟩
end
theorem yx2 : ∀ ys : List (Str × Tok), zf5 (ys.map fun p => V.str p.1) (ys.map fun p => Value.str p.1 p.2)
  | [] => .nil
  | y :: ys => .cons ⟨y.2, rfl⟩ (yx2 ys)
theorem xd9 {K : PySem.W.Frag} {κ : Str -> Addr} {H : Hp} : ∀ ys : List (Str × Tok), Reps K κ H (ys.map fun p => V.str p.1) (ys.map fun p => D.str p.1) []
  | [] => .nil
  | y :: ys => .cons (f := []) (g := []) (.str _) (xd9 ys)
theorem zu0 {K : PySem.W.Frag} {κ : Str -> Addr} {a : Addr} {ys : List (Str × Tok)} {od : Option Addr} {n : Nat} {sl : Array (Option Value)} (h : K.lookup a = some ⟨.type "tuple", od, .seq (ys.map fun p => Value.str p.1 p.2).toArray n, sl⟩) (hl : ys.length <= 1000) (H : Hp) :
    Rep K κ H (.ref a) (.tup (ys.map fun p => D.str p.1)) [] :=
  .tup (.inr ⟨_, _, n, h, rfl, rfl, by rw [List.size_toArray, List.length_map]; exact xf7 hl, yx2 ys⟩) (xd9 ys)
end L2
namespace L2
open PySem PySem.Spec PyProof.Rows
section
variable {X : Cx} {pins : List (Addr × Obj)} {σ : St} {H : Hp} {s : Shared} {a C dx : Addr} {fs : List (Str × V)} {f : Str} {v : V} {A : Around} {E : Value -> Shared -> Prop}
theorem ws3 {P : Program} {w : World} {h : Heap} (hok : HOk P w H h) (e : Rd H a (.ins C dx fs)) : ∃ mA, ObjM h a dx C mA /\ (∀ f, ya5 (fs.lookup f) (mA f)) := by
  obtain ⟨d, z, ne, ob, mA, n, r, q⟩ := (show zp0 P w H h a (.ins C dx fs) from e.ok hok)
  exact ⟨mA, ⟨ob, n, ne⟩, r⟩
theorem xu5 {b : Bool} {Q : Value -> Shared -> Prop} (I : Inv X pins σ H s) (e : Rd H a (.ins C dx fs)) (c : Cls X.K C) (n : zi1 X.K C f) (l : fs.lookup f = some v)
    (h : ∀ u s', Inv X pins σ H s' -> zi6 v u -> Q u s') : wpAny (model X.prog X.w) A (getAttr (.ref a) f b) Q E s := by
  obtain ⟨mA, O, r⟩ := ws3 I.hok e
  obtain ⟨u, hu, ru⟩ := ya5.some_of (v := v) (o := mA f) (by rw [<- l]; exact r f)
  exact xp3 I.kIn O (c.get f) c.hd n hu (xc3 ru) (h u _ (I.tok _) ru)
end
noncomputable def wy3 (K : PySem.W.Frag) (ta : TE) (f : Str) : TE := fun σ H Q => ta σ H fun x H1 => ∃ a C dx fs v, x = .ref a /\ Rd H1 a (.ins C dx fs) /\ Cls K C /\ zi1 K C f /\ fs.lookup f = some v /\ Q v H1
theorem wm7 {X : Cx} {e : Expr} {f : Str} {pos : Pos} {ta : TE} (he : PE X e ta) (hb : attributeBase e f X.env (eval e X.env) = eval e X.env) : PE X (.Attribute e f pos) (wy3 X.K ta f) := by
  intro pins s σ H Q I h
  refine xp4 hb (thn (he pins s σ H _ I h) fun u s1 ⟨x, H1, I1, rx, a, C, dx, fs, v, ex, ea, c, n, l, q⟩ => ?_)
  subst ex
  obtain rfl : u = Value.ref a := rx
  exact xu5 I1 ea c n l fun w' s2 I2 rw' => ⟨v, H1, I2, rw', q⟩
noncomputable def zi4 (C f : Str) : D -> Option D
  | .obj _ C' ns vs => if C' = C then (ze1 ns f).bind fun n => vs[n]? else none
  | _ => none
noncomputable def zf9 (C f : Str) (fo : PSt -> Option D) : PSt -> Option D := fun ps => (fo ps).bind (zi4 C f)
theorem Rep.obj_inv {K : PySem.W.Frag} {κ : Str -> Addr} {H : Hp} {v : V} {o : Bool} {C : Str} {ns : List Str} {ds : List D} {fp : List Addr} (r : Rep K κ H v (.obj o C ns ds) fp) : ∃ a dx fs g, v = .ref a /\ Rd H a (.ins (κ C) dx fs) /\ fs.map (·.1) = ns /\ Reps K κ H (fs.map (·.2)) ds g /\ g.Sublist fp := by
  cases r with
  | obj h e hs => exact ⟨_, _, _, _, rfl, .inl h, e, hs, List.sublist_cons_self _ _⟩
  | objF h e hs => exact ⟨_, _, _, _, rfl, .inr ⟨_, h⟩, e, hs, .refl _⟩
section
variable {X : Cx} {κ : Str -> Addr} {o e : Expr} {C fn : Str} {fo : PSt -> Option D} {pos : Pos}
theorem zr4 (hc : Cls X.K (κ C)) (hna : zi1 X.K (κ C) fn) (ho : QV X κ o fo) (hb : attributeBase o fn X.env (eval o X.env) = eval o X.env := by rfl) : QV X κ (.Attribute o fn pos) (zf9 C fn fo) :=
  (wm7 ho hb).imp fun σ H Q hh_ => by
    obtain ⟨ps, d, w, e, q⟩ := hh_
    obtain ⟨x, e1, e2⟩ := bind_some e
    refine ⟨ps, x, w, e1, fun v H1 fp s1 r1 => ?_⟩
    cases x with
    | obj ow C' ns ds =>
      have e2' : (if C' = C then (ze1 ns fn).bind fun n => ds[n]? else none) = some d := e2
      by_cases hC : C' = C
      case neg => rw [if_neg hC] at e2'; cases e2'
      rw [if_pos hC] at e2'
      subst hC
      obtain ⟨n, e4, e5⟩ := bind_some e2'
      obtain ⟨a, dx, fs, g, rfl, h, hk, hs, sub⟩ := r1.obj_inv
      subst hk
      obtain ⟨u, f1, k3, k4, _⟩ := hs.get e5
      exact ⟨a, κ C', dx, fs, u, rfl, h, hc, hna, yh8 e4 k3, q u H1 f1 s1 k4⟩
    | _ => cases e2
end
theorem xq5 : ∀ {fs : List (Str × V)} {f : Str} {n : Nat} (v : V), ze1 (fs.map (·.1)) f = some n -> (zq2 f v fs).map (·.1) = fs.map (·.1) /\ (zq2 f v fs).map (·.2) = (fs.map (·.2)).set n v
  | [], _, _, _, h => by cases h
  | (g, x) :: r, f, n, v, h => by
    rw [List.map_cons, ze1] at h
    by_cases z : g = f
    . have z' : (g, x).1 = f := z
      rw [if_pos z'] at h; cases h
      rw [zq2, if_pos z]; exact ⟨rfl, rfl⟩
    . have z' : ¬ (g, x).1 = f := z
      rw [if_neg z'] at h
      obtain ⟨m, h1, h2⟩ := Option.map_eq_some_iff.mp h
      subst h2
      obtain ⟨k1, k2⟩ := xq5 v h1
      rw [zq2, if_neg z]
      exact ⟨by rw [List.map_cons, List.map_cons, k1], by rw [List.map_cons, List.map_cons, List.set_cons_succ, k2]⟩
theorem xj2 : ∀ {fs : List (Str × V)} {f : Str} (v : V), ze1 (fs.map (·.1)) f = none -> (zq2 f v fs).map (·.1) = fs.map (·.1) ++ [f] /\ (zq2 f v fs).map (·.2) = fs.map (·.2) ++ [v]
  | [], _, _, _ => ⟨rfl, rfl⟩
  | (g, x) :: r, f, v, h => by
    rw [List.map_cons, ze1] at h
    by_cases z : g = f
    . have z' : (g, x).1 = f := z
      rw [if_pos z'] at h; cases h
    . have z' : ¬ (g, x).1 = f := z
      rw [if_neg z'] at h
      obtain ⟨k1, k2⟩ := xj2 v (Option.map_eq_none_iff.mp h)
      rw [zq2, if_neg z]
      exact ⟨by rw [List.map_cons, List.map_cons, k1]; rfl, by rw [List.map_cons, List.map_cons, k2]; rfl⟩
noncomputable def zg7 (C f : Str) (y : D) : D -> Option (Unit × D)
  | .obj true C' ns vs => if (C' = C /\ ns.length < 900) then (match ze1 ns f with
      | some n => some ((), .obj true C' ns (vs.set n y))
      | none => some ((), .obj true C' (ns ++ [f]) (vs ++ [y]))) else none
  | _ => none
theorem xj3 {C f : Str} {y d d' : D} {r : Unit} (h : zg7 C f y d = some (r, d')) : ∃ ns vs, d = .obj true C ns vs /\ ns.length < 900 /\ ((∃ n, ze1 ns f = some n /\ d' = .obj true C ns (vs.set n y)) \/ (ze1 ns f = none /\ d' = .obj true C (ns ++ [f]) (vs ++ [y]))) := by
  unfold zg7 at h
  split at h
  . rename_i C' ns vs
    by_cases hh : C' = C /\ ns.length < 900
    . rw [if_pos hh] at h
      obtain ⟨hC, hl⟩ := hh
      subst hC
      cases q : ze1 ns f with
      | some n => rw [q] at h; cases h; exact ⟨ns, vs, rfl, hl, .inl ⟨n, q, rfl⟩⟩
      | none => rw [q] at h; cases h; exact ⟨ns, vs, rfl, hl, .inr ⟨q, rfl⟩⟩
    . rw [if_neg hh] at h; cases h
  . cases h
noncomputable def zf4 (j : Nat) (pf : PSt -> Option (List Ps1)) (C f : Str) (fe : PSt -> Option D) : PSt -> Option (Fl × PSt) := fun ps => (fe ps).bind fun y => ((ps[j]?).join).bind fun d0 => (pf ps).bind fun p => (ze3 (zg7 C f y) d0 p).bind fun r => some (.nx, ps.set j (some r.2))
theorem xj4 : ∀ {ns : List Str} {f : Str} {n : Nat}, ze1 ns f = some n -> n < ns.length
  | [], _, _, h => by cases h
  | m :: ns, f, n, h => by
    rw [ze1] at h
    by_cases z : m = f
    . rw [if_pos z] at h; cases h; simp
    . rw [if_neg z] at h
      obtain ⟨k, h1, h2⟩ := Option.map_eq_some_iff.mp h
      subst h2
      have := xj4 h1
      simp; omega
section
variable {X : Cx} {κ : Str -> Addr} {φ : F0} {o e : Expr} {C fn : Str} {j : Nat} {pf : PSt -> Option (List Ps1)} {fe : PSt -> Option D} {pos pos' : Pos}
theorem zt5 (hc : Cls X.K (κ C)) (hna : zi1 X.K (κ C) fn) (hb : φ.bor j = false) (he : PE X e (tP X.K κ fe)) (ho : PE X o (zp5 X.K κ j pf)) (hs : swapsWith e (some (.Attribute o fn pos')) pos.line X.env = pure false := by rfl) :
    QS X κ φ (.Assign [.Attribute o fn pos'] e pos) (zf4 j pf C fn fe) :=
  (wq5 ho he hs).imp fun E σ H hh_ => by
    obtain ⟨ps, F, fl, ps', R, e, q⟩ := hh_
    obtain ⟨y, e1, e2⟩ := bind_some e
    obtain ⟨d0, e3, e4⟩ := bind_some e2
    have e0 := join_some e3
    obtain ⟨p, e5, e6⟩ := bind_some e4
    obtain ⟨⟨r, d0'⟩, em, e9⟩ := bind_some e6
    cases e9
    obtain ⟨dd, dn, gp, hh⟩ := yb0 em
    refine ⟨ps, y, R.ws, e1, fun v H1 fy s1 n1 nd1 ry => ⟨ps, p, d0, dd, R.ws.same s1, e0, e5, gp, fun lv H2 v0 s2 ev a2 => ?_⟩⟩
    have s12 := s1.trans s2
    obtain ⟨d1, d1', fd, m1, m2, m3, m4, m5⟩ := yp6 R s12 hb e0 ev em a2
    obtain ⟨ns, vs, rfl, hlen, hd⟩ := xj3 m2
    obtain ⟨l, dx, fs, g1, rfl, hl, hn, hr, rfl⟩ := m1.objT_inv
    subst hn
    have ry2 := ry.same s2
    obtain ⟨nl, nd3⟩ := List.nodup_cons.mp m3
    have own0 : ∀ a ∈ l :: g1, H a ≠ none := fun a ha z => by obtain ⟨o, h, _⟩ := R.own (m4 a ha); rw [z] at h; cases h
    have nl2 : l ∉ fy := fun z => own0 l List.mem_cons_self (n1 l z)
    have hl9 : fs.length < 900 := by rw [List.length_map] at hlen; exact hlen
    refine ⟨l, κ C, dx, fs, rfl, hl, hc, hna, by omega, ?_⟩
    have go : ∀ (g2 : List Addr), (∀ a ∈ g2, a ∈ fy \/ a ∈ g1) -> g2.Nodup -> Rep X.K κ (upd H2 l (.ins (κ C) dx (zq2 fn v fs))) (.ref l) d1' (l :: g2) -> ∃ F', Stp (φ.fx X.K κ) σ H F σ (upd H2 l (.ins (κ C) dx (zq2 fn v fs))) (ps.set j (some d0')) F' := fun g2 mem2 nd2 rp => by
      have n2 : l ∉ g2 := fun z => (mem2 l z).elim nl2 nl
      obtain ⟨F', st, ow⟩ := m5 (upd H2 l (.ins (κ C) dx (zq2 fn v fs))) (l :: g2) [] (fun a o h _ hn => yu6 h hn) (fun a h => yu7 h) rp
        (by rw [List.append_nil, List.nodup_cons]; exact ⟨n2, nd2⟩)
        (fun a ha => by
          rw [List.append_nil] at ha
          rcases List.mem_cons.mp ha with z | z
          . exact .inl (by rw [z]; exact List.mem_cons_self)
          . exact (mem2 a z).elim (fun z => .inr (n1 a z)) fun z => .inl (List.mem_cons_of_mem _ z))
      exact ⟨F', st⟩
    rcases hd with ⟨n, hx, rfl⟩ | ⟨hx, rfl⟩
    . obtain ⟨k1, k2⟩ := xq5 v hx
      have hn' := xj4 hx
      obtain ⟨f1, rest, g2, p1, p2, p3⟩ := hr.setV (n := n) (by rw [<- hr.length, List.length_map]; rw [List.length_map] at hn'; exact hn') ry2
      have mem2 : ∀ a ∈ g2, a ∈ fy \/ a ∈ g1 := fun a ha => (List.mem_append.mp (p3.mem_iff.mp ha)).elim .inl fun z => .inr (p1.mem_iff.mpr (List.mem_append_right _ z))
      have n2 : l ∉ g2 := fun z => (mem2 l z).elim nl2 nl
      have nd2 : g2.Nodup := p3.nodup_iff.mpr (List.nodup_append.mpr ⟨nd1, (List.nodup_append.mp (p1.nodup_iff.mp nd3)).2.1, fun a ha b hb e => by
        subst e
        exact own0 a (List.mem_cons_of_mem _ (p1.mem_iff.mpr (List.mem_append_right _ hb))) (n1 a ha)⟩)
      obtain ⟨F', st⟩ := go g2 mem2 nd2 (.obj zm0 k1 (by rw [k2]; exact p2.updL hl rfl n2))
      exact q _ _ F' st
    . obtain ⟨k1, k2⟩ := xj2 v hx
      have mem2 : ∀ a ∈ g1 ++ fy, a ∈ fy \/ a ∈ g1 := fun a ha => (List.mem_append.mp ha).elim .inr .inl
      have n2 : l ∉ g1 ++ fy := fun z => (mem2 l z).elim nl2 nl
      have nd2 : (g1 ++ fy).Nodup := List.nodup_append.mpr ⟨nd3, nd1, fun a ha b hb e => by
        subst e
        exact own0 a (List.mem_cons_of_mem _ ha) (n1 a hb)⟩
      obtain ⟨F', st⟩ := go (g1 ++ fy) mem2 nd2 (.obj zm0 k1 (by rw [k2]; exact (Reps.append hr (Reps.one ry2)).updL hl rfl n2))
      exact q _ _ F' st
end
end L2
namespace L2
open PySem PySem.Spec PyProof.Rows
structure Mn (K : PySem.W.Frag) (κ : Str -> Addr) (C m qual : Str) (st : Stmt) (ps : List Str) (f : Addr) (fd : FuncData) : Prop where
  F : Fun K m qual st f fd
  b : ya0 K fd ps []
  c : Cls K (κ C)
  h : Meth K (κ C) m f
noncomputable def zf0 (C m : Str) (fo : PSt -> Option D) : PSt -> Option D := fun ps => (fo ps).bind fun d => match d with
  | .obj true C' ns vs => if (C' = C /\ ze1 ns m = none) then some (.obj true C' ns vs) else none
  | _ => none
theorem yx3 {C m : Str} {fo : PSt -> Option D} {ps : PSt} {d : D} (h : zf0 C m fo ps = some d) : ∃ ns vs, d = .obj true C ns vs /\ fo ps = some d /\ ze1 ns m = none := by
  obtain ⟨x, e1, e2⟩ := bind_some h
  cases x with
  | obj o C' ns vs => cases o with
    | true =>
      have e2' : (if (C' = C /\ ze1 ns m = none) then some (D.obj true C' ns vs) else none) = some d := e2
      obtain ⟨⟨hC, hn⟩, e3⟩ := zh8 e2'
      subst hC; cases e3
      exact ⟨ns, vs, rfl, e1, hn⟩
    | false => cases e2
  | _ => cases e2
theorem yf1 : ∀ {fs : List (Str × V)} {m : Str}, ze1 (fs.map (·.1)) m = none -> fs.lookup m = none
  | [], _, _ => rfl
  | (g, x) :: r, m, h => by
    rw [List.map_cons, ze1] at h
    by_cases z : g = m
    . have z' : (g, x).1 = m := z
      rw [if_pos z'] at h; cases h
    . have z' : ¬ (g, x).1 = m := z
      rw [if_neg z'] at h
      have ih := yf1 (Option.map_eq_none_iff.mp h)
      rw [List.lookup_cons]
      have : (m == g) = false := by
        rw [beq_eq_false_iff_ne]; exact fun e => z e.symm
      rw [this]; exact ih
section
variable {X : Cx} {κ : Str -> Addr} {o e : Expr} {es : List Expr} {C m qual : Str} {st : Stmt} {ps : List Str} {f : Addr} {fd : FuncData} {k np : Nat} {h : List D -> Option D} {fo : PSt -> Option D} {g : PSt -> Option (List D)} {apos pos p : Pos} {pl : Sem Bool}
theorem ys2 (M : Mn X.K κ C m qual st ps f fd) (G : FnOk X.prog X.w X.K X.mg X.base CX0 k f fd ps (SpP np X.K κ h)) (hr : Room k X.A) (ho : QV X κ o fo) (hnp : (e :: es).length + 1 = np) (ha : QVA X κ (e :: es) g) (hlen : ∀ ps ds, g ps = some ds -> ds.length = (e :: es).length)
    (hst : starEach (e :: es) X.env = (false, eval e X.env) :: starEach es X.env := by rfl) (hpl : (backTo pos (starEach es X.env)).any (·.1) = false := by rfl)
    (ht : eval (.Call (.Attribute o m apos) (e :: es) [] pos) X.env = (do
      let ov <- eval o X.env
      standAt apos.atName
      let (f, first) <- holding [ov] (getMethod ov m pl)
      callWith pos f first (backTo pos (starEach (e :: es) X.env)) (backToKw pos (keywordEach [] X.env))) := by rfl) :
    QP X κ (.Call (.Attribute o m apos) (e :: es) [] pos) (za3 h (za0 (zf0 C m fo) g)) := (xp5 ho M.c M.h G hr M.b .nil ym5 ha hst hpl ht).imp fun σ H Q hh_ => by
  obtain ⟨ps, d, w, e, q⟩ := hh_
  obtain ⟨ds, e1, e2⟩ := bind_some e
  obtain ⟨x, k1, k2⟩ := bind_some e1
  obtain ⟨ds', k3, k4⟩ := bind_some k2
  cases k4
  obtain ⟨ns, vs, rfl, k5, k6⟩ := yx3 k1
  refine ⟨ps, _, w, k5, fun v H1 fp s1 r1 => ?_⟩
  have r1' := r1
  obtain ⟨_, _, _, _, rfl, hl, hn, hs, rfl⟩ := r1.objT_inv
  subst hn
  refine ⟨_, _, _, rfl, hl, yf1 k6, ps, ds', w.same s1, k3, fun us H2 fq s2 r2 => ?_⟩
  show SpP np X.K κ h (_ :: (us ++ [])) H2 Q E0
  rw [List.append_nil]
  exact ⟨by rw [List.length_cons, r2.length, hlen ps ds' k3, hnp], _, _, d, .cons (r1'.same s2) r2, e2, q.after (s1.trans s2)⟩
theorem yh9 (M : Mn X.K κ C m qual st ps f fd) (G : FnOk X.prog X.w X.K X.mg X.base CX0 k f fd ps (SpP 1 X.K κ h)) (hr : Room k X.A) (ho : QV X κ o fo)
    (ht : eval (.Call (.Attribute o m apos) [] [] pos) X.env = (do
      let ov <- eval o X.env
      standAt apos.atName
      let (f, first) <- holding [ov] (getMethod ov m pl)
      callWith pos f first (backTo pos (starEach [] X.env)) (backToKw pos (keywordEach [] X.env))) := by rfl) :
    QP X κ (.Call (.Attribute o m apos) [] [] pos) (za3 h (za0 (zf0 C m fo) za2)) := (xh0 ho M.c M.h G hr M.b .nil ym5 ht).imp fun σ H Q hh_ => by
  obtain ⟨ps, d, w, e, q⟩ := hh_
  obtain ⟨ds, e1, e2⟩ := bind_some e
  obtain ⟨x, k1, k2⟩ := bind_some e1
  obtain ⟨ds', k3, k4⟩ := bind_some k2
  cases k4; cases k3
  obtain ⟨ns, vs, rfl, k5, k6⟩ := yx3 k1
  refine ⟨ps, _, w, k5, fun v H1 fp s1 r1 => ?_⟩
  have r1' := r1
  obtain ⟨_, _, _, _, rfl, hl, hn, hs, rfl⟩ := r1.objT_inv
  subst hn
  exact ⟨_, _, _, rfl, hl, yf1 k6, rfl, _, _, d, Reps.one r1', e2, q.after s1⟩
end
noncomputable def zt7 : Nat -> Bool := fun i => decide (i = 0)
noncomputable def yj8 (fd : List Addr) : Nat -> List Addr := fun i => if i = 0 then fd else []
theorem zy0 {fd : List Addr} {i : Nat} {a : Addr} (h : a ∈ yj8 fd i) : i = 0 /\ a ∈ fd := by
  unfold yj8 at h
  by_cases z : i = 0
  . rw [if_pos z] at h; exact ⟨z, h⟩
  . rw [if_neg z] at h; exact absurd h (by simp)
theorem yx4 {K : PySem.W.Frag} {κ : Str -> Addr} {H : Hp} {v : V} {vs : List V} {d : D} {ds : List D} {fd : List Addr} (r : Rep K κ H v d fd) (nd : fd.Nodup) (rs : Reps K κ H vs ds []) :
    RS (fxE K κ (ds.length + 1) zt7) H ((v :: vs).map some) ((d :: ds).map some) (yj8 fd) := by
  refine ⟨fun i x hx => ?_, fun i a ha => ?_, fun i j a h1 h2 => ?_, fun i => ?_, fun i a _ k z => z.elim, fun k a z => z.elim, by simp [rs.length]⟩
  . cases i with
    | zero =>
      simp at hx; subst hx
      exact ⟨v, fd, rfl, r, fun _ => rfl, fun z => by simp [fxE, zt7] at z⟩
    | succ i =>
      rw [List.map_cons, List.getElem?_cons_succ, List.getElem?_map] at hx
      obtain ⟨y, hy, e⟩ := Option.map_eq_some_iff.mp hx
      cases e
      obtain ⟨u, f1, k1, k2, k3⟩ := rs.get hy
      have ef : f1 = [] := by
        cases f1 with
        | nil => rfl
        | cons b l => exact absurd (k3 b List.mem_cons_self) (by simp)
      subst ef
      exact ⟨u, [], by rw [List.map_cons, List.getElem?_cons_succ, List.getElem?_map, k1]; rfl, k2, (fun _ => by simp [yj8]), fun _ a ha => absurd ha (by simp)⟩
  . obtain ⟨e, h⟩ := zy0 ha
    subst e
    exact ⟨by simp [fxE, zt7], d, rfl⟩
  . rw [(zy0 h1).1, (zy0 h2).1]
  . unfold yj8; split
    . exact nd
    . exact List.nodup_nil
noncomputable def yt0 : List Arg -> Bool
  | [] => true
  | .im _ :: as => yt0 as
  | .io _ :: _ => false
theorem ArgsAt.reps {K : PySem.W.Frag} {κ : Str -> Addr} {H : Hp} {σ : St} {ps : PSt} : ∀ {as : List Arg} {vs : List V} {ds : List D}, ArgsAt K κ H σ ps as vs ds -> yt0 as = true -> Reps K κ H vs ds []
  | _, _, _, .nil, _ => .nil
  | _, _, _, .io _ _ _, h => by cases h
  | _, _, _, .im r a, h => .cons (f := []) (g := []) r (ArgsAt.reps a h)
noncomputable def zx6 (C m : Str) (g : List D -> Option (D × List D)) (ys : List D) (d : D) : Option (D × D) := match d with
  | .obj true C' ns vs => if (C' = C /\ ze1 ns m = none) then (g (.obj true C' ns vs :: ys)).bind fun r => match r.2 with
      | d' :: ds => if ds.length = ys.length then some (r.1, d') else none
      | [] => none
    else none
  | _ => none
theorem yx5 {C m : Str} {g : List D -> Option (D × List D)} {ys : List D} {d r d' : D} (h : zx6 C m g ys d = some (r, d')) : ∃ ns vs ds, d = .obj true C ns vs /\ ze1 ns m = none /\ g (d :: ys) = some (r, d' :: ds) /\ ds.length = ys.length := by
  unfold zx6 at h
  split at h
  . rename_i C' ns vs
    by_cases hc : C' = C /\ ze1 ns m = none
    . rw [if_pos hc] at h
      obtain ⟨hC, hn⟩ := hc
      subst hC
      obtain ⟨⟨r1, ds⟩, e1, e2⟩ := bind_some h
      cases ds with
      | nil => cases e2
      | cons d1 ds =>
        obtain ⟨hl, e3⟩ := zh8 e2
        cases e3
        exact ⟨ns, vs, ds, rfl, hn, e1, hl⟩
    . rw [if_neg hc] at h; cases h
  . cases h
section
variable {X : Cx} {κ : Str -> Addr} {φ : F0} {o e : Expr} {es : List Expr} {C m qual : Str} {st : Stmt} {ps : List Str} {f : Addr} {fd : FuncData} {k np j : Nat} {mk : Nat -> Bool} {g : List D -> Option (D × List D)} {pf : PSt -> Option (List Ps1)} {as : List Arg} {apos pos p : Pos} {pl : Sem Bool}
theorem xj5 {σ : St} {H H1 : Hp} {Q : VK} {ps : PSt} {F : Nat -> List Addr} {d0 d0' r : D} {pp : List Ps1} {v0 v : V} {ys : List D} {us : List V} (R : RS (φ.fx X.K κ) H σ ps F) (s1 : SameK H H1) (hb : φ.bor j = false) (e0 : ps[j]? = some (some d0)) (ev : σ[j]? = some (some v0))
    (em : ze3 (zx6 C m g ys) d0 pp = some (r, d0')) (at_ : At H1 v0 pp v) (ry : Reps X.K κ H1 us ys []) (hnp : np = ys.length + 1) (hm : mk = zt7)
    (q : ∀ v H' F' fv, Stp (φ.fx X.K κ) σ H F σ H' (ps.set j (some d0')) F' -> OwnV F H F' fv -> Rep X.K κ H' v r fv -> Q v H') : SpE np X.K κ mk g (v :: us) H1 Q E0 := by
  subst hnp hm
  obtain ⟨d1, d1', fd, m1, m2, m3, m4, m5⟩ := yp6 R s1 hb e0 ev em at_
  obtain ⟨ns, vs, ds, rfl, hn, eg, hl⟩ := yx5 m2
  refine ⟨by rw [List.length_cons, ry.length], _, r, d1' :: ds, yj8 fd, by simp, yx4 m1 m3 ry, eg, fun u H' F' fv s o rv => ?_⟩
  obtain ⟨v2, fp2, k1, k2, k3, _⟩ := s.rs.rep 0 d1' rfl
  have ek : v2 = v := by
    have : (List.map some (v :: us))[0]? = some (some v2) := k1
    simp at this; exact this.symm
  subst ek
  have k3' := k3 (by simp [fxE, zt7])
  subst k3'
  have old : ∀ a, ((∃ i, a ∈ yj8 fd i) \/ H1 a = none) -> a ∈ fd \/ H a = none := fun a h => h.elim (fun ⟨i, hi⟩ => .inl (zy0 hi).2) fun z => .inr (s1.grow a z)
  obtain ⟨F2, st2, ow2⟩ := m5 H' (F' 0) fv (fun a o h k hn => s.fr.keep a o h k fun i hi => hn (zy0 hi).2) (fun a h => s.fr.grow a h) k2
    (List.nodup_append.mpr ⟨s.rs.nd 0, o.nd, fun a ha b hb e => by subst e; exact o.dis 0 a ha hb⟩)
    (fun a ha => (List.mem_append.mp ha).elim (fun z => old a (s.nw 0 a z)) fun z => old a (o.nw a z))
  exact q u H' F2 fv st2 ow2 rv
theorem xj6 {σ : St} {H H1 : Hp} {ps : PSt} {F : Nat -> List Addr} {d0 d0' r : D} {pp : List Ps1} {v0 v : V} {ys : List D} (R : RS (φ.fx X.K κ) H σ ps F) (s1 : SameK H H1) (e0 : ps[j]? = some (some d0)) (ev : σ[j]? = some (some v0))
    (em : ze3 (zx6 C m g ys) d0 pp = some (r, d0')) (at_ : At H1 v0 pp v) : ∃ a dx fs, v = .ref a /\ H1 a = some (.ins (κ C) dx fs) /\ fs.lookup m = none := by
  obtain ⟨dd, dn, gp, hh⟩ := yb0 em
  obtain ⟨ns, vs, ds, rfl, hn, _⟩ := yx5 hh
  obtain ⟨fd, rd⟩ := xb3 R.ws s1 e0 ev gp at_
  obtain ⟨_, _, _, _, rfl, hl, hk, hs, rfl⟩ := rd.objT_inv
  subst hk; exact ⟨_, _, _, rfl, hl, yf1 hn⟩
theorem xb6 (M : Mn X.K κ C m qual st ps f fd) (G : FnOk X.prog X.w X.K X.mg X.base CX0 k f fd ps (SpE np X.K κ mk g)) (hr : Room k X.A) (hb : φ.bor j = false) (ho : PE X o (zp5 X.K κ j pf)) (ha : PA X (e :: es) (tIO X.K κ as)) (has : yt0 as = true) (hnp : np = as.length + 1) (hm : mk = zt7)
    (hst : starEach (e :: es) X.env = (false, eval e X.env) :: starEach es X.env := by rfl) (hpl : (backTo pos (starEach es X.env)).any (·.1) = false := by rfl)
    (ht : eval (.Call (.Attribute o m apos) (e :: es) [] pos) X.env = (do
      let ov <- eval o X.env
      standAt apos.atName
      let (f, first) <- holding [ov] (getMethod ov m pl)
      callWith pos f first (backTo pos (starEach (e :: es) X.env)) (backToKw pos (keywordEach [] X.env))) := by rfl) :
    QE X κ φ (.Call (.Attribute o m apos) (e :: es) [] pos) (zd2 j pf (ze2 as) (zx6 C m g)) := (xp5 ho M.c M.h G hr M.b .nil ym5 ha hst hpl ht).imp fun σ H Q hh_ => by
  obtain ⟨ps, F, d, ps', R, e, q⟩ := hh_
  obtain ⟨d0, pp, ys, d0', e0, ep, eg, em, rfl⟩ := yj3 e
  obtain ⟨dd, dn, gp, hh⟩ := yb0 em
  refine ⟨ps, pp, d0, dd, R.ws, e0, ep, gp, fun v H1 v0 s1 ev a1 => ?_⟩
  obtain ⟨a, dx, fs, rfl, hl, hn⟩ := xj6 R s1 e0 ev em a1
  refine ⟨a, dx, fs, rfl, hl, hn, ps, ys, R.ws.same s1, eg, fun us H2 s2 a2 => ?_⟩
  show SpE np X.K κ mk g (_ :: (us ++ [])) H2 Q E0
  rw [List.append_nil]
  exact xj5 R (s1.trans s2) hb e0 ev em (a1.same s2) (a2.reps has) (by rw [hnp, a2.len.2]) hm q
theorem yu9 (M : Mn X.K κ C m qual st ps f fd) (G : FnOk X.prog X.w X.K X.mg X.base CX0 k f fd ps (SpE 1 X.K κ mk g)) (hr : Room k X.A) (hb : φ.bor j = false) (ho : PE X o (zp5 X.K κ j pf)) (hm : mk = zt7)
    (ht : eval (.Call (.Attribute o m apos) [] [] pos) X.env = (do
      let ov <- eval o X.env
      standAt apos.atName
      let (f, first) <- holding [ov] (getMethod ov m pl)
      callWith pos f first (backTo pos (starEach [] X.env)) (backToKw pos (keywordEach [] X.env))) := by rfl) :
    QE X κ φ (.Call (.Attribute o m apos) [] [] pos) (zd2 j pf za2 (zx6 C m g)) := (xh0 ho M.c M.h G hr M.b .nil ym5 ht).imp fun σ H Q hh_ => by
  obtain ⟨ps, F, d, ps', R, e, q⟩ := hh_
  obtain ⟨d0, pp, ys, d0', e0, ep, eg, em, rfl⟩ := yj3 e
  cases eg
  obtain ⟨dd, dn, gp, hh⟩ := yb0 em
  refine ⟨ps, pp, d0, dd, R.ws, e0, ep, gp, fun v H1 v0 s1 ev a1 => ?_⟩
  obtain ⟨a, dx, fs, rfl, hl, hn⟩ := xj6 R s1 e0 ev em a1
  exact ⟨a, dx, fs, rfl, hl, hn, xj5 (us := []) R s1 hb e0 ev em a1 .nil rfl hm q⟩
end
structure Kn (K : PySem.W.Frag) (mg : Str -> Option Value) (κ : Str -> Addr) (C qual : Str) (st : Stmt) (ps : List Str) (f : Addr) (fd : FuncData) : Prop where
  F : Fun K "__init__" qual st f fd
  b : ya0 K fd ps []
  M : Mk K (κ C) f
  m : mg C = some (.ref (κ C))
noncomputable def zh9 (C : Str) (ga : PSt -> Option (List D)) (g : List D -> Option (D × List D)) : PSt -> Option D := fun ps => (ga ps).bind fun ys => (g (.obj true C [] [] :: ys)).bind fun r => match r with
  | (.non, d' :: _) => some d'
  | _ => none
theorem yx6 {C : Str} {ga : PSt -> Option (List D)} {g : List D -> Option (D × List D)} {ps : PSt} {d : D} (h : zh9 C ga g ps = some d) : ∃ ys ds, ga ps = some ys /\ g (.obj true C [] [] :: ys) = some (.non, d :: ds) := by
  obtain ⟨ys, e1, e2⟩ := bind_some h
  obtain ⟨⟨r, ds⟩, e3, e4⟩ := bind_some e2
  cases r with
  | non => cases ds with
    | nil => cases e4
    | cons d1 ds => cases e4; exact ⟨ys, ds, e1, e3⟩
  | _ => cases e4
section
variable {X : Cx} {κ : Str -> Addr} {e : Expr} {es : List Expr} {C qual : Str} {st : Stmt} {ps : List Str} {f : Addr} {fd : FuncData} {k np : Nat} {mk : Nat -> Bool} {g : List D -> Option (D × List D)} {as : List Arg} {pos p : Pos}
theorem xq6 {H H1 : Hp} {Q : VK} {d : D} {ys ds : List D} {us : List V} {x dx : Addr} (s1 : SameK H H1) (hx : H1 x = none) (hdx : H1 dx = none) (hne : dx ≠ x) (ry : Reps X.K κ H1 us ys []) (hnp : np = ys.length + 1) (hm : mk = zt7) (eg : g (.obj true C [] [] :: ys) = some (.non, d :: ds)) (q : zx2 X.K κ H d Q) :
    SpE np X.K κ mk g (.ref x :: us) (upd (upd H1 dx (.own x)) x (.ins (κ C) dx [])) (fun v H2 => v = .non /\ Q (.ref x) H2) E0 := by
  subst hnp hm
  have ne : ∀ a o, H1 a = some o -> a ≠ x /\ a ≠ dx := fun a o h => ⟨fun z => (by rw [z, hx] at h; cases h), fun z => (by rw [z, hdx] at h; cases h)⟩
  have up : ∀ a o, H1 a = some o -> upd (upd H1 dx (.own x)) x (.ins (κ C) dx []) a = some o := fun a o h => by rw [zi0 (ne a o h).1, zi0 (ne a o h).2]; exact h
  have gr : ∀ a, upd (upd H1 dx (.own x)) x (.ins (κ C) dx []) a = none -> H1 a = none := fun a h => by
    by_cases z : a = x
    . rw [z]; exact hx
    . rw [zi0 z] at h
      by_cases z2 : a = dx
      . rw [z2]; exact hdx
      . rwa [zi0 z2] at h
  have s2 : SameK H1 (upd (upd H1 dx (.own x)) x (.ins (κ C) dx [])) := ⟨fun a o h _ => up a o h, gr⟩
  have r0 : Rep X.K κ (upd (upd H1 dx (.own x)) x (.ins (κ C) dx [])) (.ref x) (.obj true C [] []) [x] := .obj (fs := []) zm0 rfl .nil
  have ry2 : Reps X.K κ (upd (upd H1 dx (.own x)) x (.ins (κ C) dx [])) us ys [] := ry.move (fun a o h _ => up a o h) fun a ha => absurd ha (by simp)
  refine ⟨by rw [List.length_cons, ry.length], _, .non, d :: ds, yj8 [x], by simp, yx4 r0 (by simp) ry2, eg, fun u H' F' fv s o rv => ⟨by cases rv; rfl, ?_⟩⟩
  obtain ⟨v2, fp2, k1, k2, k3, _⟩ := s.rs.rep 0 d rfl
  have ek : v2 = .ref x := by
    have : (List.map some (V.ref x :: us))[0]? = some (some v2) := k1
    simp at this; exact this.symm
  subst ek
  have k3' := k3 (by simp [fxE, zt7])
  subst k3'
  refine q (.ref x) H' (F' 0) ⟨fun a o h hk => ?_, fun a h => s1.grow a (gr a (s.fr.grow a h))⟩ (fun a ha => ?_) (s.rs.nd 0) k2
  . have h1 := s1.keep a o h hk
    refine s.fr.keep a o (up a o h1) hk fun i hi => ?_
    have := (zy0 hi).2
    simp at this
    exact (ne a o h1).1 this
  . rcases s.nw 0 a ha with ⟨i, hi⟩ | z
    . have := (zy0 hi).2
      simp at this
      subst this
      exact s1.grow a hx
    . exact s1.grow a (gr a z)
theorem ys3 (Kd : Kn X.K X.mg κ C qual st ps f fd) (G : FnOk X.prog X.w X.K X.mg X.base CX0 k f fd ps (SpE np X.K κ mk g)) (hr : Room (k + 1) X.A) (hg : Gl X C) (ha : PA X (e :: es) (tIO X.K κ as)) (has : yt0 as = true) (hnp : np = as.length + 1) (hm : mk = zt7)
    (hdb : (C == ("__debug__" : Str)) = false := by decide) (he : starEach (e :: es) X.env = (false, eval e X.env) :: starEach es X.env := by rfl) (hpl : (backTo pos (starEach es X.env)).any (·.1) = false := by rfl) :
    QP X κ (.Call (.Name C p) (e :: es) [] pos) (zh9 C (ze2 as) g) := (wl4 Kd.M G hr hg Kd.m Kd.b .nil ym5 ha hdb he hpl).imp fun σ H Q hh_ => by
  obtain ⟨ps, d, w, e, q⟩ := hh_
  obtain ⟨ys, ds, e1, e2⟩ := yx6 e
  refine ⟨ps, ys, w, e1, fun us H1 s1 a1 x dx hx hdx hne => ?_⟩
  show SpE np X.K κ mk g (_ :: (us ++ [])) _ _ E0
  rw [List.append_nil]
  exact xq6 s1 hx hdx hne (a1.reps has) (by rw [hnp, a1.len.2]) hm e2 q
theorem yv0 (Kd : Kn X.K X.mg κ C qual st ps f fd) (G : FnOk X.prog X.w X.K X.mg X.base CX0 k f fd ps (SpE 1 X.K κ mk g)) (hr : Room (k + 1) X.A) (hg : Gl X C) (hm : mk = zt7)
    (hdb : (C == ("__debug__" : Str)) = false := by decide) :
    QP X κ (.Call (.Name C p) [] [] pos) (zh9 C za2 g) := (wf1 Kd.M G hr hg Kd.m Kd.b .nil ym5 hdb).imp fun σ H Q hh_ => by
  obtain ⟨ps, d, w, e, q⟩ := hh_
  obtain ⟨ys, ds, e1, e2⟩ := yx6 e
  cases e1
  exact fun x dx hx hdx hne => xq6 (us := []) (.refl H) hx hdx hne .nil rfl hm e2 q
end
end L2
namespace L2
open PySem PySem.Spec PyProof.Rows
theorem wg6 (kvs : List (Key × V)) (k : Key) : (yj0 kvs k).isSome = (kvs.map (·.1)).any fun j => decide (j = k) := by
  rw [<- xh4, List.any_map]; rfl
noncomputable def zk5 (ks : List Key) (fa : PSt -> Option D) : PSt -> Option Bool := fun ps => (fa ps).bind fun d => d.key.bind fun k => some (ks.any fun j => decide (j = k))
section
variable {X : Cx} {κ : Str -> Addr} {i : Expr} {fa : PSt -> Option D} {pos p : Pos} {x : Str} {a : Addr} {ks : List Key} {ds : List D}
theorem ws4 {kvs : List (Key × V)} {ty : TE} (hg : Gl X x) (hm : X.mg x = some (.ref a)) (hk : KDk X.prog X.w X.K a kvs) (hi : PE X i ty) (hdb : (x == ("__debug__" : Str)) = false := by decide) :
    PC X .In i (.Name x p) (fun σ H Q => ty σ H fun y H1 => ∃ k, y = kV k /\ Q (.bl (yj0 kvs k).isSome) H1) := by
  obtain ⟨hsm, o, es, ep, vs, h1, h2, h3, h4, h5, h6, h7⟩ := hk
  intro pins s σ H Q I h
  refine thn (hi pins s σ H _ I h) fun iv s1 ⟨y, H1, I1, ry, k, ey, q1⟩ => thn (xa4 (v := .ref a) hg hm rfl hdb pins s1 σ H1 (fun x H2 => x = .ref a /\ H2 = H1) I1 ⟨rfl, rfl⟩) fun u s2 ⟨x2, H2, I2, rx, e1, e2⟩ => ?_
  subst e1 e2 ey
  cases rx
  have dd : s2.heap.DictAt (zx1 X.prog X.w) a vs ep := ⟨o, es, I2.kIn a o h1, h2, h3, h5, h6, h7⟩
  refine wpAny_in_of (wj3 ry) hsm dd.dictOf.mapOf ?_
  rw [<- (h4.val k).isSome_eq]
  exact ⟨.bl _, H2, I2.tok _, rfl, q1⟩
theorem yq2 (hg : Gl X x) (hm : X.mg x = some (.ref a)) (hk : yk5 X.prog X.w X.K κ a ks ds) (ha : QV X κ i fa) (hdb : (x == ("__debug__" : Str)) = false := by decide) (hmk : behindInMarks .In (.Name x p) = false := by rfl) : QT X κ (.Compare i [.In] [.Name x p] pos) (zk5 ks fa) := by
  obtain ⟨kvs, hkd, hks, hds⟩ := hk
  refine (wp0 (ws4 hg hm hkd ha hdb) hmk).imp fun σ H Q ⟨ps, b, w, e, q⟩ => ?_
  obtain ⟨d, e1, e2⟩ := bind_some e
  obtain ⟨k, e3, e4⟩ := bind_some e2
  cases e4
  refine ⟨ps, d, w, e1, fun v H1 fp s1 r1 => ⟨k, xq3 r1 e3, ?_⟩⟩
  rw [wg6, hks]
  exact ⟨_, rfl, q H1 s1⟩
end
section
variable {X : Cx} {κ : Str -> Addr}
theorem wa7 : MtR X "str.startswith" (fun x xs H Q => ∃ z y, x = .str z /\ xs = [.str y] /\ Q (.bl (Txt.startswith z y)) H) := by
  intro pins s σ H x xs v us Q I rx r h
  obtain ⟨z, y, rfl, rfl, q⟩ := h
  obtain ⟨t, rfl⟩ := rx
  obtain ⟨u, rfl, t', rfl⟩ := yf0 r
  exact SC.startswith ⟨.bl _, H, I.tok _, rfl, q⟩
noncomputable def zo6 : D -> List D -> Option D
  | .str z, [.str y] => some (.bl (Txt.startswith z y))
  | _, _ => none
theorem zy1 : MtR X "str.startswith" (PMt X.K κ zo6) := by
  rintro pins s σ H x vs v us Q I rx r ⟨dx, ds, fx, fp, d, r1, rs, e, q⟩
  unfold zo6 at e
  split at e
  . cases e
    obtain ⟨w, rfl, r2⟩ := rs.one_inv
    exact wa7 pins s σ H x _ v us Q I rx r ⟨_, _, r1.is_str, by rw [r2.is_str], q.now (.bl _)⟩
  . cases e
end
theorem yc7 (n : Nat) : zf2 (true :: List.replicate n false) = zt7 := by
  funext i
  unfold zf2 zt7
  cases i with
  | zero => rfl
  | succ i =>
    rw [List.getElem?_cons_succ, List.getElem?_replicate]
    split <;> simp
noncomputable def kap : List (Str × Addr) -> Str -> Addr
  | [], _ => mainGlobals
  | (x, a) :: r, y => if x = y then a else kap r y
end L2
namespace L2
open PySem PySem.Spec PyProof.Rows
section
variable {X : Cx} {pins : List (Addr × Obj)} {σ : St} {H : Hp} {s : Shared} {a C dx : Addr} {fs : List (Str × V)}
theorem Inv.freeze (I : Inv X pins σ H s) (h : H a = some (.ins C dx fs)) : Inv X pins σ (upd H a (.frz (PySem.W.instObj C dx) (.ins C dx fs))) s := by
  have ne : ∀ b, H b = none -> b ≠ a := fun b hb z => by rw [z, h] at hb; cases hb
  have nt : ∀ b o, H b = some o -> (∀ C' dx' fs', o ≠ .ins C' dx' fs') -> b ≠ a := fun b o hb ho z => by
    rw [z, h] at hb
    cases hb
    exact ho _ _ _ rfl
  refine ⟨I.ok, I.os, I.bare, ⟨I.base.keep, I.base.slot, fun b o h1 h2 h3 => ?_, I.base.there, fun b xs h1 => ?_, fun b o u h1 => ?_, fun b ps h1 => ?_⟩, I.loc, I.cell, ?_, fun x c e => ?_, fun p hp => ?_, fun b o e => ?_, I.len⟩
  . have := I.base.free b o h1 h2 h3
    rw [zi0 (ne b this)]; exact this
  . have := I.base.tups b xs h1
    rw [zi0 (nt b _ this fun _ _ _ z => by cases z)]; exact this
  . have := I.base.frzs b o u h1
    rw [zi0 (nt b _ this fun _ _ _ z => by cases z)]; exact this
  . obtain ⟨more, this⟩ := I.base.tbls b ps h1
    exact ⟨more, by rw [zi0 (nt b _ this fun _ _ _ z => by cases z)]; exact this⟩
  . rw [zi0 (ne _ I.free)]; exact I.free
  . have := I.freeC x c e
    rw [zi0 (ne _ this)]; exact this
  . obtain ⟨p1, p2, p3⟩ := I.pin p hp
    exact ⟨p1, by rw [zi0 (ne _ p2)]; exact p2, p3⟩
  . have st : ∀ {b o}, zp0 X.prog X.w H s.heap b o -> zp0 X.prog X.w (upd H a (.frz (PySem.W.instObj C dx) (.ins C dx fs))) s.heap b o := fun x =>
      x.stay (fun _ _ _ q => q) (fun b' hb => by rw [zi0 (nt b' _ hb fun _ _ _ z => by cases z)]; exact hb) fun b' xs hb => by rw [zi0 (nt b' _ hb fun _ _ _ z => by cases z)]; exact hb
    by_cases z : b = a
    . subst z
      rw [zm0] at e
      cases e
      have x := I.hok b _ h
      obtain ⟨_, _, _, ob, _⟩ := (show zp0 X.prog X.w H s.heap b (.ins C dx fs) from x)
      exact ⟨ob, st x⟩
    . rw [zi0 z] at e
      exact st (I.hok b o e)
end
theorem PE.frz {X : Cx} {e : Expr} {t : TE} (h : PE X e t) : PE X e (fun σ H Q => t σ H fun x H' => ∃ a C dx fs, x = .ref a /\ H' a = some (.ins C dx fs) /\ Q x (upd H' a (.frz (PySem.W.instObj C dx) (.ins C dx fs)))) := by
  intro pins s σ H Q I q
  exact thn (h pins s σ H _ I q) fun v s1 ⟨x, H1, I1, rx, a, C, dx, fs, ex, ea, q1⟩ => ⟨x, _, I1.freeze ea, rx, q1⟩
end L2
namespace L3
open PySem PySem.Spec PyProof.Rows L2
@[irreducible] def PE := @L2.PE
@[irreducible] def PT := @L2.PT
@[irreducible] def PW := @L2.PW
@[irreducible] def PA := @L2.PA
@[irreducible] def PS := @L2.PS
@[irreducible] def PSs := @L2.PSs
@[irreducible] def PI := @L2.PI
@[irreducible] def PG := @L2.PG
@[irreducible] def PGs := @L2.PGs
@[irreducible] def PTs := @L2.PTs
@[irreducible] def PO := @L2.PO
@[irreducible] def OpR := @L2.OpR
@[irreducible] def zl2 := @L2.zl2
@[irreducible] def MtR := @L2.MtR
noncomputable abbrev QV (X : Cx) (κ : Str -> Addr) (e : Expr) (f : PSt -> Option D) : Prop := PE X e (tV X.K κ f)
noncomputable abbrev QP (X : Cx) (κ : Str -> Addr) (e : Expr) (f : PSt -> Option D) : Prop := PE X e (tP X.K κ f)
noncomputable abbrev QT (X : Cx) (κ : Str -> Addr) (e : Expr) (f : PSt -> Option Bool) : Prop := PT X e (tQ X.K κ f)
noncomputable abbrev QW (X : Cx) (κ : Str -> Addr) (e : Expr) (f : PSt -> Option Bool) : Prop := PW X e (tQ X.K κ f)
noncomputable abbrev QVA (X : Cx) (κ : Str -> Addr) (es : List Expr) (f : PSt -> Option (List D)) : Prop := PA X es (tVA X.K κ f)
noncomputable abbrev QPA (X : Cx) (κ : Str -> Addr) (es : List Expr) (f : PSt -> Option (List D)) : Prop := PA X es (tPA X.K κ f)
noncomputable abbrev QO (X : Cx) (κ : Str -> Addr) (e : Option Expr) (f : PSt -> Option (Option Int)) : Prop := PO X e (tO X.K κ f)
noncomputable abbrev QS (X : Cx) (κ : Str -> Addr) (φ : F0) (st : Stmt) (f : PSt -> Option (Fl × PSt)) : Prop := PS X st (tS (φ.fx X.K κ) f)
noncomputable abbrev QSs (X : Cx) (κ : Str -> Addr) (φ : F0) (st : List Stmt) (f : PSt -> Option (Fl × PSt)) : Prop := PSs X st (tS (φ.fx X.K κ) f)
noncomputable abbrev QE (X : Cx) (κ : Str -> Addr) (φ : F0) (e : Expr) (f : PSt -> Option (D × PSt)) : Prop := PE X e (tE (φ.fx X.K κ) f)
noncomputable abbrev QTE (X : Cx) (κ : Str -> Addr) (φ : F0) (e : Expr) (f : PSt -> Option (Bool × PSt)) : Prop := PT X e (tTE (φ.fx X.K κ) f)
noncomputable abbrev QIV (X : Cx) (κ : Str -> Addr) (tg iter : Expr) (f : PSt -> Option (List D)) : Prop := PI X tg iter (tIV X.K κ f)
noncomputable abbrev QIP (X : Cx) (κ : Str -> Addr) (tg iter : Expr) (f : PSt -> Option (List D)) : Prop := PI X tg iter (tIP X.K κ f)
section
variable {X : Cx} {pos : Pos}
theorem zw9 {i : Nat} {x : Str} (hN : X.N.Nodup) (hi : X.N[i]? = some x) (hx : Loc X.env.scope x) (hf : X.fn x = true \/ X.env.scope.names.lookup x = some .local := by first | exact .inl rfl | exact .inr rfl | assumption) : PG X (.Name x pos) (yh0 i) := by with_unfolding_all exact L2.zw9 hN hi hx hf
end
section
variable {X : Cx} {pos : Pos}
theorem xa5 : PGs X [] wi2 := by with_unfolding_all exact L2.xa5
end
section
variable {X : Cx} {pos : Pos}
theorem yd4 {e : Expr} {es : List Expr} {t : TG} {u : TGs} (h1 : PG X e t) (h2 : PGs X es u)
    (hs : (assignEach (e :: es) X.env).map (·.2) = assign e X.env :: (assignEach es X.env).map (·.2) := by rfl) : PGs X (e :: es) (xw4 t u) := by with_unfolding_all exact L2.yd4 h1 h2 hs
end
section
variable {X : Cx} {κ : Str -> Addr} {e a b : Expr} {f fa fb : PSt -> Option D}
theorem QP.v (h : QP X κ e f) : QV X κ e f := by with_unfolding_all exact L2.QP.v h
end
section
variable {X : Cx} {κ : Str -> Addr} {e a b : Expr} {f fa fb : PSt -> Option D}
theorem QV.p (h : QV X κ e f) : QP X κ e (zb3 f) := by with_unfolding_all exact L2.QV.p h
end
section
variable {X : Cx} {κ : Str -> Addr} {e a b : Expr} {f fa fb : PSt -> Option D}
theorem za6 (i : Nat) {x : Str} {pos : Pos} (hN : X.N[i]? = some x := by rfl) (hv : Vis X.env.scope x := by first | exact Or.inl rfl | exact Or.inr (Or.inl rfl) | exact Or.inr (Or.inr rfl)) (hd : (x == ("__debug__" : Str)) = false := by decide)
    (hcd : (x == ("__classdict__" : Str)) = false := by decide) : QV X κ (.Name x pos) (za1 i) := by with_unfolding_all exact L2.za6 i hN hv hd hcd
end
section
variable {X : Cx} {κ : Str -> Addr} {e a b : Expr} {f fa fb : PSt -> Option D}
theorem zb5 {i j pos} : QP X κ (.Constant (.int i) j pos) (fC (.int i)) := by with_unfolding_all exact L2.zb5
end
section
variable {X : Cx} {κ : Str -> Addr} {e a b : Expr} {f fa fb : PSt -> Option D}
theorem zf1 {x j pos} : QP X κ (.Constant (.str x) j pos) (fC (.str x)) := by with_unfolding_all exact L2.zf1
end
section
variable {X : Cx} {κ : Str -> Addr} {e a b : Expr} {f fa fb : PSt -> Option D}
theorem yc2 {b j pos} : QP X κ (.Constant (.bool b) j pos) (fC (.bl b)) := by with_unfolding_all exact L2.yc2
end
section
variable {X : Cx} {κ : Str -> Addr} {e a b : Expr} {f fa fb : PSt -> Option D}
theorem yp4 {j pos} : QP X κ (.Constant .none j pos) (fC .non) := by with_unfolding_all exact L2.yp4
end
section
variable {X : Cx} {κ : Str -> Addr} {e a b : Expr} {f fa fb : PSt -> Option D}
theorem zq7 {x : Str} {v : V} {u : Value} {d : D} {pos : Pos} (hg : Gl X x) (hm : X.mg x = some u) (r : zi6 v u) (hd : ∀ H, Rep X.K κ H v d []) (hdb : (x == ("__debug__" : Str)) = false := by decide) : QP X κ (.Name x pos) (fC d) := by with_unfolding_all exact L2.zq7 hg hm r hd hdb
end
section
variable {X : Cx} {κ : Str -> Addr} {e a b : Expr} {f fa fb : PSt -> Option D}
theorem yg7 {x : Str} {n : String} {pos : Pos} (hg : Gl X x) (hm : X.mg x = none) (hv : bootBuiltins x = some (.type n)) (hn : x ≠ "__name__" := by decide) (hd : (x == ("__debug__" : Str)) = false := by decide) : QP X κ (.Name x pos) (fC (.ty n)) := by with_unfolding_all exact L2.yg7 hg hm hv hn hd
end
section
variable {X : Cx} {κ : Str -> Addr} {e a b : Expr} {f fa fb : PSt -> Option D}
theorem zg4 {op : Operator} {g : D -> D -> Option D} {pos : Pos} (ho : OpR X (binaryOp op) (POp X.K κ g)) (ha : QV X κ a fa) (hb : QV X κ b fb) : QP X κ (.BinOp a op b pos) (f2 g fa fb) := by with_unfolding_all exact L2.zg4 ho ha hb
end
section
variable {X : Cx} {κ : Str -> Addr} {e a b : Expr} {f fa fb : PSt -> Option D}
theorem zx9 {op : CmpOp} {g : D -> D -> Option D} {pos : Pos} (ho : OpR X (compareOp op) (POp X.K κ g)) (ha : QV X κ a fa) (hb : QV X κ b fb) (hm : behindInMarks op b = false) : QP X κ (.Compare a [op] [b] pos) (f2 g fa fb) := by with_unfolding_all exact L2.zx9 ho ha hb hm
end
section
variable {X : Cx} {κ : Str -> Addr} {e a b : Expr} {f fa fb : PSt -> Option D}
theorem zh2 {op : CmpOp} {g : D -> D -> Option D} {pos : Pos} (ho : OpR X (compareOp op) (POp X.K κ g)) (ha : QV X κ a fa) (hb : QV X κ b fb) (hm : behindInMarks op b = false) : QT X κ (.Compare a [op] [b] pos) (fB (f2 g fa fb)) := by with_unfolding_all exact L2.zh2 ho ha hb hm
end
section
variable {X : Cx} {κ : Str -> Addr} {e a b : Expr} {f fa fb : PSt -> Option D}
theorem zw6 (ha : QV X κ a fa) (he : ∀ whole, isTrue a X.env whole = (do let v <- whole; standAt a.pos; holding [v] (truthy v)) := by intro _; rfl) : QT X κ a (fT fa) := by with_unfolding_all exact L2.zw6 ha he
end
section
variable {X : Cx} {κ : Str -> Addr} {e a b : Expr} {f fa fb : PSt -> Option D}
variable {pos : Pos} {rest : List Expr} {ta tb : PSt -> Option Bool}
theorem yd5 (ha : QT X κ a ta) : QW X κ (.BoolOp .And [a] pos) ta := by with_unfolding_all exact L2.yd5 ha
end
section
variable {X : Cx} {κ : Str -> Addr} {e a b : Expr} {f fa fb : PSt -> Option D}
variable {pos : Pos} {rest : List Expr} {ta tb : PSt -> Option Bool}
theorem yw5 (ha : QT X κ a ta) : QW X κ (.BoolOp .Or [a] pos) ta := by with_unfolding_all exact L2.yw5 ha
end
section
variable {X : Cx} {κ : Str -> Addr} {e a b : Expr} {f fa fb : PSt -> Option D}
variable {pos : Pos} {rest : List Expr} {ta tb : PSt -> Option Bool}
theorem yf5 (ha : QT X κ a ta) (hb : QW X κ (.BoolOp .And (b :: rest) pos) tb) : QW X κ (.BoolOp .And (a :: b :: rest) pos) (ze5 ta tb) := by with_unfolding_all exact L2.yf5 ha hb
end
section
variable {X : Cx} {κ : Str -> Addr} {e a b : Expr} {f fa fb : PSt -> Option D}
variable {pos : Pos} {rest : List Expr} {ta tb : PSt -> Option Bool}
theorem xf8 (ha : QT X κ a ta) (hb : QW X κ (.BoolOp .Or (b :: rest) pos) tb) : QW X κ (.BoolOp .Or (a :: b :: rest) pos) (zh4 ta tb) := by with_unfolding_all exact L2.xf8 ha hb
end
section
variable {X : Cx} {κ : Str -> Addr} {e a b : Expr} {f fa fb : PSt -> Option D}
variable {pos : Pos} {rest : List Expr} {ta tb : PSt -> Option Bool}
theorem ym7 (h : QW X κ a ta) : QT X κ a ta := by with_unfolding_all exact L2.ym7 h
end
section
variable {X : Cx} {κ : Str -> Addr} {e a b : Expr} {f fa fb : PSt -> Option D}
variable {pos : Pos} {rest : List Expr} {ta tb : PSt -> Option Bool}
theorem yl1 (ha : QT X κ a ta) : QT X κ (.UnaryOp .Not a pos) (zd7 ta) := by with_unfolding_all exact L2.yl1 ha
end
section
variable {X : Cx} {κ : Str -> Addr} {e a b : Expr} {f fa fb : PSt -> Option D}
variable {pos : Pos} {rest : List Expr} {ta tb : PSt -> Option Bool}
theorem yl2 {op} (h : QP X κ a fa) : QP X κ (.BoolOp op [a] pos) fa := by with_unfolding_all exact L2.yl2 h
end
section
variable {X : Cx} {κ : Str -> Addr} {e a b : Expr} {f fa fb : PSt -> Option D}
variable {pos : Pos} {rest : List Expr} {ta tb : PSt -> Option Bool}
theorem yh6 (ha : QP X κ a fa) (hb : QP X κ (.BoolOp .And (b :: rest) pos) fb) : QP X κ (.BoolOp .And (a :: b :: rest) pos) (zj7 fa fb) := by with_unfolding_all exact L2.yh6 ha hb
end
section
variable {X : Cx} {κ : Str -> Addr} {e a b : Expr} {f fa fb : PSt -> Option D}
variable {pos : Pos} {rest : List Expr} {ta tb : PSt -> Option Bool}
theorem xh8 (ha : QP X κ a fa) : QP X κ (.UnaryOp .Not a pos) (zq3 fa) := by with_unfolding_all exact L2.xh8 ha
end
section
variable {X : Cx} {κ : Str -> Addr} {e a b : Expr} {f fa fb : PSt -> Option D}
variable {pos : Pos} {rest : List Expr} {ta tb : PSt -> Option Bool}
theorem zu9 (ha : QV X κ a fa) : QP X κ (.UnaryOp .USub a pos) (zf6 fa) := by with_unfolding_all exact L2.zu9 ha
end
section
variable {X : Cx} {κ : Str -> Addr}
theorem zn2 : OpR X (binaryOp .Add) (POp X.K κ zc2) := by with_unfolding_all exact L2.zn2
end
section
variable {X : Cx} {κ : Str -> Addr}
theorem xt9 : OpR X (binaryOp .Sub) (POp X.K κ ya6) := by with_unfolding_all exact L2.xt9
end
section
variable {X : Cx} {κ : Str -> Addr}
theorem xu0 : OpR X (binaryOp .Mult) (POp X.K κ yd0) := by with_unfolding_all exact L2.xu0
end
section
variable {X : Cx} {κ : Str -> Addr}
theorem zo7 : OpR X (binaryOp .Mod) (POp X.K κ zl5) := by with_unfolding_all exact L2.zo7
end
section
variable {X : Cx} {κ : Str -> Addr}
theorem yc4 : OpR X (binaryOp .FloorDiv) (POp X.K κ zs5) := by with_unfolding_all exact L2.yc4
end
section
variable {X : Cx} {κ : Str -> Addr}
theorem yg2 (hu : X.A.units < cLine) : OpR X (compareOp .Lt) (POp X.K κ dLt) := by with_unfolding_all exact L2.yg2 hu
end
section
variable {X : Cx} {κ : Str -> Addr}
theorem xi0 : OpR X (compareOp .LtE) (POp X.K κ dLe) := by with_unfolding_all exact L2.xi0
end
section
variable {X : Cx} {κ : Str -> Addr}
theorem yu1 : OpR X (compareOp .Gt) (POp X.K κ dGt) := by with_unfolding_all exact L2.yu1
end
section
variable {X : Cx} {κ : Str -> Addr}
theorem xu1 : OpR X (compareOp .GtE) (POp X.K κ dGe) := by with_unfolding_all exact L2.xu1
end
section
variable {X : Cx} {κ : Str -> Addr}
theorem zo8 (hu : X.A.units + 64 < cLine) : OpR X (compareOp .Eq) (POp X.K κ dEq) := by with_unfolding_all exact L2.zo8 hu
end
section
variable {X : Cx} {κ : Str -> Addr}
theorem xu2 (hu : X.A.units + 64 < cLine) : OpR X (compareOp .NotEq) (POp X.K κ dNe) := by with_unfolding_all exact L2.xu2 hu
end
section
variable {X : Cx} {κ : Str -> Addr}
theorem wg0 : OpR X (compareOp .Is) (POp X.K κ dIs) := by with_unfolding_all exact L2.wg0
end
section
variable {X : Cx} {κ : Str -> Addr}
theorem xu3 : OpR X (compareOp .In) (POp X.K κ dIn) := by with_unfolding_all exact L2.xu3
end
section
variable {X : Cx} {κ : Str -> Addr} {e a b : Expr} {es : List Expr} {f fa fb : PSt -> Option D} {g : PSt -> Option (List D)} {pos p2 : Pos}
theorem zd0 : QVA X κ [] za2 := by with_unfolding_all exact L2.zd0
end
section
variable {X : Cx} {κ : Str -> Addr} {e a b : Expr} {es : List Expr} {f fa fb : PSt -> Option D} {g : PSt -> Option (List D)} {pos p2 : Pos}
theorem zb0 (ha : QV X κ e f) (hr : QVA X κ es g) (hs : starEach (e :: es) X.env = (false, eval e X.env) :: starEach es X.env := by rfl) : QVA X κ (e :: es) (za0 f g) := by with_unfolding_all exact L2.zb0 ha hr hs
end
section
variable {X : Cx} {κ : Str -> Addr} {e a b : Expr} {es : List Expr} {f fa fb : PSt -> Option D} {g : PSt -> Option (List D)} {pos p2 : Pos}
theorem ze0 : QPA X κ [] za2 := by with_unfolding_all exact L2.ze0
end
section
variable {X : Cx} {κ : Str -> Addr} {e a b : Expr} {es : List Expr} {f fa fb : PSt -> Option D} {g : PSt -> Option (List D)} {pos p2 : Pos}
theorem zb7 (ha : QP X κ e f) (hr : QPA X κ es g) (hs : starEach (e :: es) X.env = (false, eval e X.env) :: starEach es X.env := by rfl) : QPA X κ (e :: es) (za0 f g) := by with_unfolding_all exact L2.zb7 ha hr hs
end
section
variable {X : Cx} {κ : Str -> Addr} {e a b : Expr} {es : List Expr} {f fa fb : PSt -> Option D} {g : PSt -> Option (List D)} {pos p2 : Pos}
theorem zk8 {x1} (h : QPA X κ es g) : QP X κ (.Tuple es x1 pos) (zd3 g) := by with_unfolding_all exact L2.zk8 h
end
section
variable {X : Cx} {κ : Str -> Addr} {e a b : Expr} {es : List Expr} {f fa fb : PSt -> Option D} {g : PSt -> Option (List D)} {pos p2 : Pos}
theorem zk0 (h : QPA X κ es g) : QP X κ (.List es pos) (zc3 g) := by with_unfolding_all exact L2.zk0 h
end
section
variable {X : Cx} {κ : Str -> Addr} {e a b : Expr} {es : List Expr} {f fa fb : PSt -> Option D} {g : PSt -> Option (List D)} {pos p2 : Pos}
theorem zk3 (ha : QV X κ a fa) (hb : QV X κ b fb) (hs : ye4 b := by exact fun _ _ => rfl) : QV X κ (.Subscript a b pos) (f2 dIx fa fb) := by with_unfolding_all exact L2.zk3 ha hb hs
end
section
variable {X : Cx} {κ : Str -> Addr} {e a b : Expr} {es : List Expr} {f fa fb : PSt -> Option D} {g : PSt -> Option (List D)} {pos p2 : Pos}
theorem yg8 (ha : QP X κ a fa) (hb : QV X κ b fb) (hs : ye4 b := by exact fun _ _ => rfl) : QP X κ (.Subscript a b pos) (f2 dIx fa fb) := by with_unfolding_all exact L2.yg8 ha hb hs
end
section
variable {X : Cx} {κ : Str -> Addr} {e a b : Expr} {es : List Expr} {f fa fb : PSt -> Option D} {g : PSt -> Option (List D)} {pos p2 : Pos}
theorem yh2 : QO X κ none zs1 := by with_unfolding_all exact L2.yh2
end
section
variable {X : Cx} {κ : Str -> Addr} {e a b : Expr} {es : List Expr} {f fa fb : PSt -> Option D} {g : PSt -> Option (List D)} {pos p2 : Pos}
theorem yh3 (h : QV X κ e f) : QO X κ (some e) (ya2 f) := by with_unfolding_all exact L2.yh3 h
end
section
variable {X : Cx} {κ : Str -> Addr} {e a b : Expr} {es : List Expr} {f fa fb : PSt -> Option D} {g : PSt -> Option (List D)} {pos p2 : Pos}
theorem yd6 {lo hi : Option Expr} {fl fh : PSt -> Option (Option Int)} (he : QV X κ e f) (hl : QO X κ lo fl) (hh : QO X κ hi fh) : QP X κ (.Subscript e (.Slice lo hi none p2) pos) (fSl f fl fh) := by with_unfolding_all exact L2.yd6 he hl hh
end
section
variable {X : Cx} {κ : Str -> Addr} {e a b : Expr} {es : List Expr} {f fa fb : PSt -> Option D} {g : PSt -> Option (List D)} {pos p2 : Pos}
theorem zi7 {x : Str} {id : String} {p : Pos} {h : List D -> Option D} (hc : zl2 X (.builtin id) (PCl X.K κ h)) (hg : Gl X x) (hm : X.mg x = none) (hv : bootBuiltins x = some (.builtin id)) (ha : QVA X κ (e :: es) g) (hn : x ≠ "__name__" := by decide) (hdb : (x == ("__debug__" : Str)) = false := by decide)
    (hs : starEach (e :: es) X.env = (false, eval e X.env) :: starEach es X.env := by rfl) (hpl : (backTo pos (starEach es X.env)).any (·.1) = false := by rfl) : QP X κ (.Call (.Name x p) (e :: es) [] pos) (za3 h g) := by with_unfolding_all exact L2.zi7 hc hg hm hv ha hn hdb hs hpl
end
section
variable {X : Cx} {κ : Str -> Addr} {e a b : Expr} {es : List Expr} {f fa fb : PSt -> Option D} {g : PSt -> Option (List D)} {pos p2 : Pos}
theorem zl9 {x : Str} {T : String} {p : Pos} {h : List D -> Option D} (hc : zl2 X (.type T) (PCl X.K κ h)) (hg : Gl X x) (hm : X.mg x = none) (hv : bootBuiltins x = some (.type T)) (ha : QVA X κ (e :: es) g) (hn : x ≠ "__name__" := by decide) (hdb : (x == ("__debug__" : Str)) = false := by decide)
    (hs : starEach (e :: es) X.env = (false, eval e X.env) :: starEach es X.env := by rfl) (hpl : (backTo pos (starEach es X.env)).any (·.1) = false := by rfl) : QP X κ (.Call (.Name x p) (e :: es) [] pos) (za3 h g) := by with_unfolding_all exact L2.zl9 hc hg hm hv ha hn hdb hs hpl
end
section
variable {X : Cx} {κ : Str -> Addr} {e a b : Expr} {es : List Expr} {f fa fb : PSt -> Option D} {g : PSt -> Option (List D)} {pos p2 : Pos}
theorem zt3 : zl2 X (.builtin "len") (PCl X.K κ zb9) := by with_unfolding_all exact L2.zt3
end
section
variable {X : Cx} {κ : Str -> Addr} {e a b : Expr} {es : List Expr} {f fa fb : PSt -> Option D} {g : PSt -> Option (List D)} {pos p2 : Pos}
theorem xi2 (hc : X.calm = true) : zl2 X (.builtin "min") (PCl X.K κ zn9) := by with_unfolding_all exact L2.xi2 hc
end
section
variable {X : Cx} {κ : Str -> Addr} {e a b : Expr} {es : List Expr} {f fa fb : PSt -> Option D} {g : PSt -> Option (List D)} {pos p2 : Pos}
theorem yg9 : zl2 X (.builtin "isinstance") (PCl X.K κ zj8) := by with_unfolding_all exact L2.yg9
end
section
variable {X : Cx} {κ : Str -> Addr} {e a b : Expr} {es : List Expr} {f fa fb : PSt -> Option D} {g : PSt -> Option (List D)} {pos p2 : Pos}
theorem zv0 : zl2 X (.type "tuple") (PCl X.K κ zc1) := by with_unfolding_all exact L2.zv0
end
section
variable {X : Cx} {κ : Str -> Addr} {e a b : Expr} {es : List Expr} {f fa fb : PSt -> Option D} {g : PSt -> Option (List D)} {pos p2 : Pos}
theorem xf9 : zl2 X (.type "int") (PCl X.K κ zm1) := by with_unfolding_all exact L2.xf9
end
section
variable {X : Cx} {κ : Str -> Addr} {e a b : Expr} {es : List Expr} {f fa fb : PSt -> Option D} {g : PSt -> Option (List D)} {pos p2 : Pos}
theorem xu4 (hc : X.calm = true) : zl2 X (.builtin "all") (PCl X.K κ xm9) := by with_unfolding_all exact L2.xu4 hc
end
section
variable {X : Cx} {κ : Str -> Addr} {e a b : Expr} {es : List Expr} {f fa fb : PSt -> Option D} {g : PSt -> Option (List D)} {pos p2 : Pos}
theorem yw6 : zl2 X (.type "str") (PCl X.K κ zl8) := by with_unfolding_all exact L2.yw6
end
section
variable {X : Cx} {κ : Str -> Addr} {e a b : Expr} {es : List Expr} {f fa fb : PSt -> Option D} {g : PSt -> Option (List D)} {pos p2 : Pos}
theorem ym9 {name : Str} {id : String} {apos : Pos} {h : D -> List D -> Option D} (slot : Slot "str" name id) (hty : typeOf (.builtin id) = pure (.type "method_descriptor")) (hm : MtR X id (PMt X.K κ h)) (ho : QV X κ a fa) (ha : QVA X κ (e :: es) g)
    (hbase : attributeBase a name X.env (eval a X.env) = eval a X.env := by rfl)
    (hfew : ((backTo pos (starEach (e :: es) X.env)).all (fun x => !x.1) && (backToKw pos (keywordEach [] X.env)).all (fun x => x.1.isSome)
      && decide ((e :: es).length + ([] : List Keyword).length + (if ([] : List Keyword).isEmpty then 0 else 1) < 30)) = true := by rfl)
    (hline : (apos.endLine == pos.line) = true := by rfl) (hs : starEach (e :: es) X.env = (false, eval e X.env) :: starEach es X.env := by rfl) (hplain : (backTo pos (starEach es X.env)).any (·.1) = false := by rfl) :
    QP X κ (.Call (.Attribute a name apos) (e :: es) [] pos) (fMt h fa g) := by with_unfolding_all exact L2.ym9 slot hty hm ho ha hbase hfew hline hs hplain
end
section
variable {X : Cx} {κ : Str -> Addr} {e a b : Expr} {es : List Expr} {f fa fb : PSt -> Option D} {g : PSt -> Option (List D)} {pos p2 : Pos}
theorem xb0 : MtR X "str.split" (PMt X.K κ ym3) := by with_unfolding_all exact L2.xb0
end
section
variable {X : Cx} {κ : Str -> Addr} {e a b : Expr} {es : List Expr} {f fa fb : PSt -> Option D} {g : PSt -> Option (List D)} {pos p2 : Pos}
theorem xi4 : MtR X "str.join" (PMt X.K κ yj5) := by with_unfolding_all exact L2.xi4
end
section
variable {X : Cx} {κ : Str -> Addr} {φ : F0} {st : Stmt} {rest : List Stmt} {f g : PSt -> Option (Fl × PSt)} {pos : Pos}
theorem zg5 : QSs X κ φ [] za7 := by with_unfolding_all exact L2.zg5
end
section
variable {X : Cx} {κ : Str -> Addr} {φ : F0} {st : Stmt} {rest : List Stmt} {f g : PSt -> Option (Fl × PSt)} {pos : Pos}
theorem zc5 (h : QS X κ φ st f) : QSs X κ φ [st] f := by with_unfolding_all exact L2.zc5 h
end
section
variable {X : Cx} {κ : Str -> Addr} {φ : F0} {st : Stmt} {rest : List Stmt} {f g : PSt -> Option (Fl × PSt)} {pos : Pos}
theorem zc4 (h1 : QS X κ φ st f) (h2 : QSs X κ φ rest g) : QSs X κ φ (st :: rest) (za9 f g) := by with_unfolding_all exact L2.zc4 h1 h2
end
section
variable {X : Cx} {κ : Str -> Addr} {φ : F0} {st : Stmt} {rest : List Stmt} {f g : PSt -> Option (Fl × PSt)} {pos : Pos}
theorem yh7 : QS X κ φ st yd1 := by with_unfolding_all exact L2.yh7
end
section
variable {X : Cx} {κ : Str -> Addr} {φ : F0} {st : Stmt} {rest : List Stmt} {f g : PSt -> Option (Fl × PSt)} {pos : Pos}
theorem QP.e {e : Expr} {f : PSt -> Option D} (h : PE X e (tP X.K κ f)) : QE X κ φ e (za5 f) := by with_unfolding_all exact L2.QP.e h
end
section
variable {X : Cx} {κ : Str -> Addr} {φ : F0} {st : Stmt} {rest : List Stmt} {f g : PSt -> Option (Fl × PSt)} {pos : Pos}
theorem QT.e {e : Expr} {f : PSt -> Option Bool} (h : PT X e (tQ X.K κ f)) : QTE X κ φ e (za4 f) := by with_unfolding_all exact L2.QT.e h
end
section
variable {X : Cx} {κ : Str -> Addr} {φ : F0} {st : Stmt} {rest : List Stmt} {f g : PSt -> Option (Fl × PSt)} {pos : Pos}
theorem zi5 (i : Nat) {x : Str} {e : Expr} {pos' : Pos} {f : PSt -> Option (D × PSt)} (hN : X.N.Nodup) (hi : X.N[i]? = some x) (hx : Loc X.env.scope x) (hb : φ.bor i = false) (hm : φ.M i = false) (he : QE X κ φ e f) (hs : swapsWith e (some (.Name x pos')) pos.line X.env = pure false := by rfl) (hf : X.fn x = true \/ X.env.scope.names.lookup x = some .local := by first | exact .inl rfl | exact .inr rfl | assumption) :
    QS X κ φ (.Assign [.Name x pos'] e pos) (zb1 i f) := by with_unfolding_all exact L2.zi5 i hN hi hx hb hm he hs hf
end
section
variable {X : Cx} {κ : Str -> Addr} {φ : F0} {st : Stmt} {rest : List Stmt} {f g : PSt -> Option (Fl × PSt)} {pos : Pos}
theorem zm3 {e : Expr} {f : PSt -> Option (D × PSt)} (he : QE X κ φ e f) (hs : swapsWith e none pos.line X.env = pure false := by rfl) : QS X κ φ (.Expr e pos) (zc0 f) := by with_unfolding_all exact L2.zm3 he hs
end
section
variable {X : Cx} {κ : Str -> Addr} {φ : F0} {st : Stmt} {rest : List Stmt} {f g : PSt -> Option (Fl × PSt)} {pos : Pos}
theorem zh6 {e : Expr} {f : PSt -> Option (D × PSt)} (he : QE X κ φ e f) : QS X κ φ (.Return (some e) pos) (zb4 f) := by with_unfolding_all exact L2.zh6 he
end
section
variable {X : Cx} {κ : Str -> Addr} {φ : F0} {st : Stmt} {rest : List Stmt} {f g : PSt -> Option (Fl × PSt)} {pos : Pos}
theorem yl3 (i : Nat) {x : Str} {p : Pos} (hb : φ.bor i = false) (hN : X.N[i]? = some x := by rfl) (hv : Vis X.env.scope x := by first | exact Or.inl rfl | exact Or.inr (Or.inl rfl) | exact Or.inr (Or.inr rfl)) (hd : (x == ("__debug__" : Str)) = false := by decide)
    (hcd : (x == ("__classdict__" : Str)) = false := by decide) : QS X κ φ (.Return (some (.Name x p)) pos) (zj9 i) := by with_unfolding_all exact L2.yl3 i hb hN hv hd hcd
end
section
variable {X : Cx} {κ : Str -> Addr} {φ : F0} {st : Stmt} {rest : List Stmt} {f g : PSt -> Option (Fl × PSt)} {pos : Pos}
theorem zh7 {c : Expr} {a b : List Stmt} {tc : PSt -> Option (Bool × PSt)} (hc : QTE X κ φ c tc) (ha : QSs X κ φ a f) (hb : QSs X κ φ b g) : QS X κ φ (.If c a b pos) (fIf tc f g) := by with_unfolding_all exact L2.zh7 hc ha hb
end
section
variable {X : Cx} {φ : Fx} {pos : Pos} {body : List Stmt} {f : PSt -> Option (Fl × PSt)}
theorem yu3 {κ : Str -> Addr} {φ : F0} (n : Nat) {c : Expr} {tc : PSt -> Option (Bool × PSt)} (hp : PassesOwn (model X.prog X.w) X.A X.env X.xe) (hc : QTE X κ φ c tc) (hb : QSs X κ φ body f) : QS X κ φ (.While c body [] pos) (zw7 tc f n) := by with_unfolding_all exact L2.yu3 n hp hc hb
end
section
theorem QIP.v {X : Cx} {κ : Str -> Addr} {tg iter : Expr} {f : PSt -> Option (List D)} (h : QIP X κ tg iter f) : QIV X κ tg iter f := by with_unfolding_all exact L2.QIP.v h
end
section
variable {X : Cx} {κ : Str -> Addr} {tg l a b : Expr} {f : PSt -> Option D} {g : PSt -> Option (List D)} {p pos : Pos}
theorem zv4 (hg : Gl X "range") (hm : X.mg "range" = none) (ha : QVA X κ [a] g) (hs : starEach [a] X.env = [(false, eval a X.env)] := by rfl) : QIP X κ tg (.Call (.Name "range" p) [a] [] pos) (zk9 g) := by with_unfolding_all exact L2.zv4 hg hm ha hs
end
section
variable {X : Cx} {κ : Str -> Addr} {tg l a b : Expr} {f : PSt -> Option D} {g : PSt -> Option (List D)} {p pos : Pos}
theorem yp5 (hg : Gl X "range") (hm : X.mg "range" = none) (ha : QVA X κ [a, b] g) (hs : starEach [a, b] X.env = [(false, eval a X.env), (false, eval b X.env)] := by rfl) (hs2 : starEach [b] X.env = [(false, eval b X.env)] := by rfl) : QIP X κ tg (.Call (.Name "range" p) [a, b] [] pos) (ys9 g) := by with_unfolding_all exact L2.yp5 hg hm ha hs hs2
end
section
variable {X : Cx} {κ : Str -> Addr} {tg l a b : Expr} {f : PSt -> Option D} {g : PSt -> Option (List D)} {p pos : Pos}
theorem xi5 (h : QP X κ l f) : QIP X κ tg l (zw3 f) := by with_unfolding_all exact L2.xi5 h
end
section
variable {X : Cx} {κ : Str -> Addr} {tg l a b : Expr} {f : PSt -> Option D} {g : PSt -> Option (List D)} {p pos : Pos}
theorem xi6 (h : QV X κ l f) : QIP X κ tg l (ym4 f) := by with_unfolding_all exact L2.xi6 h
end
section
variable {X : Cx} {φ : Fx} {pos : Pos} {body : List Stmt} {f : PSt -> Option (Fl × PSt)}
theorem yc5 {κ : Str -> Addr} {φ : F0} (i : Nat) {x : Str} {px : Pos} {iter : Expr} {fi : PSt -> Option (List D)} (hp : PassesOwn (model X.prog X.w) X.A X.env X.xe) (hc : X.calm = true) (hN : X.N.Nodup) (hi : X.N[i]? = some x) (hx : Loc X.env.scope x) (hb : φ.bor i = false) (hm : φ.M i = false)
    (hit : PI X (.Name x px) iter (tIP X.K κ fi)) (hbd : QSs X κ φ body f) (hs : ∀ x, foldedSetIterable iter X.env x = pure x := by intro _; rfl) (hf : X.fn x = true \/ X.env.scope.names.lookup x = some .local := by first | exact .inl rfl | exact .inr rfl | assumption) :
    QS X κ φ (.For (.Name x px) iter body [] pos) (zl6 i fi f) := by with_unfolding_all exact L2.yc5 i hp hc hN hi hx hb hm hit hbd hs hf
end
section
variable {X : Cx} {φ : Fx} {pos : Pos} {body : List Stmt} {f : PSt -> Option (Fl × PSt)}
theorem xb1 {κ : Str -> Addr} {φ : F0} (i j : Nat) {x y : Str} {px py : Pos} (hp : PassesOwn (model X.prog X.w) X.A X.env X.xe) (hc : X.calm = true) (hN : X.N.Nodup) (hi : X.N[i]? = some x) (hx : Loc X.env.scope x) (hb : φ.bor i = false) (hm : φ.M i = false) (hj : φ.bor j = true)
    (hbd : QSs X κ φ body f) (hNj : X.N[j]? = some y := by rfl) (hv : Vis X.env.scope y := by first | exact Or.inl rfl | exact Or.inr (Or.inl rfl) | exact Or.inr (Or.inr rfl)) (hd : (y == ("__debug__" : Str)) = false := by decide)
    (hcd : (y == ("__classdict__" : Str)) = false := by decide) (hs : ∀ x, foldedSetIterable (.Name y py) X.env x = pure x := by intro _; rfl) (hf : X.fn x = true \/ X.env.scope.names.lookup x = some .local := by first | exact .inl rfl | exact .inr rfl | assumption) :
    QS X κ φ (.For (.Name x px) (.Name y py) body [] pos) (zl6 i (zw3 (za1 j)) f) := by with_unfolding_all exact L2.xb1 i j hp hc hN hi hx hb hm hj hbd hNj hv hd hcd hs hf
end
section
variable {P : Program} {w : World} {K : PySem.W.Frag} {mg : Str -> Option Value} {base : Heap} {κ : Str -> Addr}
theorem zm8 {x qual : Str} {st : Stmt} {f : Addr} {fd : FuncData} {N ps : List Str} {k : Nat} {fb : PSt -> Option (Fl × PSt)} (F : Fun K x qual st f fd) (S : FnScope N ps (zc7 st))
    (hbody : ∀ (cdv : Value) (A : Around) (outer : List Env) (s : Shared) (H : Hp) (E : XK) (B : Nat -> Addr -> Prop), Room k (A.deeper (envOfC qual (zc7 st) s.heap.objs.size f cdv)) ->
      QSs (yk2 CX0 P w K mg base N qual (zc7 st) f cdv A outer s H E).nox κ (f0P ps.length B) (zh3 st) fb) :
    FnOk P w K mg base CX0 (k + 1) f fd ps (SpP ps.length K κ (gP ps.length (N.length - ps.length) fb)) := by with_unfolding_all exact L2.zm8 F S hbody
end
section
variable {X : Cx} {κ : Str -> Addr} {e : Expr} {es : List Expr} {g : PSt -> Option (List D)} {pos p : Pos}
theorem zm9 {x : Str} {st : Stmt} {ps : List Str} {f : Addr} {fd : FuncData} {k np : Nat} {h : List D -> Option D} (Dd : Dn X.K X.mg x st ps f fd) (G : FnOk X.prog X.w X.K X.mg X.base CX0 k f fd ps (SpP np X.K κ h)) (hr : Room k X.A) (hg : Gl X x) (hnp : (e :: es).length = np) (ha : QVA X κ (e :: es) g)
    (hlen : ∀ ps ds, g ps = some ds -> ds.length = (e :: es).length)
    (hdb : (x == ("__debug__" : Str)) = false := by decide) (he : starEach (e :: es) X.env = (false, eval e X.env) :: starEach es X.env := by rfl) (hpl : (backTo pos (starEach es X.env)).any (·.1) = false := by rfl) :
    QP X κ (.Call (.Name x p) (e :: es) [] pos) (za3 h g) := by with_unfolding_all exact L2.zm9 Dd G hr hg hnp ha hlen hdb he hpl
end
section
variable {X : Cx} {κ : Str -> Addr} {sc : Scope} {NX N : List Str} {pick : List (Option Nat)} {elt iter : Expr} {ifs : List Expr} {scope : Scope} {pos px : Pos} {x : Str} {fi : PSt -> Option (List D)} {ft : PSt -> Option Bool} {fe : PSt -> Option D}
theorem yr8 {X : Cx} : PTs X [] (tQ X.K κ ye5) := by with_unfolding_all exact L2.yr8
end
section
variable {X : Cx} {κ : Str -> Addr} {sc : Scope} {NX N : List Str} {pick : List (Option Nat)} {elt iter : Expr} {ifs : List Expr} {scope : Scope} {pos px : Pos} {x : Str} {fi : PSt -> Option (List D)} {ft : PSt -> Option Bool} {fe : PSt -> Option D}
theorem yr9 (S : CScope sc NX N pick scope) (hsc : X.env.scope = sc) (hNX : X.N = NX) (hc : X.calm = true) (hi : QIV X κ (.Name x px) iter fi)
    (hg : ∀ cl fp s H, PG (cxB X N scope cl fp s H) (.Name x px) (yh0 0)) (ht : ∀ cl fp s H, PTs (cxB X N scope cl fp s H) ifs (tQ X.K κ ft)) (he : ∀ cl fp s H, PE (cxB X N scope cl fp s H) elt (tP X.K κ fe))
    (hs : ∀ x, foldedSetIterable iter X.env x = pure x := by intro _; rfl) : QP X κ (.ListComp elt [⟨.Name x px, iter, ifs, 0⟩] scope pos) (yj6 pick fi ft fe) := by with_unfolding_all exact L2.yr9 S hsc hNX hc hi hg ht he hs
end
section
variable {X : Cx} {φ : F0} {κ : Str -> Addr} {K : PySem.W.Frag} {o e a b : Expr} {f fb fe : PSt -> Option D} {g : PSt -> Option (List D)} {pf : PSt -> Option (List Ps1)} {j : Nat} {pos apos : Pos}
theorem zg9 (j : Nat) {x : Str} (hN : X.N[j]? = some x := by rfl) (hv : Vis X.env.scope x := by first | exact Or.inl rfl | exact Or.inr (Or.inl rfl) | exact Or.inr (Or.inr rfl)) (hd : (x == ("__debug__" : Str)) = false := by decide)
    (hcd : (x == ("__classdict__" : Str)) = false := by decide) : PE X (.Name x pos) (zp5 K κ j zb8) := by with_unfolding_all exact L2.zg9 j hN hv hd hcd
end
section
variable {X : Cx} {φ : F0} {κ : Str -> Addr} {K : PySem.W.Frag} {o e a b : Expr} {f fb fe : PSt -> Option D} {g : PSt -> Option (List D)} {pf : PSt -> Option (List Ps1)} {j : Nat} {pos apos : Pos}
theorem zq9 (ha : PE X a (zp5 X.K κ j pf)) (hb : QV X κ b fb) (hs : ye4 b := by exact fun _ _ => rfl) : PE X (.Subscript a b pos) (zp5 X.K κ j (zf7 j pf fb)) := by with_unfolding_all exact L2.zq9 ha hb hs
end
section
variable {X : Cx} {φ : F0} {κ : Str -> Addr} {K : PySem.W.Frag} {o e a b : Expr} {f fb fe : PSt -> Option D} {g : PSt -> Option (List D)} {pf : PSt -> Option (List Ps1)} {j : Nat} {pos apos : Pos}
theorem zr9 {C fn : Str} (hc : Cls X.K (κ C)) (hna : zi1 X.K (κ C) fn) (ha : PE X a (zp5 X.K κ j pf)) (hb : attributeBase a fn X.env (eval a X.env) = eval a X.env := by rfl) : PE X (.Attribute a fn pos) (zp5 X.K κ j (zh0 j pf C fn)) := by with_unfolding_all exact L2.zr9 hc hna ha hb
end
section
variable {X : Cx} {φ : F0} {κ : Str -> Addr} {K : PySem.W.Frag} {o e a b : Expr} {f fb fe : PSt -> Option D} {g : PSt -> Option (List D)} {pf : PSt -> Option (List Ps1)} {j : Nat} {pos apos : Pos}
theorem zm5 (hb : φ.bor j = false) (ho : PE X o (zp5 X.K κ j pf)) (ha : PA X [e] (tPA X.K κ g))
    (hbase : attributeBase o "append" X.env (eval o X.env) = eval o X.env := by rfl)
    (hfew : ((backTo pos (starEach [e] X.env)).all (fun x => !x.1) && (backToKw pos (keywordEach [] X.env)).all (fun x => x.1.isSome)
      && decide ([e].length + ([] : List Keyword).length + (if ([] : List Keyword).isEmpty then 0 else 1) < 30)) = true := by rfl)
    (hline : (apos.endLine == pos.line) = true := by rfl) (hs : starEach [e] X.env = (false, eval e X.env) :: starEach [] X.env := by rfl) (hplain : (backTo pos (starEach [] X.env)).any (·.1) = false := by rfl) :
    QE X κ φ (.Call (.Attribute o "append" apos) [e] [] pos) (zd2 j pf g zb6) := by with_unfolding_all exact L2.zm5 hb ho ha hbase hfew hline hs hplain
end
section
variable {X : Cx} {φ : F0} {κ : Str -> Addr} {K : PySem.W.Frag} {o e a b : Expr} {f fi fe : PSt -> Option D} {g : PSt -> Option (List D)} {pf : PSt -> Option (List Ps1)} {j : Nat} {pos apos : Pos}
theorem yw8 (hb : φ.bor j = false) (ho : PE X o (zp5 X.K κ j pf))
    (hbase : attributeBase o "pop" X.env (eval o X.env) = eval o X.env := by rfl) (hline : (apos.endLine == pos.line) = true := by rfl) : QE X κ φ (.Call (.Attribute o "pop" apos) [] [] pos) (zd2 j pf za2 zj2) := by with_unfolding_all exact L2.yw8 hb ho hbase hline
end
section
variable {X : Cx} {φ : F0} {κ : Str -> Addr} {K : PySem.W.Frag} {o e a b : Expr} {f fi fe : PSt -> Option D} {g : PSt -> Option (List D)} {pf : PSt -> Option (List Ps1)} {j : Nat} {pos apos : Pos}
theorem yu8 {i : Expr} (hb : φ.bor j = false) (he : PE X e (tP X.K κ fe)) (ho : PE X o (zp5 X.K κ j pf)) (hi : PE X i (tV X.K κ fi)) (hs : swapsWithSole [.Subscript o i apos] e pos.line X.env = pure false := by rfl) (hw : swappedStores [.Subscript o i apos] e X.env = pure none := by rfl)
    (h1 : (assignEach [.Subscript o i apos] X.env).map (·.2) = [assign (.Subscript o i apos) X.env] := by rfl)
    (ha : ∀ v, assign (.Subscript o i apos) X.env v = (do
      let ov <- holding [v] (eval o X.env)
      let iv <- holding [v, ov] (eval i X.env)
      standAt apos
      holding [v, ov, iv] (setItem ov iv v)
      release [v, ov, iv] []) := by intro _; rfl) : QS X κ φ (.Assign [.Subscript o i apos] e pos) (zq4 j pf fi fe) := by with_unfolding_all exact L2.yu8 hb he ho hi hs hw h1 ha
end
section
variable {X : Cx} {κ : Str -> Addr} {φ : F0} {es : List Expr} {pos p : Pos} {k : Nat} {is : List Nat} {e : Expr} {f : PSt -> Option (D × PSt)}
theorem yp9 (hc : X.calm = true) (hg : PGs X es (yz3 is)) (he : QE X κ φ e f) (hb : ∀ i ∈ is, φ.bor i = false /\ φ.M i = false) (hn : (assignEach es X.env).length = is.length := by rfl) (hst : (assignEach es X.env).findIdx? (·.1) = none := by rfl)
    (hs : swapsWithSole [.Tuple es k p] e pos.line X.env = pure false := by rfl) (hw : swappedStores [.Tuple es k p] e X.env = pure none := by rfl)
    (h1 : (assignEach [.Tuple es k p] X.env).map (·.2) = [assign (.Tuple es k p) X.env] := by rfl) : QS X κ φ (.Assign [.Tuple es k p] e pos) (yo5 is f) := by with_unfolding_all exact L2.yp9 hc hg he hb hn hst hs hw h1
end
section
variable {P : Program} {w : World} {K : PySem.W.Frag} {mg : Str -> Option Value} {base : Heap} {κ : Str -> Addr}
theorem yj4 {x qual : Str} {st : Stmt} {f : Addr} {fd : FuncData} {N ps : List Str} {k : Nat} {fb : PSt -> Option (Fl × PSt)} {m : Nat -> Bool} (F : Fun K x qual st f fd) (S : FnScope N ps (zc7 st)) (hm : ∀ i, m i = true -> i < ps.length)
    (hbody : ∀ (cdv : Value) (A : Around) (outer : List Env) (s : Shared) (H : Hp) (E : XK), Room k (A.deeper (envOfC qual (zc7 st) s.heap.objs.size f cdv)) ->
      QSs (yk2 CX0 P w K mg base N qual (zc7 st) f cdv A outer s H E).nox κ (f0E ps.length m) (zh3 st) fb) :
    FnOk P w K mg base CX0 (k + 1) f fd ps (SpE ps.length K κ m (gE ps.length (N.length - ps.length) m fb)) := by with_unfolding_all exact L2.yj4 F S hm hbody
end
section
variable {X : Cx} {φ : F0} {κ : Str -> Addr} {e : Expr} {es : List Expr} {as : List L2.Arg} {f : PSt -> Option D} {pos p : Pos}
theorem yb8 : PA X [] (tIO X.K κ []) := by with_unfolding_all exact L2.yb8
end
section
variable {X : Cx} {φ : F0} {κ : Str -> Addr} {e : Expr} {es : List Expr} {as : List L2.Arg} {f : PSt -> Option D} {pos p : Pos}
theorem yq1 (j : Nat) {x : Str} (hr : PA X es (tIO X.K κ as)) (hN : X.N[j]? = some x := by rfl) (hv : Vis X.env.scope x := by first | exact Or.inl rfl | exact Or.inr (Or.inl rfl) | exact Or.inr (Or.inr rfl)) (hd : (x == ("__debug__" : Str)) = false := by decide)
    (hcd : (x == ("__classdict__" : Str)) = false := by decide) (hs : starEach (.Name x pos :: es) X.env = (false, eval (.Name x pos) X.env) :: starEach es X.env := by rfl) : PA X (.Name x pos :: es) (tIO X.K κ (.io j :: as)) := by with_unfolding_all exact L2.yq1 j hr hN hv hd hcd hs
end
section
variable {X : Cx} {φ : F0} {κ : Str -> Addr} {e : Expr} {es : List Expr} {as : List L2.Arg} {f : PSt -> Option D} {pos p : Pos}
theorem yl4 (ha : QV X κ e f) (hr : PA X es (tIO X.K κ as)) (hs : starEach (e :: es) X.env = (false, eval e X.env) :: starEach es X.env := by rfl) : PA X (e :: es) (tIO X.K κ (.im f :: as)) := by with_unfolding_all exact L2.yl4 ha hr hs
end
section
variable {X : Cx} {φ : F0} {κ : Str -> Addr} {e : Expr} {es : List Expr} {as : List L2.Arg} {f : PSt -> Option D} {pos p : Pos}
theorem yx1 {x : Str} {st : Stmt} {ps : List Str} {fa : Addr} {fd : FuncData} {k np : Nat} {m : Nat -> Bool} {g : List D -> Option (D × List D)} (Dd : Dn X.K X.mg x st ps fa fd) (G : FnOk X.prog X.w X.K X.mg X.base CX0 k fa fd ps (SpE np X.K κ m g)) (hr : Room k X.A) (hg : Gl X x) (ha : PA X (e :: es) (tIO X.K κ as))
    (hnp : np = as.length) (hm : m = zy6 as) (nd : (slots as).Nodup) (hb : ∀ j ∈ slots as, φ.bor j = false)
    (hdb : (x == ("__debug__" : Str)) = false := by decide) (he : starEach (e :: es) X.env = (false, eval e X.env) :: starEach es X.env := by rfl) (hpl : (backTo pos (starEach es X.env)).any (·.1) = false := by rfl) :
    QE X κ φ (.Call (.Name x p) (e :: es) [] pos) (fIO as g) := by with_unfolding_all exact L2.yx1 Dd G hr hg ha hnp hm nd hb hdb he hpl
end
section
theorem zz6 {X : Cx} {κ : Str -> Addr} {es : List Expr} {ds : List D} (h : AreD es ds) : QPA X κ es (fKs ds) := by with_unfolding_all exact L2.zz6 h
end
section
variable {X : Cx} {κ : Str -> Addr} {tg b : Expr} {fb : PSt -> Option D} {pos p : Pos} {x : Str} {a : Addr} {ks : List Key} {ds : List D}
theorem ys1 (hg : Gl X x) (hm : X.mg x = some (.ref a)) (hk : yk5 X.prog X.w X.K κ a ks ds) (hb : QV X κ b fb) (hs : xw6 b := by exact fun _ _ => rfl) (hdb : (x == ("__debug__" : Str)) = false := by decide) : QV X κ (.Subscript (.Name x p) b pos) (f2 zt1 (fC (.dic false ks ds)) fb) := by with_unfolding_all exact L2.ys1 hg hm hk hb hs hdb
end
section
variable {X : Cx} {κ : Str -> Addr} {o e : Expr} {C fn : Str} {fo : PSt -> Option D} {pos : Pos}
theorem zr4 (hc : Cls X.K (κ C)) (hna : zi1 X.K (κ C) fn) (ho : QV X κ o fo) (hb : attributeBase o fn X.env (eval o X.env) = eval o X.env := by rfl) : QV X κ (.Attribute o fn pos) (zf9 C fn fo) := by with_unfolding_all exact L2.zr4 hc hna ho hb
end
section
variable {X : Cx} {κ : Str -> Addr} {φ : F0} {o e : Expr} {C fn : Str} {j : Nat} {pf : PSt -> Option (List Ps1)} {fe : PSt -> Option D} {pos pos' : Pos}
theorem zt5 (hc : Cls X.K (κ C)) (hna : zi1 X.K (κ C) fn) (hb : φ.bor j = false) (he : PE X e (tP X.K κ fe)) (ho : PE X o (zp5 X.K κ j pf)) (hs : swapsWith e (some (.Attribute o fn pos')) pos.line X.env = pure false := by rfl) :
    QS X κ φ (.Assign [.Attribute o fn pos'] e pos) (zf4 j pf C fn fe) := by with_unfolding_all exact L2.zt5 hc hna hb he ho hs
end
section
variable {X : Cx} {κ : Str -> Addr} {o e : Expr} {es : List Expr} {C m qual : Str} {st : Stmt} {ps : List Str} {f : Addr} {fd : FuncData} {k np : Nat} {h : List D -> Option D} {fo : PSt -> Option D} {g : PSt -> Option (List D)} {apos pos p : Pos} {pl : Sem Bool}
theorem ys2 (M : Mn X.K κ C m qual st ps f fd) (G : FnOk X.prog X.w X.K X.mg X.base CX0 k f fd ps (SpP np X.K κ h)) (hr : Room k X.A) (ho : QV X κ o fo) (hnp : (e :: es).length + 1 = np) (ha : QVA X κ (e :: es) g) (hlen : ∀ ps ds, g ps = some ds -> ds.length = (e :: es).length)
    (hst : starEach (e :: es) X.env = (false, eval e X.env) :: starEach es X.env := by rfl) (hpl : (backTo pos (starEach es X.env)).any (·.1) = false := by rfl)
    (ht : eval (.Call (.Attribute o m apos) (e :: es) [] pos) X.env = (do
      let ov <- eval o X.env
      standAt apos.atName
      let (f, first) <- holding [ov] (getMethod ov m pl)
      callWith pos f first (backTo pos (starEach (e :: es) X.env)) (backToKw pos (keywordEach [] X.env))) := by rfl) :
    QP X κ (.Call (.Attribute o m apos) (e :: es) [] pos) (za3 h (za0 (zf0 C m fo) g)) := by with_unfolding_all exact L2.ys2 M G hr ho hnp ha hlen hst hpl ht
end
section
variable {X : Cx} {κ : Str -> Addr} {o e : Expr} {es : List Expr} {C m qual : Str} {st : Stmt} {ps : List Str} {f : Addr} {fd : FuncData} {k np : Nat} {h : List D -> Option D} {fo : PSt -> Option D} {g : PSt -> Option (List D)} {apos pos p : Pos} {pl : Sem Bool}
theorem yh9 (M : Mn X.K κ C m qual st ps f fd) (G : FnOk X.prog X.w X.K X.mg X.base CX0 k f fd ps (SpP 1 X.K κ h)) (hr : Room k X.A) (ho : QV X κ o fo)
    (ht : eval (.Call (.Attribute o m apos) [] [] pos) X.env = (do
      let ov <- eval o X.env
      standAt apos.atName
      let (f, first) <- holding [ov] (getMethod ov m pl)
      callWith pos f first (backTo pos (starEach [] X.env)) (backToKw pos (keywordEach [] X.env))) := by rfl) :
    QP X κ (.Call (.Attribute o m apos) [] [] pos) (za3 h (za0 (zf0 C m fo) za2)) := by with_unfolding_all exact L2.yh9 M G hr ho ht
end
section
variable {X : Cx} {κ : Str -> Addr} {φ : F0} {o e : Expr} {es : List Expr} {C m qual : Str} {st : Stmt} {ps : List Str} {f : Addr} {fd : FuncData} {k np j : Nat} {mk : Nat -> Bool} {g : List D -> Option (D × List D)} {pf : PSt -> Option (List Ps1)} {as : List L2.Arg} {apos pos p : Pos} {pl : Sem Bool}
theorem xb6 (M : Mn X.K κ C m qual st ps f fd) (G : FnOk X.prog X.w X.K X.mg X.base CX0 k f fd ps (SpE np X.K κ mk g)) (hr : Room k X.A) (hb : φ.bor j = false) (ho : PE X o (zp5 X.K κ j pf)) (ha : PA X (e :: es) (tIO X.K κ as)) (has : yt0 as = true) (hnp : np = as.length + 1) (hm : mk = zt7)
    (hst : starEach (e :: es) X.env = (false, eval e X.env) :: starEach es X.env := by rfl) (hpl : (backTo pos (starEach es X.env)).any (·.1) = false := by rfl)
    (ht : eval (.Call (.Attribute o m apos) (e :: es) [] pos) X.env = (do
      let ov <- eval o X.env
      standAt apos.atName
      let (f, first) <- holding [ov] (getMethod ov m pl)
      callWith pos f first (backTo pos (starEach (e :: es) X.env)) (backToKw pos (keywordEach [] X.env))) := by rfl) :
    QE X κ φ (.Call (.Attribute o m apos) (e :: es) [] pos) (zd2 j pf (ze2 as) (zx6 C m g)) := by with_unfolding_all exact L2.xb6 M G hr hb ho ha has hnp hm hst hpl ht
end
section
variable {X : Cx} {κ : Str -> Addr} {φ : F0} {o e : Expr} {es : List Expr} {C m qual : Str} {st : Stmt} {ps : List Str} {f : Addr} {fd : FuncData} {k np j : Nat} {mk : Nat -> Bool} {g : List D -> Option (D × List D)} {pf : PSt -> Option (List Ps1)} {as : List L2.Arg} {apos pos p : Pos} {pl : Sem Bool}
theorem yu9 (M : Mn X.K κ C m qual st ps f fd) (G : FnOk X.prog X.w X.K X.mg X.base CX0 k f fd ps (SpE 1 X.K κ mk g)) (hr : Room k X.A) (hb : φ.bor j = false) (ho : PE X o (zp5 X.K κ j pf)) (hm : mk = zt7)
    (ht : eval (.Call (.Attribute o m apos) [] [] pos) X.env = (do
      let ov <- eval o X.env
      standAt apos.atName
      let (f, first) <- holding [ov] (getMethod ov m pl)
      callWith pos f first (backTo pos (starEach [] X.env)) (backToKw pos (keywordEach [] X.env))) := by rfl) :
    QE X κ φ (.Call (.Attribute o m apos) [] [] pos) (zd2 j pf za2 (zx6 C m g)) := by with_unfolding_all exact L2.yu9 M G hr hb ho hm ht
end
section
variable {X : Cx} {κ : Str -> Addr} {e : Expr} {es : List Expr} {C qual : Str} {st : Stmt} {ps : List Str} {f : Addr} {fd : FuncData} {k np : Nat} {mk : Nat -> Bool} {g : List D -> Option (D × List D)} {as : List L2.Arg} {pos p : Pos}
theorem ys3 (Kd : Kn X.K X.mg κ C qual st ps f fd) (G : FnOk X.prog X.w X.K X.mg X.base CX0 k f fd ps (SpE np X.K κ mk g)) (hr : Room (k + 1) X.A) (hg : Gl X C) (ha : PA X (e :: es) (tIO X.K κ as)) (has : yt0 as = true) (hnp : np = as.length + 1) (hm : mk = zt7)
    (hdb : (C == ("__debug__" : Str)) = false := by decide) (he : starEach (e :: es) X.env = (false, eval e X.env) :: starEach es X.env := by rfl) (hpl : (backTo pos (starEach es X.env)).any (·.1) = false := by rfl) :
    QP X κ (.Call (.Name C p) (e :: es) [] pos) (zh9 C (ze2 as) g) := by with_unfolding_all exact L2.ys3 Kd G hr hg ha has hnp hm hdb he hpl
end
section
variable {X : Cx} {κ : Str -> Addr} {e : Expr} {es : List Expr} {C qual : Str} {st : Stmt} {ps : List Str} {f : Addr} {fd : FuncData} {k np : Nat} {mk : Nat -> Bool} {g : List D -> Option (D × List D)} {as : List L2.Arg} {pos p : Pos}
theorem yv0 (Kd : Kn X.K X.mg κ C qual st ps f fd) (G : FnOk X.prog X.w X.K X.mg X.base CX0 k f fd ps (SpE 1 X.K κ mk g)) (hr : Room (k + 1) X.A) (hg : Gl X C) (hm : mk = zt7)
    (hdb : (C == ("__debug__" : Str)) = false := by decide) :
    QP X κ (.Call (.Name C p) [] [] pos) (zh9 C za2 g) := by with_unfolding_all exact L2.yv0 Kd G hr hg hm hdb
end
section
variable {X : Cx} {κ : Str -> Addr} {i : Expr} {fa : PSt -> Option D} {pos p : Pos} {x : Str} {a : Addr} {ks : List Key} {ds : List D}
theorem yq2 (hg : Gl X x) (hm : X.mg x = some (.ref a)) (hk : yk5 X.prog X.w X.K κ a ks ds) (ha : QV X κ i fa) (hdb : (x == ("__debug__" : Str)) = false := by decide) (hmk : behindInMarks .In (.Name x p) = false := by rfl) : QT X κ (.Compare i [.In] [.Name x p] pos) (zk5 ks fa) := by with_unfolding_all exact L2.yq2 hg hm hk ha hdb hmk
end
section
variable {X : Cx} {κ : Str -> Addr}
theorem zy1 : MtR X "str.startswith" (PMt X.K κ zo6) := by with_unfolding_all exact L2.zy1
end
end L3
namespace L3
open PySem PySem.Spec PyProof.Rows L2
noncomputable def top (i : Nat) : Stmt := PySem.Challenge.pw_linepress_k16_read_back.main.body.getD i (.Pass ⟨0, 0, 0, 0⟩)
end L3
namespace My
open PySem PySem.Spec PyProof.Rows L2 L3
variable {P : Program} {w : World} {K : PySem.W.Frag} {mg : Str -> Option Value} {base : Heap} {κ : Str -> Addr}
inductive Leaf where
  | word (x : Str) | gap (x : Str) | stop (c : Int) | fin
inductive Tk where
  | leaf (l : Leaf) | opn | cls | hng (n : Int) | bck | eit | orr | don
inductive Pc where
  | leaf (l : Leaf) | group (r : List Pc) | hang (n : Int) (r : List Pc) | either (rs : List (List Pc))
mutual
noncomputable def zh1 : Pc -> List Tk
  | .leaf l => [.leaf l]
  | .group r => .opn :: (zc6 r ++ [.cls])
  | .hang n r => .hng n :: (zc6 r ++ [.bck])
  | .either rs => .eit :: (zr0 rs ++ [.don])
noncomputable def zc6 : List Pc -> List Tk
  | [] => []
  | p :: r => zh1 p ++ zc6 r
noncomputable def zr0 : List (List Pc) -> List Tk
  | [] => []
  | r :: rs => zc6 r ++ ze4 rs
noncomputable def ze4 : List (List Pc) -> List Tk
  | [] => []
  | r :: rs => .orr :: (zc6 r ++ ze4 rs)
end
theorem yi0 : ∀ r s : List Pc, zc6 (r ++ s) = zc6 r ++ zc6 s
  | [], s => rfl
  | p :: r, s => by
    show zh1 p ++ zc6 (r ++ s) = (zh1 p ++ zc6 r) ++ zc6 s
    rw [yi0 r s, List.append_assoc]
theorem wa8 (p : Pc) : zc6 [p] = zh1 p := by
  show zh1 p ++ [] = zh1 p
  rw [List.append_nil]
noncomputable def wk1 : List (List Pc) -> List Tk
  | [] => []
  | r :: rs => zc6 r ++ .orr :: wk1 rs
structure Fm where
  op : Option Tk
  full : List (List Pc)
  parts : List Pc
noncomputable def opT : Option Tk -> List Tk
  | none => []
  | some t => [t]
noncomputable def flat : List Fm -> List Tk
  | [] => []
  | f :: fs => flat fs ++ (opT f.op ++ (wk1 f.full ++ zc6 f.parts))
noncomputable def put (f : Fm) (p : Pc) : Fm := { f with parts := f.parts ++ [p] }
noncomputable def step : List Fm -> Tk -> Option (List Fm)
  | f :: fs, .leaf l => some (put f (.leaf l) :: fs)
  | fs, .opn => some (⟨some .opn, [], []⟩ :: fs)
  | fs, .hng n => some (⟨some (.hng n), [], []⟩ :: fs)
  | fs, .eit => some (⟨some .eit, [], []⟩ :: fs)
  | ⟨some .eit, full, parts⟩ :: fs, .orr => some (⟨some .eit, full ++ [parts], []⟩ :: fs)
  | ⟨some .opn, _, parts⟩ :: g :: fs, .cls => some (put g (.group parts) :: fs)
  | ⟨some (.hng n), _, parts⟩ :: g :: fs, .bck => some (put g (.hang n parts) :: fs)
  | ⟨some .eit, full, parts⟩ :: g :: fs, .don => if full = [] then none else some (put g (.either (full ++ [parts])) :: fs)
  | _, _ => none
noncomputable def Fm.ok (f : Fm) : Prop := f.op ≠ some .eit -> f.full = []
noncomputable def run (fs : List Fm) : List Tk -> Option (List Fm)
  | [] => some fs
  | t :: ts => (step fs t).bind fun fs' => run fs' ts
noncomputable def yb3 : Fm := ⟨none, [], []⟩
mutual
noncomputable def yb4 : Pc -> Nat
  | .leaf _ => 0
  | .group r => zj3 r + 1
  | .hang _ r => zj3 r + 1
  | .either rs => zr6 rs + 1
noncomputable def zj3 : List Pc -> Nat
  | [] => 0
  | p :: r => max (yb4 p) (zj3 r)
noncomputable def zr6 : List (List Pc) -> Nat
  | [] => 0
  | r :: rs => max (zj3 r) (zr6 rs)
end
theorem yq3 : ∀ (r : List Pc) (p : Pc), zj3 (r ++ [p]) = max (zj3 r) (yb4 p)
  | [], p => by
    exact Nat.max_comm (yb4 p) 0
  | q :: r, p => by
    show max (yb4 q) (zj3 (r ++ [p])) = max (max (yb4 q) (zj3 r)) (yb4 p)
    rw [yq3 r p, Nat.max_assoc]
theorem yn3 : ∀ (rs : List (List Pc)) (r : List Pc), zr6 (rs ++ [r]) = max (zr6 rs) (zj3 r)
  | [], r => by
    exact Nat.max_comm (zj3 r) 0
  | q :: rs, r => by
    show max (zj3 q) (zr6 (rs ++ [r])) = max (max (zj3 q) (zr6 rs)) (zj3 r)
    rw [yn3 rs r, Nat.max_assoc]
theorem xj7 : ∀ {r : List Pc} {p : Pc}, p ∈ r -> yb4 p <= zj3 r
  | q :: r, p, h => by
    show yb4 p <= max (yb4 q) (zj3 r)
    rcases List.mem_cons.mp h with rfl | h
    . exact Nat.le_max_left _ _
    . exact Nat.le_trans (xj7 h) (Nat.le_max_right _ _)
theorem xe0 : ∀ {rs : List (List Pc)} {r : List Pc}, r ∈ rs -> zj3 r <= zr6 rs
  | q :: rs, r, h => by
    show zj3 r <= max (zj3 q) (zr6 rs)
    rcases List.mem_cons.mp h with rfl | h
    . exact Nat.le_max_left _ _
    . exact Nat.le_trans (xe0 h) (Nat.le_max_right _ _)
noncomputable def zr7 (g : Fm) (r : List Pc) : Fm := { g with parts := g.parts ++ r }
noncomputable def yh1 (c : Nat) : Bool := decide (33 <= c) && decide (c <= 126)
noncomputable def yf9 (z : Str) : Prop := 1 <= z.length /\ z.length <= 12 /\ z.cps.toList.all yh1 = true
noncomputable def zv1 : Leaf -> Prop
  | .word x => yf9 x
  | .gap x => x = "" \/ x = " "
  | .stop c => 0 <= c /\ c <= 40
  | .fin => True
noncomputable def yb5 : Tk -> Prop
  | .leaf l => zv1 l
  | .hng n => 0 <= n /\ n <= 12
  | _ => True
end My
namespace My
open PySem PySem.Spec PyProof.Rows L2 L3
variable {P : Program} {w : World} {K : PySem.W.Frag} {mg : Str -> Option Value} {base : Heap} {κ : Str -> Addr}
noncomputable def yq9 (ns : List Int) (k : Int) : Int := ns.getD (k % (ns.length : Int)).toNat 0
noncomputable def yz4 (ns : List Int) (k : Int) : Int := k / (if (ns.length : Int) > 1 then (ns.length : Int) else 1)
noncomputable def wv6 (ns : List Int) (k salt : Int) : Int := PySem.Builtin.bitAnd (yq9 ns k) 2147483647 + 1009 * k * k + 7919 * salt * salt + 12
noncomputable def yt1 (ns : List Int) (k salt : Int) : Int := wv6 ns k salt * 48271 % 2147483647
noncomputable def wk2 (ns : List Int) (k salt : Int) : Int := yt1 ns k salt * yt1 ns k salt % 2147483629
noncomputable def yo6 (ns : List Int) (k salt : Int) : Int := PySem.Builtin.bitAnd (yq9 ns k / 2 ^ (31 * (salt + 128 * yz4 ns k)).toNat + wk2 ns k salt) 2147483647
theorem xn9 (ns : List Int) (k salt : Int) : 0 <= yo6 ns k salt /\ yo6 ns k salt < 2147483648 := by
  have e : yo6 ns k salt = (yq9 ns k / 2 ^ (31 * (salt + 128 * yz4 ns k)).toNat + wk2 ns k salt) % 2147483648 := PySem.W.kbt_mask _ 31
  rw [e]
  exact ⟨Int.emod_nonneg _ (by decide), Int.emod_lt_of_pos _ (by decide)⟩
noncomputable def we1 (K : PySem.W.Frag) : Sp := fun vs H Q _ => ∃ (a : Addr) (ns : List Int) (k : Int), vs = [.ref a, .int k] /\ SqL K H a (ns.map V.int) /\ Q (.int (yq9 ns k)) H
noncomputable def xs1 (K : PySem.W.Frag) : Sp := fun vs H Q _ => ∃ (a : Addr) (ns : List Int) (k salt : Int), vs = [.ref a, .int k, .int salt] /\ SqL K H a (ns.map V.int) /\ ns.length <= 63 /\ (0 <= k /\ k < 1000000) /\ (0 <= salt /\ salt < 1000000) /\ Q (.int (yo6 ns k salt)) H
noncomputable abbrev zs6 : Stmt := top 28
theorem xj8 : FnScope ["_law_script", "_law_k"] ["_law_script", "_law_k"] (zc7 zs6) := ⟨rfl, rfl, rfl, by decide +kernel, rfl, by decide +kernel, by decide +kernel⟩
theorem xj9 {n : Nat} {f : Addr} {fd : FuncData} (D : Dn K mg "_law_cell_at" zs6 ["_law_script", "_law_k"] f fd) (z_len : mg "len" = none) :
    FnOk P w K mg base CX0 (n + 1) f fd ["_law_script", "_law_k"] (we1 K) := by
  refine D.F.ok xj8 (fun vs H Q E h => ?_) (fun cdv A outer s H vs Q E hr h => ?_)
  . obtain ⟨a, ns, k, rfl, _⟩ := h
    rfl
  obtain ⟨a, ns, k, rfl, hS, q⟩ := h
  refine ⟨_, (ya8 (wj0 (xp2 xs6 (yh5 zu8 rfl z_len boot_len (zp6 (pv 0) yc1)) zs3 (zg1 _)) (yr4 (yp2 zs3)) xo7)
    (yr4 (yp2 (xf6 xa8 (pv 0) (zp9 yw1 (pv 1) (yh5 zu8 rfl z_len boot_len (zp6 (pv 0) yc1))) (fun _ _ => rfl))))), ?_⟩
  have hl : (ns.map V.int).length = ns.length := List.length_map _
  refine ⟨_, rfl, a, _, rfl, .inl hS, rfl, _, rfl, ?_⟩
  refine wy5 (fun c => ?_) (fun c => ?_)
  . have e : (((ns.map V.int).length : Nat) : Int) = 0 := by simpa using c
    have e' : ns = [] := by
      rw [hl] at e
      exact List.eq_nil_of_length_eq_zero (by omega)
    subst e'
    exact q
  . have e : ¬ (((ns.map V.int).length : Nat) : Int) = 0 := by simpa using c
    rw [hl] at e
    have hp : (0 : Int) < ((ns.map V.int).length : Nat) := by rw [hl]; omega
    refine ⟨_, rfl, _, rfl, _, rfl, a, _, rfl, .inl hS, _, _, rfl, rfl, hp, a, _, _, _, rfl, rfl, hS, ?_, q⟩
    rw [hl]
    have h0 := Int.emod_nonneg k e
    have h1 := Int.emod_lt_of_pos k (show (0 : Int) < ns.length by omega)
    have ek : k % (ns.length : Int) = (((k % (ns.length : Int)).toNat : Nat) : Int) := by omega
    rw [ek]
    refine xa7 ?_
    rw [List.getElem?_map, List.getElem?_eq_getElem (by omega)]
    unfold yq9
    rw [List.getD_eq_getElem?_getD, List.getElem?_eq_getElem (by omega)]
    rfl
noncomputable abbrev zt8 : Stmt := top 29
theorem zz7 : FnScope ["_law_script", "_law_k", "_law_salt", "_law_cell", "_law_lap", "_law_near"] ["_law_script", "_law_k", "_law_salt"] (zc7 zt8) := ⟨rfl, rfl, rfl, by decide +kernel, rfl, by decide +kernel, by decide +kernel⟩
theorem xu6 {n : Nat} {f f1 : Addr} {fd fd1 : FuncData} (D : Dn K mg "_law_mixed" zt8 ["_law_script", "_law_k", "_law_salt"] f fd) (D_l_cell_at : Dn K mg "_law_cell_at" zs6 ["_law_script", "_law_k"] f1 fd1)
    (G_l_cell_at : FnOk P w K mg base CX0 n f1 fd1 ["_law_script", "_law_k"] (we1 K)) (z_len : mg "len" = none) (z_max : mg "max" = none) :
    FnOk P w K mg base CX0 (n + 1) f fd ["_law_script", "_law_k", "_law_salt"] (xs1 K) := by
  refine D.F.ok zz7 (fun vs H Q E h => ?_) (fun cdv A outer s H vs Q E hr h => ?_)
  . obtain ⟨a, ns, k, salt, rfl, _⟩ := h
    rfl
  obtain ⟨a, ns, k, salt, rfl, hS, h63, ⟨hk0, hk1⟩, ⟨hs0, hs1⟩, q⟩ := h
  refine ⟨_, (ya8 (yk9 (i := 3) zz7.nd rfl (by first | exact Or.inl rfl | exact Or.inr rfl) (xt5 D_l_cell_at G_l_cell_at hr rfl (zp6 (pv 0) (zp6 (pv 1) yc1))))
    (ya8 (yk9 (i := 4) zz7.nd rfl (by first | exact Or.inl rfl | exact Or.inr rfl) (zp9 xo8 (pv 1) (yh5 (xy2 rfl) rfl z_max boot_max (zp6 zs3 (zp6 (yh5 zu8 rfl z_len boot_len (zp6 (pv 0) yc1)) yc1)))))
    (ya8 (yk9 (i := 5) zz7.nd rfl (by first | exact Or.inl rfl | exact Or.inr rfl) (zp9 yl0 (zp9 yl0 (zp9 yl0 (zp9 xx9 (pv 3) zs3) (zp9 yc0 (zp9 yc0 zs3 (pv 1)) (pv 1))) (zp9 yc0 (zp9 yc0 zs3 (pv 2)) (pv 2))) zs3))
    (ya8 (yk9 (i := 5) zz7.nd rfl (by first | exact Or.inl rfl | exact Or.inr rfl) (zp9 yw1 (zp9 yc0 (pv 5) zs3) zs3))
    (ya8 (yk9 (i := 5) zz7.nd rfl (by first | exact Or.inl rfl | exact Or.inr rfl) (zp9 yw1 (zp9 yc0 (pv 5) (pv 5)) zs3))
    (yr4 (yp2 (zp9 xx9 (zp9 yl0 (zp9 wq0 (pv 3) (zp9 yc0 zs3 (zp9 yl0 (pv 2) (zp9 yc0 zs3 (pv 4))))) (pv 5)) zs3)))))))), ?_⟩
  have hl : (ns.map V.int).length = ns.length := List.length_map _
  have hlap : 0 <= yz4 ns k := by unfold yz4; exact Int.ediv_nonneg hk0 (by split <;> omega)
  have hn1 : 0 <= yt1 ns k salt /\ yt1 ns k salt < 2147483647 := ⟨Int.emod_nonneg _ (by decide), Int.emod_lt_of_pos _ (by decide)⟩
  refine ⟨_, rfl, _, rfl, a, ns, k, rfl, hS, ?_⟩
  refine ⟨_, rfl, _, rfl, a, _, rfl, .inl hS, _, _, rfl, _, _, rfl, rfl, ?_, ?_⟩
  . rw [hl]; constructor
    . split <;> omega
    . split <;> omega
  rw [hl]
  refine ⟨_, rfl, _, _, rfl, rfl, _, rfl, _, _, rfl, rfl, .inl ⟨by decide, by decide⟩, _, rfl, _, _, rfl, rfl, .inr ⟨by omega, by omega⟩, _, _, rfl, rfl, _, rfl, _, _, rfl, rfl, .inl ⟨by decide, by decide⟩, _, rfl, _, _, rfl, rfl, .inr ⟨by omega, by omega⟩, _, _, rfl, rfl, _, _, rfl, rfl, ?_⟩
  refine ⟨_, rfl, _, _, rfl, rfl, .inr ⟨by decide, by decide⟩, _, _, rfl, rfl, (by show (0 : Int) < 2147483647; decide), ?_⟩
  refine ⟨_, rfl, _, rfl, _, _, rfl, rfl, .inl ⟨by show -(2 ^ 64) < yt1 ns k salt; omega, by show yt1 ns k salt < 2 ^ 64; omega⟩, _, _, rfl, rfl, (by show (0 : Int) < 2147483629; decide), ?_⟩
  refine ⟨_, rfl, _, rfl, _, rfl, _, _, rfl, rfl, .inl ⟨by decide, by decide⟩, _, _, rfl, rfl, _, _, rfl, rfl, .inl ⟨by decide, by decide⟩, _, _, rfl, rfl, ?_, _, rfl, _, _, rfl, rfl, _, _, rfl, rfl, q⟩
  show 0 <= 31 * (salt + 128 * yz4 ns k)
  omega
end My
namespace L3
open PySem PySem.Spec PyProof.Rows L2 My
variable {P : Program} {w : World} {K : PySem.W.Frag} {mg : Str -> Option Value} {base : Heap} {κ : Str -> Addr}
noncomputable abbrev zl7 : List Key := [.inr "close", .inr "back", .inr "or", .inr "done"]
noncomputable abbrev zy7 : List D := [(.str "open"), (.str "hang"), (.str "either"), (.str "either")]
noncomputable abbrev zo0 : List Key := [.inr "_", .inr ".", .inr "/", .inr "[", .inr "]", .inr "<", .inr "{", .inr "|", .inr "}"]
noncomputable abbrev yb6 : List D := [(.tup [(.str "gap"), (.str " ")]), (.tup [(.str "gap"), (.str "")]), (.tup [(.str "end")]), (.tup [(.str "open")]), (.tup [(.str "close")]), (.tup [(.str "back")]), (.tup [(.str "either")]), (.tup [(.str "or")]), (.tup [(.str "done")])]
noncomputable def yr0  : PSt -> Option (Fl × PSt) :=
  (za9 (fIf (za4 (zd7 (fT (za3 zj8 (za0 (za1 0) (za0 (fC (.ty "str")) za2))))))
   (zb4 (za5 (fC (.bl false))))
   za7)
  (za9 (fIf (za4 (zh4 (fB (f2 dLt (za3 zb9 (za0 (za1 0) za2)) (fC (.int 1)))) (fB (f2 dGt (za3 zb9 (za0 (za1 0) za2)) (fC (.int 12))))))
   (zb4 (za5 (fC (.bl false))))
   za7)
  (zb4 (za5 (za3 xm9 (za0 (yj6 [none] (ym4 (za1 0)) ye5 (zj7 (f2 dLe (fC (.str "!")) (za1 0)) (f2 dLe (za1 0) (fC (.str "~"))))) za2))))))
noncomputable abbrev zq5 : Stmt := top 5
theorem xk0 : FnScope ["thing"] ["thing"] (zc7 zq5) := ⟨rfl, rfl, rfl, by decide +kernel, rfl, by decide +kernel, by decide +kernel⟩
theorem xk1 {n : Nat} {f : Addr} {fd : FuncData} {t_LONGEST_WORD : Tok} (D_p_is_word : Dn K mg "is_word" zq5 ["thing"] f fd)
    (z_all : mg "all" = none)
    (z_isinstance : mg "isinstance" = none)
    (z_str : mg "str" = none)
    (z_len : mg "len" = none)
    (g_LONGEST_WORD : mg "LONGEST_WORD" = some (.int 12 t_LONGEST_WORD)) :
    FnOk P w K mg base CX0 (n + 1) f fd ["thing"] (SpP 1 K κ (gP 1 0 (yr0 ))) :=
  zm8 D_p_is_word.F xk0 fun cdv A outer s H E B hr =>
  (zc4 (zh7 (QT.e (yl1 (zw6 (QP.v (zi7 yg9 rfl z_isinstance boot_isinstance (zb0 (za6 0) (zb0 (QP.v (yg7 rfl z_str boot_str)) zd0)))))))
   (zc5 (zh6 (QP.e yc2)))
   zg5)
  (zc4 (zh7 (QT.e (ym7 (xf8 (zh2 (yg2 (Room.units0 hr)) (QP.v (zi7 zt3 rfl z_len boot_len (zb0 (za6 0) zd0))) (QP.v zb5) (zg1 _)) (yw5 (zh2 yu1 (QP.v (zi7 zt3 rfl z_len boot_len (zb0 (za6 0) zd0))) (QP.v (zq7 (v := .int 12) (d := .int 12) rfl g_LONGEST_WORD ⟨_, rfl⟩ (fun _ => .int 12))) (zg1 _))))))
   (zc5 (zh6 (QP.e yc2)))
   zg5)
  (zc5 (zh6 (QP.e (zi7 (xu4 rfl) rfl z_all boot_all (zb0 (QP.v (yr9 (sc := zc7 zq5) (NX := ["thing"]) (N := ["sign"]) (pick := [none]) ⟨rfl, by decide +kernel, by decide +kernel, by decide +kernel, by decide +kernel, by decide, rfl⟩ rfl rfl rfl (QIP.v (xi6 (za6 0))) (fun _ _ _ _ => (zw9 (i := 0) (show (["sign"] : List Str).Nodup by decide) rfl (by first | exact Or.inl rfl | exact Or.inr rfl))) (fun _ _ _ _ => yr8) (fun _ _ _ _ => (yh6 (zx9 xi0 (QP.v zf1) (za6 0) (zg1 _)) (yl2 (zx9 xi0 (za6 0) (QP.v zf1) (zg1 _))))))) zd0)))))))
noncomputable def yg5  : PSt -> Option (Fl × PSt) :=
  (za9 (zl6 3 (zk9 (za0 (f2 zc2 (za1 2) (fC (.int 1))) za2))
   (fIf (za4 (fB (f2 dEq (za1 1) (za3 zl8 (za0 (za1 3) za2)))))
   (zb4 (za5 (zd3 (za0 (zb3 (za1 0)) (za0 (zb3 (za1 3)) za2)))))
   za7))
  (zb4 (za5 (fC .non))))
noncomputable abbrev zn1 : Stmt := top 22
theorem yg4 : FnScope ["kind", "figures", "most", "number"] ["kind", "figures", "most"] (zc7 zn1) := ⟨rfl, rfl, rfl, by decide +kernel, rfl, by decide +kernel, by decide +kernel⟩
theorem yt4 {n : Nat} {f : Addr} {fd : FuncData}  (D_p_number_token : Dn K mg "number_token" zn1 ["kind", "figures", "most"] f fd)
    (z_range : mg "range" = none)
    (z_str : mg "str" = none) :
    FnOk P w K mg base CX0 (n + 1) f fd ["kind", "figures", "most"] (SpP 3 K κ (gP 3 1 (yg5 ))) :=
  zm8 D_p_number_token.F yg4 fun cdv A outer s H E B hr =>
  (zc4 (yc5 3 PassesOwn.never rfl yg4.nd rfl (by first | exact Or.inl rfl | exact Or.inr rfl) rfl rfl (zv4 rfl z_range (zb0 (QP.v (zg4 zn2 (za6 2) (QP.v zb5))) zd0))
   (zc5 (zh7 (QT.e (zh2 (zo8 (Room.units hr)) (za6 1) (QP.v (zl9 yw6 rfl z_str boot_str (zb0 (za6 3) zd0))) (zg1 _)))
   (zc5 (zh6 (QP.e (zk8 (zb7 (QV.p (za6 0)) (zb7 (QV.p (za6 3)) ze0))))))
   zg5)))
  (zc5 (zh6 (QP.e yp4))))
noncomputable def zw8 (g_p_number_token : (List D -> Option D)) (g_p_is_word : (List D -> Option D)) : PSt -> Option (Fl × PSt) :=
  (za9 (fIf (za4 (zk5 zo0 (za1 0)))
   (zb4 (za5 (zb3 (f2 zt1 (fC (.dic false zo0 yb6)) (za1 0)))))
   za7)
  (za9 (fIf (za4 (fT (fMt zo6 (za1 0) (za0 (fC (.str "\x40")) za2))))
   (zb4 (za5 (za3 g_p_number_token (za0 (fC (.str "stop")) (za0 (fSl (za1 0) (ya2 (fC (.int 1))) zs1) (za0 (fC (.int 40)) za2))))))
   za7)
  (za9 (fIf (za4 (fT (fMt zo6 (za1 0) (za0 (fC (.str ">")) za2))))
   (zb4 (za5 (za3 g_p_number_token (za0 (fC (.str "hang")) (za0 (fSl (za1 0) (ya2 (fC (.int 1))) zs1) (za0 (fC (.int 12)) za2))))))
   za7)
  (za9 (fIf (za4 (ze5 (fT (fMt zo6 (za1 0) (za0 (fC (.str "'")) za2))) (fT (za3 g_p_is_word (za0 (fSl (za1 0) (ya2 (fC (.int 1))) zs1) za2)))))
   (zb4 (za5 (zd3 (za0 (fC (.str "word")) (za0 (fSl (za1 0) (ya2 (fC (.int 1))) zs1) za2)))))
   za7)
  (zb4 (za5 (fC .non)))))))
noncomputable abbrev zr1 : Stmt := top 23
theorem xf0 : FnScope ["part"] ["part"] (zc7 zr1) := ⟨rfl, rfl, rfl, by decide +kernel, rfl, by decide +kernel, by decide +kernel⟩
theorem xf1 {n : Nat} {f : Addr} {fd : FuncData} {g_p_number_token : (List D -> Option D)} {f_p_number_token : Addr} {fd_p_number_token : FuncData} {g_p_is_word : (List D -> Option D)} {f_p_is_word : Addr} {fd_p_is_word : FuncData} {t_FURTHEST_STOP : Tok} {t_WIDEST_HANG : Tok} {a_SIGNS : Addr} {t_WORD_SIGN : Tok} {t_STOP_SIGN : Tok} {t_HANG_SIGN : Tok} (D_p_token_of : Dn K mg "token_of" zr1 ["part"] f fd)
    (D_p_number_token : Dn K mg "number_token" zn1 ["kind", "figures", "most"] f_p_number_token fd_p_number_token) (G_p_number_token : FnOk P w K mg base CX0 n f_p_number_token fd_p_number_token ["kind", "figures", "most"] (SpP 3 K κ g_p_number_token))
    (D_p_is_word : Dn K mg "is_word" zq5 ["thing"] f_p_is_word fd_p_is_word) (G_p_is_word : FnOk P w K mg base CX0 n f_p_is_word fd_p_is_word ["thing"] (SpP 1 K κ g_p_is_word))
    (g_FURTHEST_STOP : mg "FURTHEST_STOP" = some (.int 40 t_FURTHEST_STOP))
    (g_WIDEST_HANG : mg "WIDEST_HANG" = some (.int 12 t_WIDEST_HANG))
    (g_SIGNS : mg "SIGNS" = some (.ref a_SIGNS)) (k_SIGNS : yk5 P w K κ a_SIGNS zo0 yb6)
    (g_WORD_SIGN : mg "WORD_SIGN" = some (.str "'" t_WORD_SIGN))
    (g_STOP_SIGN : mg "STOP_SIGN" = some (.str "\x40" t_STOP_SIGN))
    (g_HANG_SIGN : mg "HANG_SIGN" = some (.str ">" t_HANG_SIGN)) :
    FnOk P w K mg base CX0 (n + 1) f fd ["part"] (SpP 1 K κ (gP 1 0 (zw8 g_p_number_token g_p_is_word))) :=
  zm8 D_p_token_of.F xf0 fun cdv A outer s H E B hr =>
  (zc4 (zh7 (QT.e (yq2 rfl g_SIGNS k_SIGNS (za6 0)))
   (zc5 (zh6 (QP.e (QV.p (ys1 rfl g_SIGNS k_SIGNS (za6 0))))))
   zg5)
  (zc4 (zh7 (QT.e (zw6 (QP.v (ym9 PySem.F.slot_str_startswith PySem.F.type_str_startswith zy1 (za6 0) (zb0 (QP.v (zq7 (v := .str "\x40") (d := .str "\x40") rfl g_STOP_SIGN ⟨_, rfl⟩ (fun _ => .str "\x40"))) zd0)))))
   (zc5 (zh6 (QP.e (zm9 D_p_number_token G_p_number_token hr rfl rfl (zb0 (QP.v zf1) (zb0 (QP.v (yd6 (za6 0) (yh3 (QP.v zb5)) yh2)) (zb0 (QP.v (zq7 (v := .int 40) (d := .int 40) rfl g_FURTHEST_STOP ⟨_, rfl⟩ (fun _ => .int 40))) zd0))) (ze9 (ze9 (ze9 zk1)))))))
   zg5)
  (zc4 (zh7 (QT.e (zw6 (QP.v (ym9 PySem.F.slot_str_startswith PySem.F.type_str_startswith zy1 (za6 0) (zb0 (QP.v (zq7 (v := .str ">") (d := .str ">") rfl g_HANG_SIGN ⟨_, rfl⟩ (fun _ => .str ">"))) zd0)))))
   (zc5 (zh6 (QP.e (zm9 D_p_number_token G_p_number_token hr rfl rfl (zb0 (QP.v zf1) (zb0 (QP.v (yd6 (za6 0) (yh3 (QP.v zb5)) yh2)) (zb0 (QP.v (zq7 (v := .int 12) (d := .int 12) rfl g_WIDEST_HANG ⟨_, rfl⟩ (fun _ => .int 12))) zd0))) (ze9 (ze9 (ze9 zk1)))))))
   zg5)
  (zc4 (zh7 (QT.e (ym7 (yf5 (zw6 (QP.v (ym9 PySem.F.slot_str_startswith PySem.F.type_str_startswith zy1 (za6 0) (zb0 (QP.v (zq7 (v := .str "'") (d := .str "'") rfl g_WORD_SIGN ⟨_, rfl⟩ (fun _ => .str "'"))) zd0)))) (yd5 (zw6 (QP.v (zm9 D_p_is_word G_p_is_word hr rfl rfl (zb0 (QP.v (yd6 (za6 0) (yh3 (QP.v zb5)) yh2)) zd0) (ze9 zk1))))))))
   (zc5 (zh6 (QP.e (zk8 (zb7 zf1 (zb7 (yd6 (za6 0) (yh3 (QP.v zb5)) yh2) ze0))))))
   zg5)
  (zc5 (zh6 (QP.e yp4)))))))
noncomputable def yp0  : PSt -> Option (Fl × PSt) :=
  (za9 (fIf (za4 (fB (f2 dEq (za1 0) (fC (.str "")))))
   (zb4 (za5 (zc3 za2)))
   za7)
  (zb4 (za5 (fMt ym3 (za1 0) (za0 (fC (.str " ")) za2)))))
noncomputable abbrev zr2 : Stmt := top 24
theorem xf2 : FnScope ["text"] ["text"] (zc7 zr2) := ⟨rfl, rfl, rfl, by decide +kernel, rfl, by decide +kernel, by decide +kernel⟩
theorem xf3 {n : Nat} {f : Addr} {fd : FuncData}  (D_p_parts_of : Dn K mg "parts_of" zr2 ["text"] f fd)
     :
    FnOk P w K mg base CX0 (n + 1) f fd ["text"] (SpP 1 K κ (gP 1 0 (yp0 ))) :=
  zm8 D_p_parts_of.F xf2 fun cdv A outer s H E B hr =>
  (zc4 (zh7 (QT.e (zh2 (zo8 (Room.units hr)) (za6 0) (QP.v zf1) (zg1 _)))
   (zc5 (zh6 (QP.e (zk0 ze0))))
   zg5)
  (zc5 (zh6 (QP.e (ym9 PySem.F.slot_str_split PySem.F.type_str_split xb0 (za6 0) (zb0 (QP.v zf1) zd0))))))
noncomputable def zs7 (g_p_token_of : (List D -> Option D)) (g_Builder_add : (List D -> Option (D × List D))) : PSt -> Option (Fl × PSt) :=
  (za9 (zb1 2 (za5 (za3 g_p_token_of (za0 (za1 1) za2))))
  (za9 (fIf (za4 (fB (f2 dIs (za1 2) (fC .non))))
   yd1
   za7)
  (zc0 (zd2 0 zb8 (ze2 [.im (za1 2)]) (zx6 "Builder" "add" g_Builder_add)))))
noncomputable abbrev zo1 : Stmt := top 25
theorem yi1 : FnScope ["builder", "part", "token"] ["builder", "part"] (zc7 zo1) := ⟨rfl, rfl, rfl, by decide +kernel, rfl, by decide +kernel, by decide +kernel⟩
theorem yv1 {n : Nat} {f : Addr} {fd : FuncData} {g_p_token_of : (List D -> Option D)} {f_p_token_of : Addr} {fd_p_token_of : FuncData} {g_Builder_add : (List D -> Option (D × List D))} {f_Builder_add : Addr} {fd_Builder_add : FuncData} (D_p_add_written : Dn K mg "add_written" zo1 ["builder", "part"] f fd)
    (D_p_token_of : Dn K mg "token_of" zr1 ["part"] f_p_token_of fd_p_token_of) (G_p_token_of : FnOk P w K mg base CX0 n f_p_token_of fd_p_token_of ["part"] (SpP 1 K κ g_p_token_of))
    (M_Builder_add : Mn K κ "Builder" "add" "Builder.add" zp7 ["self", "token"] f_Builder_add fd_Builder_add) (G_Builder_add : FnOk P w K mg base CX0 n f_Builder_add fd_Builder_add ["self", "token"] (SpE 2 K κ (zf2 [true, false]) g_Builder_add)) :
    FnOk P w K mg base CX0 (n + 1) f fd ["builder", "part"] (SpE 2 K κ (zf2 [true, false]) (gE 2 1 (zf2 [true, false]) (zs7 g_p_token_of g_Builder_add))) :=
  yj4 D_p_add_written.F yi1 (fun i hi => yd8 hi) fun cdv A outer s H E hr =>
  (zc4 (zi5 2 yi1.nd rfl (by first | exact Or.inl rfl | exact Or.inr rfl) rfl rfl (QP.e (zm9 D_p_token_of G_p_token_of hr rfl rfl (zb0 (za6 1) zd0) (ze9 zk1))))
  (zc4 (zh7 (QT.e (zh2 wg0 (za6 2) (QP.v yp4) (zg1 _)))
   (zc5 yh7)
   zg5)
  (zc5 (zm3 (xb6 M_Builder_add G_Builder_add hr rfl (zg9 0) (yl4 (za6 2) yb8) rfl rfl (yc7 1))))))
noncomputable def yr1 (g_Builder_init : (List D -> Option (D × List D))) (g_p_parts_of : (List D -> Option D)) (g_p_add_written : (List D -> Option (D × List D))) (g_Builder_whole_row : (List D -> Option D)) : PSt -> Option (Fl × PSt) :=
  (za9 (zb1 1 (za5 (zh9 "Builder" za2 g_Builder_init)))
  (za9 (zl6 2 (zw3 (za3 g_p_parts_of (za0 (za1 0) za2)))
   (zc0 (fIO [.io 1, .im (za1 2)] g_p_add_written)))
  (zb4 (za5 (za3 g_Builder_whole_row (za0 (zf0 "Builder" "whole_row" (za1 1)) za2))))))
noncomputable abbrev zy8 : Stmt := top 26
theorem yq4 : FnScope ["text", "builder", "part"] ["text"] (zc7 zy8) := ⟨rfl, rfl, rfl, by decide +kernel, rfl, by decide +kernel, by decide +kernel⟩
theorem wa9 {n : Nat} {f : Addr} {fd : FuncData} {g_Builder_init : (List D -> Option (D × List D))} {f_Builder_init : Addr} {fd_Builder_init : FuncData} {g_p_parts_of : (List D -> Option D)} {f_p_parts_of : Addr} {fd_p_parts_of : FuncData} {g_p_add_written : (List D -> Option (D × List D))} {f_p_add_written : Addr} {fd_p_add_written : FuncData} {g_Builder_whole_row : (List D -> Option D)} {f_Builder_whole_row : Addr} {fd_Builder_whole_row : FuncData} (D_p_read : Dn K mg "read" zy8 ["text"] f fd)
    (K_Builder : Kn K mg κ "Builder" "Builder.__init__" zp2 ["self"] f_Builder_init fd_Builder_init) (G_Builder_init : FnOk P w K mg base CX0 n f_Builder_init fd_Builder_init ["self"] (SpE 1 K κ (zf2 [true]) g_Builder_init))
    (D_p_parts_of : Dn K mg "parts_of" zr2 ["text"] f_p_parts_of fd_p_parts_of) (G_p_parts_of : FnOk P w K mg base CX0 (n + 1) f_p_parts_of fd_p_parts_of ["text"] (SpP 1 K κ g_p_parts_of))
    (D_p_add_written : Dn K mg "add_written" zo1 ["builder", "part"] f_p_add_written fd_p_add_written) (G_p_add_written : FnOk P w K mg base CX0 (n + 1) f_p_add_written fd_p_add_written ["builder", "part"] (SpE 2 K κ (zf2 [true, false]) g_p_add_written))
    (M_Builder_whole_row : Mn K κ "Builder" "whole_row" "Builder.whole_row" zl4 ["self"] f_Builder_whole_row fd_Builder_whole_row) (G_Builder_whole_row : FnOk P w K mg base CX0 (n + 1) f_Builder_whole_row fd_Builder_whole_row ["self"] (SpP 1 K κ g_Builder_whole_row)) :
    FnOk P w K mg base CX0 ((n + 1) + 1) f fd ["text"] (SpP 1 K κ (gP 1 2 (yr1 g_Builder_init g_p_parts_of g_p_add_written g_Builder_whole_row))) :=
  zm8 D_p_read.F yq4 fun cdv A outer s H E B hr =>
  (zc4 (zi5 1 yq4.nd rfl (by first | exact Or.inl rfl | exact Or.inr rfl) rfl rfl (QP.e (yv0 K_Builder G_Builder_init hr rfl (yc7 0))))
  (zc4 (yc5 2 PassesOwn.never rfl yq4.nd rfl (by first | exact Or.inl rfl | exact Or.inr rfl) rfl rfl (xi5 (zm9 D_p_parts_of G_p_parts_of hr rfl rfl (zb0 (za6 0) zd0) (ze9 zk1)))
   (zc5 (zm3 (yx1 D_p_add_written G_p_add_written hr rfl (yq1 1 (yl4 (za6 2) yb8)) rfl (yn2 rfl) (show List.Nodup ([1] : List Nat) by decide) (fun j hj => by have h : j ∈ ([1] : List Nat) := hj; simp only [List.mem_cons, List.not_mem_nil, or_false] at h; rcases h with rfl <;> rfl)))))
  (zc5 (zh6 (QP.e (yh9 M_Builder_whole_row G_Builder_whole_row hr (za6 1)))))))
noncomputable def yr2  : PSt -> Option (Fl × PSt) :=
  (za9 (zb1 1 (za5 (fC (.str "abcdefghijklmnopqrstuvwxyzABCDEFGHIJKLMNOPQRSTUVWXYZ0123456789"))))
  (za9 (zb1 1 (za5 (f2 zc2 (za1 1) (fC (.str "!\"#$&'()*+,-./:;<=>?\x40[\\]^_`{|}~")))))
  (za9 (zb1 2 (za5 (f2 dIx (zc3 (fKs [.int 1, .int 2, .int 3, .int 4, .int 5, .int 6, .int 7, .int 8, .int 10, .int 11, .int 9, .int 12])) (f2 zl5 (za1 0) (fC (.int 12))))))
  (za9 (zb1 3 (za5 (fC (.str ""))))
  (za9 (zl6 4 (zk9 (za0 (za1 2) za2))
   (zb1 3 (za5 (f2 zc2 (za1 3) (f2 dIx (za1 1) (f2 zl5 (f2 zc2 (f2 zs5 (za1 0) (fC (.int 12))) (f2 yd0 (za1 4) (f2 zl5 (f2 zs5 (za1 0) (fC (.int 9000))) (fC (.int 93))))) (fC (.int 93))))))))
  (zj9 3))))))
noncomputable abbrev zy9 : Stmt := top 30
theorem zy2 : FnScope ["_law_number", "_law_signs", "_law_size", "_law_word_here", "_law_j"] ["_law_number"] (zc7 zy9) := ⟨rfl, rfl, rfl, by decide +kernel, rfl, by decide +kernel, by decide +kernel⟩
theorem wb0 {n : Nat} {f : Addr} {fd : FuncData}  (D_l_word : Dn K mg "_law_word" zy9 ["_law_number"] f fd)
    (z_range : mg "range" = none) :
    FnOk P w K mg base CX0 (n + 1) f fd ["_law_number"] (SpP 1 K κ (gP 1 4 (yr2 ))) :=
  zm8 D_l_word.F zy2 fun cdv A outer s H E B hr =>
  (zc4 (zi5 1 zy2.nd rfl (by first | exact Or.inl rfl | exact Or.inr rfl) rfl rfl (QP.e zf1))
  (zc4 (zi5 1 zy2.nd rfl (by first | exact Or.inl rfl | exact Or.inr rfl) rfl rfl (QP.e (zg4 zn2 (za6 1) (QP.v zf1))))
  (zc4 (zi5 2 zy2.nd rfl (by first | exact Or.inl rfl | exact Or.inr rfl) rfl rfl (QP.e (yg8 (zk0 (zz6 (.int (.int (.int (.int (.int (.int (.int (.int (.int (.int (.int (.int .nil)))))))))))))) (QP.v (zg4 zo7 (za6 0) (QP.v zb5))))))
  (zc4 (zi5 3 zy2.nd rfl (by first | exact Or.inl rfl | exact Or.inr rfl) rfl rfl (QP.e zf1))
  (zc4 (yc5 4 PassesOwn.never rfl zy2.nd rfl (by first | exact Or.inl rfl | exact Or.inr rfl) rfl rfl (zv4 rfl z_range (zb0 (za6 2) zd0))
   (zc5 (zi5 3 zy2.nd rfl (by first | exact Or.inl rfl | exact Or.inr rfl) rfl rfl (QP.e (zg4 zn2 (za6 3) (zk3 (za6 1) (QP.v (zg4 zo7 (QP.v (zg4 zn2 (QP.v (zg4 yc4 (za6 0) (QP.v zb5))) (QP.v (zg4 xu0 (za6 4) (QP.v (zg4 zo7 (QP.v (zg4 yc4 (za6 0) (QP.v zb5))) (QP.v zb5))))))) (QP.v zb5)))))))))
  (zc5 (yl3 3 rfl)))))))
noncomputable def zv7 (g_l_word : (List D -> Option D)) : PSt -> Option (Fl × PSt) :=
  (za9 (zb1 1 (za5 (f2 zs5 (za1 0) (fC (.int 16)))))
  (za9 (zb1 2 (za5 (zc3 (fKs [.str "[", .str "]", .str "{", .str "|", .str "}", .str "<", .str ">3", .str "\x407", .str "_", .str ".", .str "/", .str "'", .str "''", .str "'["]))))
  (za9 (fIf (za4 (fB (f2 dLt (f2 zl5 (za1 0) (fC (.int 16))) (fC (.int 2)))))
   (zb4 (za5 (zd3 (za0 (fC (.str "word")) (za0 (zb3 (f2 dIx (za1 2) (f2 zl5 (za1 1) (fC (.int 14))))) za2)))))
   za7)
  (za9 (fIf (za4 (fB (f2 dLt (f2 zl5 (za1 0) (fC (.int 16))) (fC (.int 8)))))
   (zb4 (za5 (zd3 (za0 (fC (.str "word")) (za0 (za3 g_l_word (za0 (za1 1) za2)) za2)))))
   za7)
  (za9 (fIf (za4 (fB (f2 dLt (f2 zl5 (za1 0) (fC (.int 16))) (fC (.int 13)))))
   (zb4 (za5 (zd3 (za0 (fC (.str "gap")) (za0 (f2 dIx (zc3 (fKs [.str " ", .str " ", .str " ", .str ""])) (f2 zl5 (za1 1) (fC (.int 4)))) za2)))))
   za7)
  (za9 (fIf (za4 (fB (f2 dEq (f2 zl5 (za1 0) (fC (.int 16))) (fC (.int 13)))))
   (zb4 (za5 (zd3 (za0 (fC (.str "end")) za2))))
   za7)
  (zb4 (za5 (zd3 (za0 (fC (.str "stop")) (za0 (f2 dIx (zc3 (za0 (f2 zl5 (f2 zs5 (za1 1) (fC (.int 2))) (fC (.int 10))) (za0 (f2 zl5 (f2 zs5 (za1 1) (fC (.int 2))) (fC (.int 41))) za2))) (f2 zl5 (za1 1) (fC (.int 2)))) za2)))))))))))
noncomputable abbrev zv8 : Stmt := top 31
theorem yq5 : FnScope ["_law_number", "_law_some_here", "_law_odd"] ["_law_number"] (zc7 zv8) := ⟨rfl, rfl, rfl, by decide +kernel, rfl, by decide +kernel, by decide +kernel⟩
theorem wb1 {n : Nat} {f : Addr} {fd : FuncData} {g_l_word : (List D -> Option D)} {f_l_word : Addr} {fd_l_word : FuncData} (D_l_leaf : Dn K mg "_law_leaf" zv8 ["_law_number"] f fd)
    (D_l_word : Dn K mg "_law_word" zy9 ["_law_number"] f_l_word fd_l_word) (G_l_word : FnOk P w K mg base CX0 n f_l_word fd_l_word ["_law_number"] (SpP 1 K κ g_l_word)) :
    FnOk P w K mg base CX0 (n + 1) f fd ["_law_number"] (SpP 1 K κ (gP 1 2 (zv7 g_l_word))) :=
  zm8 D_l_leaf.F yq5 fun cdv A outer s H E B hr =>
  (zc4 (zi5 1 yq5.nd rfl (by first | exact Or.inl rfl | exact Or.inr rfl) rfl rfl (QP.e (zg4 yc4 (za6 0) (QP.v zb5))))
  (zc4 (zi5 2 yq5.nd rfl (by first | exact Or.inl rfl | exact Or.inr rfl) rfl rfl (QP.e (zk0 (zz6 (.str (.str (.str (.str (.str (.str (.str (.str (.str (.str (.str (.str (.str (.str .nil))))))))))))))))))
  (zc4 (zh7 (QT.e (zh2 (yg2 (Room.units0 hr)) (QP.v (zg4 zo7 (za6 0) (QP.v zb5))) (QP.v zb5) (zg1 _)))
   (zc5 (zh6 (QP.e (zk8 (zb7 zf1 (zb7 (QV.p (zk3 (za6 2) (QP.v (zg4 zo7 (za6 1) (QP.v zb5))))) ze0))))))
   zg5)
  (zc4 (zh7 (QT.e (zh2 (yg2 (Room.units0 hr)) (QP.v (zg4 zo7 (za6 0) (QP.v zb5))) (QP.v zb5) (zg1 _)))
   (zc5 (zh6 (QP.e (zk8 (zb7 zf1 (zb7 (zm9 D_l_word G_l_word hr rfl rfl (zb0 (za6 1) zd0) (ze9 zk1)) ze0))))))
   zg5)
  (zc4 (zh7 (QT.e (zh2 (yg2 (Room.units0 hr)) (QP.v (zg4 zo7 (za6 0) (QP.v zb5))) (QP.v zb5) (zg1 _)))
   (zc5 (zh6 (QP.e (zk8 (zb7 zf1 (zb7 (yg8 (zk0 (zz6 (.str (.str (.str (.str .nil)))))) (QP.v (zg4 zo7 (za6 1) (QP.v zb5)))) ze0))))))
   zg5)
  (zc4 (zh7 (QT.e (zh2 (zo8 (Room.units hr)) (QP.v (zg4 zo7 (za6 0) (QP.v zb5))) (QP.v zb5) (zg1 _)))
   (zc5 (zh6 (QP.e (zk8 (zb7 zf1 ze0)))))
   zg5)
  (zc5 (zh6 (QP.e (zk8 (zb7 zf1 (zb7 (yg8 (zk0 (zb7 (zg4 zo7 (QP.v (zg4 yc4 (za6 1) (QP.v zb5))) (QP.v zb5)) (zb7 (zg4 zo7 (QP.v (zg4 yc4 (za6 1) (QP.v zb5))) (QP.v zb5)) ze0))) (QP.v (zg4 zo7 (za6 1) (QP.v zb5)))) ze0))))))))))))
noncomputable def yg0  : PSt -> Option (Fl × PSt) :=
  (za9 (yo5 [1, 2, 3, 4] (zd2 0 zb8 za2 zj2))
  (za9 (zb1 3 (za5 (f2 zc2 (za1 3) (zc3 (za0 (za3 zc1 (za0 (za1 4) za2)) za2)))))
  (za9 (fIf (za4 (ze5 (fB (f2 dEq (za1 1) (fC (.str "either")))) (fB (f2 dLt (za3 zb9 (za0 (za1 3) za2)) (fC (.int 2))))))
   (zb1 3 (za5 (f2 zc2 (za1 3) (zc3 (za0 (zd3 (za0 (zd3 (za0 (fC (.str "word")) (za0 (fC (.str "or")) za2))) za2)) za2)))))
   za7)
  (za9 (zb1 5 (za5 (zd3 (za0 (fC (.str "group")) (za0 (zb3 (f2 dIx (za1 3) (fC (.int 0)))) za2)))))
  (za9 (fIf (za4 (fB (f2 dEq (za1 1) (fC (.str "hang")))))
   (zb1 5 (za5 (zd3 (za0 (fC (.str "hang")) (za0 (zb3 (za1 2)) (za0 (zb3 (f2 dIx (za1 3) (fC (.int 0)))) za2))))))
   za7)
  (za9 (fIf (za4 (fB (f2 dEq (za1 1) (fC (.str "either")))))
   (zb1 5 (za5 (zd3 (za0 (fC (.str "either")) (za0 (za3 zc1 (za0 (za1 3) za2)) za2)))))
   za7)
  (zc0 (zd2 0 (zf7 0 (zf7 0 zb8 (zf6 (fC (.int 1)))) (fC (.int 3))) (za0 (zb3 (za1 5)) za2) zb6))))))))
noncomputable abbrev zz0 : Stmt := top 32
theorem zs0 : FnScope ["_law_frames", "_law_kind", "_law_n", "_law_full", "_law_parts", "_law_piece"] ["_law_frames"] (zc7 zz0) := ⟨rfl, rfl, rfl, by decide +kernel, rfl, by decide +kernel, by decide +kernel⟩
theorem wb2 {n : Nat} {f : Addr} {fd : FuncData}  (D_l_shut : Dn K mg "_law_shut" zz0 ["_law_frames"] f fd)
    (z_tuple : mg "tuple" = none)
    (z_len : mg "len" = none) :
    FnOk P w K mg base CX0 (n + 1) f fd ["_law_frames"] (SpE 1 K κ (zf2 [true]) (gE 1 5 (zf2 [true]) (yg0 ))) :=
  yj4 D_l_shut.F zs0 (fun i hi => yd8 hi) fun cdv A outer s H E hr =>
  (zc4 (yp9 (is := [1, 2, 3, 4]) rfl (yd4 (zw9 (i := 1) zs0.nd rfl (by first | exact Or.inl rfl | exact Or.inr rfl)) (yd4 (zw9 (i := 2) zs0.nd rfl (by first | exact Or.inl rfl | exact Or.inr rfl)) (yd4 (zw9 (i := 3) zs0.nd rfl (by first | exact Or.inl rfl | exact Or.inr rfl)) (yd4 (zw9 (i := 4) zs0.nd rfl (by first | exact Or.inl rfl | exact Or.inr rfl)) xa5)))) (yw8 (j := 0) rfl (zg9 0)) (fun j hj => by simp only [List.mem_cons, List.not_mem_nil, or_false] at hj; rcases hj with rfl | rfl | rfl | rfl <;> exact ⟨rfl, rfl⟩))
  (zc4 (zi5 3 zs0.nd rfl (by first | exact Or.inl rfl | exact Or.inr rfl) rfl rfl (QP.e (zg4 zn2 (za6 3) (QP.v (zk0 (zb7 (zl9 zv0 rfl z_tuple boot_tuple (zb0 (za6 4) zd0)) ze0))))))
  (zc4 (zh7 (QT.e (ym7 (yf5 (zh2 (zo8 (Room.units hr)) (za6 1) (QP.v zf1) (zg1 _)) (yd5 (zh2 (yg2 (Room.units0 hr)) (QP.v (zi7 zt3 rfl z_len boot_len (zb0 (za6 3) zd0))) (QP.v zb5) (zg1 _))))))
   (zc5 (zi5 3 zs0.nd rfl (by first | exact Or.inl rfl | exact Or.inr rfl) rfl rfl (QP.e (zg4 zn2 (za6 3) (QP.v (zk0 (zb7 (zk8 (zb7 (zk8 (zb7 zf1 (zb7 zf1 ze0))) ze0)) ze0)))))))
   zg5)
  (zc4 (zi5 5 zs0.nd rfl (by first | exact Or.inl rfl | exact Or.inr rfl) rfl rfl (QP.e (zk8 (zb7 zf1 (zb7 (QV.p (zk3 (za6 3) (QP.v zb5))) ze0)))))
  (zc4 (zh7 (QT.e (zh2 (zo8 (Room.units hr)) (za6 1) (QP.v zf1) (zg1 _)))
   (zc5 (zi5 5 zs0.nd rfl (by first | exact Or.inl rfl | exact Or.inr rfl) rfl rfl (QP.e (zk8 (zb7 zf1 (zb7 (QV.p (za6 2)) (zb7 (QV.p (zk3 (za6 3) (QP.v zb5))) ze0)))))))
   zg5)
  (zc4 (zh7 (QT.e (zh2 (zo8 (Room.units hr)) (za6 1) (QP.v zf1) (zg1 _)))
   (zc5 (zi5 5 zs0.nd rfl (by first | exact Or.inl rfl | exact Or.inr rfl) rfl rfl (QP.e (zk8 (zb7 zf1 (zb7 (zl9 zv0 rfl z_tuple boot_tuple (zb0 (za6 3) zd0)) ze0))))))
   zg5)
  (zc5 (zm3 (zm5 (j := 0) rfl (zq9 (zq9 (zg9 0) (QP.v (zu9 (QP.v zb5)))) (QP.v zb5)) (zb7 (QV.p (za6 5)) ze0))))))))))
noncomputable def xn2 (g_l_mixed : (List D -> Option D)) (g_l_shut : (List D -> Option (D × List D))) (g_l_leaf : (List D -> Option D)) : PSt -> Option (Fl × PSt) :=
  (za9 (zb1 4 (za5 (zc3 (za0 (zc3 (za0 (fC (.str "top")) (za0 (fC (.int 0)) (za0 (zc3 za2) (za0 (zc3 za2) za2))))) za2))))
  (za9 (zl6 5 (ys9 (za0 (za1 1) (za0 (f2 zc2 (za1 1) (za1 2)) za2)))
   (za9 (zb1 6 (za5 (za3 g_l_mixed (za0 (za1 0) (za0 (za1 5) (za0 (fC (.int 31)) za2))))))
  (za9 (zb1 7 (za5 (f2 zl5 (za1 6) (fC (.int 13)))))
  (za9 (zb1 8 (za5 (zb3 (f2 dIx (f2 dIx (za1 4) (zf6 (fC (.int 1)))) (fC (.int 0))))))
  (fIf (za4 (ze5 (fB (f2 dLt (za1 7) (fC (.int 4)))) (fB (f2 dLe (za3 zb9 (za0 (za1 4) za2)) (za1 3)))))
   (za9 (zb1 9 (za5 (f2 dIx (zc3 (fKs [.str "group", .str "group", .str "hang", .str "either"])) (za1 7))))
  (zc0 (zd2 4 zb8 (za0 (zc3 (za0 (zb3 (za1 9)) (za0 (f2 dIx (zc3 (za0 (fC (.int 1)) (za0 (fC (.int 2)) (za0 (fC (.int 4)) (za0 (f2 zl5 (f2 zs5 (za1 6) (fC (.int 13))) (fC (.int 13))) za2))))) (f2 zl5 (f2 zs5 (za1 6) (fC (.int 169))) (fC (.int 4)))) (za0 (zc3 za2) (za0 (zc3 za2) za2))))) za2) zb6)))
   (fIf (za4 (ze5 (fB (f2 dEq (za1 7) (fC (.int 4)))) (fB (f2 dGt (za3 zb9 (za0 (za1 4) za2)) (fC (.int 1))))))
   (zc0 (fIO [.io 4] g_l_shut))
   (fIf (za4 (ze5 (fB (f2 dLt (za1 7) (fC (.int 7)))) (ze5 (fB (f2 dEq (za1 8) (fC (.str "either")))) (fB (f2 dLt (za3 zb9 (za0 (f2 dIx (f2 dIx (za1 4) (zf6 (fC (.int 1)))) (fC (.int 2))) za2)) (fC (.int 3)))))))
   (za9 (zc0 (zd2 4 (zf7 4 (zf7 4 zb8 (zf6 (fC (.int 1)))) (fC (.int 2))) (za0 (za3 zc1 (za0 (f2 dIx (f2 dIx (za1 4) (zf6 (fC (.int 1)))) (fC (.int 3))) za2)) za2) zb6))
  (zq4 4 (zf7 4 zb8 (zf6 (fC (.int 1)))) (fC (.int 3)) (zc3 za2)))
   (zc0 (zd2 4 (zf7 4 (zf7 4 zb8 (zf6 (fC (.int 1)))) (fC (.int 3))) (za0 (za3 g_l_leaf (za0 (za3 g_l_mixed (za0 (za1 0) (za0 (za1 5) (za0 (fC (.int 32)) za2)))) za2)) za2) zb6)))))))))
  (za9 (zw7 (za4 (fB (f2 dGt (za3 zb9 (za0 (za1 4) za2)) (fC (.int 1)))))
   (zc0 (fIO [.io 4] g_l_shut)) 400)
  (zb4 (za5 (za3 zc1 (za0 (f2 dIx (f2 dIx (za1 4) (fC (.int 0))) (fC (.int 3))) za2)))))))
noncomputable abbrev yb7 : Stmt := top 33
theorem yb1 : FnScope ["_law_script", "_law_at", "_law_many", "_law_nest", "_law_frames", "_law_k", "_law_number", "_law_way", "_law_kind", "_law_new"] ["_law_script", "_law_at", "_law_many", "_law_nest"] (zc7 yb7) := ⟨rfl, rfl, rfl, by decide +kernel, rfl, by decide +kernel, by decide +kernel⟩
theorem wg7 {n : Nat} {f : Addr} {fd : FuncData} {g_l_mixed : (List D -> Option D)} {f_l_mixed : Addr} {fd_l_mixed : FuncData} {g_l_shut : (List D -> Option (D × List D))} {f_l_shut : Addr} {fd_l_shut : FuncData} {g_l_leaf : (List D -> Option D)} {f_l_leaf : Addr} {fd_l_leaf : FuncData} (D_l_row : Dn K mg "_law_row" yb7 ["_law_script", "_law_at", "_law_many", "_law_nest"] f fd)
    (D_l_mixed : Dn K mg "_law_mixed" zt8 ["_law_script", "_law_k", "_law_salt"] f_l_mixed fd_l_mixed) (G_l_mixed : FnOk P w K mg base CX0 n f_l_mixed fd_l_mixed ["_law_script", "_law_k", "_law_salt"] (SpP 3 K κ g_l_mixed))
    (D_l_shut : Dn K mg "_law_shut" zz0 ["_law_frames"] f_l_shut fd_l_shut) (G_l_shut : FnOk P w K mg base CX0 n f_l_shut fd_l_shut ["_law_frames"] (SpE 1 K κ (zf2 [true]) g_l_shut))
    (D_l_leaf : Dn K mg "_law_leaf" zv8 ["_law_number"] f_l_leaf fd_l_leaf) (G_l_leaf : FnOk P w K mg base CX0 n f_l_leaf fd_l_leaf ["_law_number"] (SpP 1 K κ g_l_leaf))
    (z_range : mg "range" = none)
    (z_tuple : mg "tuple" = none)
    (z_len : mg "len" = none) :
    FnOk P w K mg base CX0 (n + 1) f fd ["_law_script", "_law_at", "_law_many", "_law_nest"] (SpP 4 K κ (gP 4 6 (xn2 g_l_mixed g_l_shut g_l_leaf))) :=
  zm8 D_l_row.F yb1 fun cdv A outer s H E B hr =>
  (zc4 (zi5 4 yb1.nd rfl (by first | exact Or.inl rfl | exact Or.inr rfl) rfl rfl (QP.e (zk0 (zb7 (zk0 (zb7 zf1 (zb7 zb5 (zb7 (zk0 ze0) (zb7 (zk0 ze0) ze0))))) ze0))))
  (zc4 (yc5 5 PassesOwn.never rfl yb1.nd rfl (by first | exact Or.inl rfl | exact Or.inr rfl) rfl rfl (yp5 rfl z_range (zb0 (za6 1) (zb0 (QP.v (zg4 zn2 (za6 1) (za6 2))) zd0)))
   (zc4 (zi5 6 yb1.nd rfl (by first | exact Or.inl rfl | exact Or.inr rfl) rfl rfl (QP.e (zm9 D_l_mixed G_l_mixed hr rfl rfl (zb0 (za6 0) (zb0 (za6 5) (zb0 (QP.v zb5) zd0))) (ze9 (ze9 (ze9 zk1))))))
  (zc4 (zi5 7 yb1.nd rfl (by first | exact Or.inl rfl | exact Or.inr rfl) rfl rfl (QP.e (zg4 zo7 (za6 6) (QP.v zb5))))
  (zc4 (zi5 8 yb1.nd rfl (by first | exact Or.inl rfl | exact Or.inr rfl) rfl rfl (QP.e (QV.p (zk3 (zk3 (za6 4) (QP.v (zu9 (QP.v zb5)))) (QP.v zb5)))))
  (zc5 (zh7 (QT.e (ym7 (yf5 (zh2 (yg2 (Room.units0 hr)) (za6 7) (QP.v zb5) (zg1 _)) (yd5 (zh2 xi0 (QP.v (zi7 zt3 rfl z_len boot_len (zb0 (za6 4) zd0))) (za6 3) (zg1 _))))))
   (zc4 (zi5 9 yb1.nd rfl (by first | exact Or.inl rfl | exact Or.inr rfl) rfl rfl (QP.e (yg8 (zk0 (zz6 (.str (.str (.str (.str .nil)))))) (za6 7))))
  (zc5 (zm3 (zm5 (j := 4) rfl (zg9 4) (zb7 (zk0 (zb7 (QV.p (za6 9)) (zb7 (yg8 (zk0 (zb7 zb5 (zb7 zb5 (zb7 zb5 (zb7 (zg4 zo7 (QP.v (zg4 yc4 (za6 6) (QP.v zb5))) (QP.v zb5)) ze0))))) (QP.v (zg4 zo7 (QP.v (zg4 yc4 (za6 6) (QP.v zb5))) (QP.v zb5)))) (zb7 (zk0 ze0) (zb7 (zk0 ze0) ze0))))) ze0)))))
   (zc5 (zh7 (QT.e (ym7 (yf5 (zh2 (zo8 (Room.units hr)) (za6 7) (QP.v zb5) (zg1 _)) (yd5 (zh2 yu1 (QP.v (zi7 zt3 rfl z_len boot_len (zb0 (za6 4) zd0))) (QP.v zb5) (zg1 _))))))
   (zc5 (zm3 (yx1 D_l_shut G_l_shut hr rfl (yq1 4 yb8) rfl (yn2 rfl) (show List.Nodup ([4] : List Nat) by decide) (fun j hj => by have h : j ∈ ([4] : List Nat) := hj; simp only [List.mem_cons, List.not_mem_nil, or_false] at h; rcases h with rfl <;> rfl))))
   (zc5 (zh7 (QT.e (ym7 (yf5 (zh2 (yg2 (Room.units0 hr)) (za6 7) (QP.v zb5) (zg1 _)) (yf5 (zh2 (zo8 (Room.units hr)) (za6 8) (QP.v zf1) (zg1 _)) (yd5 (zh2 (yg2 (Room.units0 hr)) (QP.v (zi7 zt3 rfl z_len boot_len (zb0 (zk3 (zk3 (za6 4) (QP.v (zu9 (QP.v zb5)))) (QP.v zb5)) zd0))) (QP.v zb5) (zg1 _)))))))
   (zc4 (zm3 (zm5 (j := 4) rfl (zq9 (zq9 (zg9 4) (QP.v (zu9 (QP.v zb5)))) (QP.v zb5)) (zb7 (zl9 zv0 rfl z_tuple boot_tuple (zb0 (zk3 (zk3 (za6 4) (QP.v (zu9 (QP.v zb5)))) (QP.v zb5)) zd0)) ze0)))
  (zc5 (yu8 (j := 4) rfl (zk0 ze0) (zq9 (zg9 4) (QP.v (zu9 (QP.v zb5)))) (QP.v zb5))))
   (zc5 (zm3 (zm5 (j := 4) rfl (zq9 (zq9 (zg9 4) (QP.v (zu9 (QP.v zb5)))) (QP.v zb5)) (zb7 (zm9 D_l_leaf G_l_leaf hr rfl rfl (zb0 (QP.v (zm9 D_l_mixed G_l_mixed hr rfl rfl (zb0 (za6 0) (zb0 (za6 5) (zb0 (QP.v zb5) zd0))) (ze9 (ze9 (ze9 zk1))))) zd0) (ze9 zk1)) ze0))))))))))))))
  (zc4 (yu3 400 PassesOwn.never (QT.e (zh2 yu1 (QP.v (zi7 zt3 rfl z_len boot_len (zb0 (za6 4) zd0))) (QP.v zb5) (zg1 _)))
   (zc5 (zm3 (yx1 D_l_shut G_l_shut hr rfl (yq1 4 yb8) rfl (yn2 rfl) (show List.Nodup ([4] : List Nat) by decide) (fun j hj => by have h : j ∈ ([4] : List Nat) := hj; simp only [List.mem_cons, List.not_mem_nil, or_false] at h; rcases h with rfl <;> rfl)))))
  (zc5 (zh6 (QP.e (zl9 zv0 rfl z_tuple boot_tuple (zb0 (zk3 (zk3 (za6 4) (QP.v zb5)) (QP.v zb5)) zd0))))))))
noncomputable def yk6 (g_l_listed : (List D -> Option D)) : PSt -> Option (Fl × PSt) :=
  (za9 (zb1 1 (za5 (zc3 za2)))
  (za9 (zl6 2 (zw3 (za1 0))
   (za9 (fIf (za4 (fB (f2 dEq (f2 dIx (za1 2) (fC (.int 0))) (fC (.str "word")))))
   (zc0 (zd2 1 zb8 (za0 (f2 zc2 (fC (.str "'")) (f2 dIx (za1 2) (fC (.int 1)))) za2) zb6))
   za7)
  (za9 (fIf (za4 (fB (f2 dEq (f2 dIx (za1 2) (fC (.int 0))) (fC (.str "gap")))))
   (zc0 (zd2 1 zb8 (za0 (f2 dIx (zc3 (za0 (fC (.str "_")) (za0 (fC (.str ".")) za2))) (za3 zm1 (za0 (f2 dEq (f2 dIx (za1 2) (fC (.int 1))) (fC (.str ""))) za2))) za2) zb6))
   za7)
  (za9 (fIf (za4 (fB (f2 dEq (f2 dIx (za1 2) (fC (.int 0))) (fC (.str "end")))))
   (zc0 (zd2 1 zb8 (za0 (fC (.str "/")) za2) zb6))
   za7)
  (za9 (fIf (za4 (fB (f2 dEq (f2 dIx (za1 2) (fC (.int 0))) (fC (.str "stop")))))
   (zc0 (zd2 1 zb8 (za0 (f2 zc2 (fC (.str "\x40")) (za3 zl8 (za0 (f2 dIx (za1 2) (fC (.int 1))) za2))) za2) zb6))
   za7)
  (za9 (fIf (za4 (fB (f2 dEq (f2 dIx (za1 2) (fC (.int 0))) (fC (.str "group")))))
   (zb1 1 (za5 (f2 zc2 (f2 zc2 (f2 zc2 (za1 1) (zc3 (za0 (fC (.str "[")) za2))) (za3 g_l_listed (za0 (f2 dIx (za1 2) (fC (.int 1))) za2))) (zc3 (za0 (fC (.str "]")) za2)))))
   za7)
  (za9 (fIf (za4 (fB (f2 dEq (f2 dIx (za1 2) (fC (.int 0))) (fC (.str "hang")))))
   (zb1 1 (za5 (f2 zc2 (f2 zc2 (f2 zc2 (za1 1) (zc3 (za0 (f2 zc2 (fC (.str ">")) (za3 zl8 (za0 (f2 dIx (za1 2) (fC (.int 1))) za2))) za2))) (za3 g_l_listed (za0 (f2 dIx (za1 2) (fC (.int 2))) za2))) (zc3 (za0 (fC (.str "<")) za2)))))
   za7)
  (fIf (za4 (fB (f2 dEq (f2 dIx (za1 2) (fC (.int 0))) (fC (.str "either")))))
   (za9 (zl6 3 (zk9 (za0 (za3 zb9 (za0 (f2 dIx (za1 2) (fC (.int 1))) za2)) za2))
   (zb1 1 (za5 (f2 zc2 (f2 zc2 (za1 1) (zc3 (za0 (f2 dIx (zc3 (za0 (fC (.str "{")) (za0 (fC (.str "|")) za2))) (za3 zm1 (za0 (f2 dGt (za1 3) (fC (.int 0))) za2))) za2))) (za3 g_l_listed (za0 (f2 dIx (f2 dIx (za1 2) (fC (.int 1))) (za1 3)) za2))))))
  (zc0 (zd2 1 zb8 (za0 (fC (.str "}")) za2) zb6)))
   za7))))))))
  (zj9 1)))
noncomputable abbrev zu5 : Stmt := top 34
theorem zu1 : FnScope ["_law_row_here", "_law_signs", "_law_piece", "_law_k"] ["_law_row_here"] (zc7 zu5) := ⟨rfl, rfl, rfl, by decide +kernel, rfl, by decide +kernel, by decide +kernel⟩
theorem xo0 {n : Nat} {f : Addr} {fd : FuncData} {g_l_listed : (List D -> Option D)} (D_l_listed : Dn K mg "_law_listed" zu5 ["_law_row_here"] f fd)
    (G_l_listed : FnOk P w K mg base CX0 n f fd ["_law_row_here"] (SpP 1 K κ g_l_listed))
    (z_range : mg "range" = none)
    (z_len : mg "len" = none)
    (z_int : mg "int" = none)
    (z_str : mg "str" = none) :
    FnOk P w K mg base CX0 (n + 1) f fd ["_law_row_here"] (SpP 1 K κ (gP 1 3 (yk6 g_l_listed))) :=
  zm8 D_l_listed.F zu1 fun cdv A outer s H E B hr =>
  (zc4 (zi5 1 zu1.nd rfl (by first | exact Or.inl rfl | exact Or.inr rfl) rfl rfl (QP.e (zk0 ze0)))
  (zc4 (xb1 2 0 PassesOwn.never rfl zu1.nd rfl (by first | exact Or.inl rfl | exact Or.inr rfl) rfl rfl rfl
   (zc4 (zh7 (QT.e (zh2 (zo8 (Room.units hr)) (zk3 (za6 2) (QP.v zb5)) (QP.v zf1) (zg1 _)))
   (zc5 (zm3 (zm5 (j := 1) rfl (zg9 1) (zb7 (zg4 zn2 (QP.v zf1) (zk3 (za6 2) (QP.v zb5))) ze0))))
   zg5)
  (zc4 (zh7 (QT.e (zh2 (zo8 (Room.units hr)) (zk3 (za6 2) (QP.v zb5)) (QP.v zf1) (zg1 _)))
   (zc5 (zm3 (zm5 (j := 1) rfl (zg9 1) (zb7 (yg8 (zk0 (zb7 zf1 (zb7 zf1 ze0))) (QP.v (zl9 xf9 rfl z_int boot_int (zb0 (QP.v (zx9 (zo8 (Room.units hr)) (zk3 (za6 2) (QP.v zb5)) (QP.v zf1) (zg1 _))) zd0)))) ze0))))
   zg5)
  (zc4 (zh7 (QT.e (zh2 (zo8 (Room.units hr)) (zk3 (za6 2) (QP.v zb5)) (QP.v zf1) (zg1 _)))
   (zc5 (zm3 (zm5 (j := 1) rfl (zg9 1) (zb7 zf1 ze0))))
   zg5)
  (zc4 (zh7 (QT.e (zh2 (zo8 (Room.units hr)) (zk3 (za6 2) (QP.v zb5)) (QP.v zf1) (zg1 _)))
   (zc5 (zm3 (zm5 (j := 1) rfl (zg9 1) (zb7 (zg4 zn2 (QP.v zf1) (QP.v (zl9 yw6 rfl z_str boot_str (zb0 (zk3 (za6 2) (QP.v zb5)) zd0)))) ze0))))
   zg5)
  (zc4 (zh7 (QT.e (zh2 (zo8 (Room.units hr)) (zk3 (za6 2) (QP.v zb5)) (QP.v zf1) (zg1 _)))
   (zc5 (zi5 1 zu1.nd rfl (by first | exact Or.inl rfl | exact Or.inr rfl) rfl rfl (QP.e (zg4 zn2 (QP.v (zg4 zn2 (QP.v (zg4 zn2 (za6 1) (QP.v (zk0 (zb7 zf1 ze0))))) (QP.v (zm9 D_l_listed G_l_listed hr rfl rfl (zb0 (zk3 (za6 2) (QP.v zb5)) zd0) (ze9 zk1))))) (QP.v (zk0 (zb7 zf1 ze0)))))))
   zg5)
  (zc4 (zh7 (QT.e (zh2 (zo8 (Room.units hr)) (zk3 (za6 2) (QP.v zb5)) (QP.v zf1) (zg1 _)))
   (zc5 (zi5 1 zu1.nd rfl (by first | exact Or.inl rfl | exact Or.inr rfl) rfl rfl (QP.e (zg4 zn2 (QP.v (zg4 zn2 (QP.v (zg4 zn2 (za6 1) (QP.v (zk0 (zb7 (zg4 zn2 (QP.v zf1) (QP.v (zl9 yw6 rfl z_str boot_str (zb0 (zk3 (za6 2) (QP.v zb5)) zd0)))) ze0))))) (QP.v (zm9 D_l_listed G_l_listed hr rfl rfl (zb0 (zk3 (za6 2) (QP.v zb5)) zd0) (ze9 zk1))))) (QP.v (zk0 (zb7 zf1 ze0)))))))
   zg5)
  (zc5 (zh7 (QT.e (zh2 (zo8 (Room.units hr)) (zk3 (za6 2) (QP.v zb5)) (QP.v zf1) (zg1 _)))
   (zc4 (yc5 3 PassesOwn.never rfl zu1.nd rfl (by first | exact Or.inl rfl | exact Or.inr rfl) rfl rfl (zv4 rfl z_range (zb0 (QP.v (zi7 zt3 rfl z_len boot_len (zb0 (zk3 (za6 2) (QP.v zb5)) zd0))) zd0))
   (zc5 (zi5 1 zu1.nd rfl (by first | exact Or.inl rfl | exact Or.inr rfl) rfl rfl (QP.e (zg4 zn2 (QP.v (zg4 zn2 (za6 1) (QP.v (zk0 (zb7 (yg8 (zk0 (zb7 zf1 (zb7 zf1 ze0))) (QP.v (zl9 xf9 rfl z_int boot_int (zb0 (QP.v (zx9 yu1 (za6 3) (QP.v zb5) (zg1 _))) zd0)))) ze0))))) (QP.v (zm9 D_l_listed G_l_listed hr rfl rfl (zb0 (zk3 (zk3 (za6 2) (QP.v zb5)) (za6 3)) zd0) (ze9 zk1))))))))
  (zc5 (zm3 (zm5 (j := 1) rfl (zg9 1) (zb7 zf1 ze0)))))
   zg5)))))))))
  (zc5 (yl3 1 rfl))))
noncomputable def yg1 (g_l_mixed : (List D -> Option D)) (g_l_leaf : (List D -> Option D)) (g_l_row : (List D -> Option D)) : PSt -> Option (Fl × PSt) :=
  (za9 (zb1 1 (za5 (za3 g_l_mixed (za0 (za1 0) (za0 (fC (.int 0)) (za0 (fC (.int 40)) za2))))))
  (za9 (fIf (za4 (fB (f2 dEq (f2 zl5 (za1 1) (fC (.int 8))) (fC (.int 1)))))
   (zb4 (za5 (za3 zc1 (za0 (yj6 [none, some 0] (zk9 (za0 (f2 zc2 (fC (.int 60)) (f2 zl5 (f2 zs5 (za1 1) (fC (.int 8))) (fC (.int 141)))) za2)) ye5 (za3 g_l_leaf (za0 (za3 g_l_mixed (za0 (za1 1) (za0 (za1 0) (za0 (fC (.int 41)) za2)))) za2))) za2))))
   za7)
  (za9 (zb1 2 (za5 (za3 g_l_row (za0 (za1 0) (za0 (fC (.int 0)) (za0 (za3 zn9 (za0 (f2 zc2 (za3 zb9 (za0 (za1 0) za2)) (fC (.int 3))) (za0 (fC (.int 40)) za2))) (za0 (fC (.int 3)) za2)))))))
  (za9 (fIf (za4 (fB (f2 dEq (f2 zl5 (za1 1) (fC (.int 8))) (fC (.int 3)))))
   (zl6 3 (zk9 (za0 (f2 zc2 (fC (.int 3)) (f2 zl5 (f2 zs5 (za1 1) (fC (.int 8))) (fC (.int 7)))) za2))
   (za9 (zb1 4 (za5 (f2 zl5 (za3 g_l_mixed (za0 (za1 0) (za0 (za1 3) (za0 (fC (.int 42)) za2)))) (fC (.int 4)))))
  (fIf (za4 (fB (f2 dEq (za1 4) (fC (.int 0)))))
   (zb1 2 (za5 (zd3 (za0 (zd3 (za0 (fC (.str "hang")) (za0 (f2 zl5 (za3 g_l_mixed (za0 (za1 0) (za0 (za1 3) (za0 (fC (.int 43)) za2)))) (fC (.int 13))) (za0 (zb3 (za1 2)) za2)))) za2))))
   (fIf (za4 (fB (f2 dEq (za1 4) (fC (.int 1)))))
   (zb1 2 (za5 (zd3 (za0 (zd3 (za0 (fC (.str "either")) (za0 (zd3 (za0 (zb3 (za1 2)) (za0 (zd3 (za0 (zd3 (za0 (fC (.str "end")) za2)) za2)) za2))) za2))) za2))))
   (zb1 2 (za5 (zd3 (za0 (zd3 (za0 (fC (.str "group")) (za0 (zb3 (za1 2)) za2))) za2))))))))
   za7)
  (zj9 2)))))
noncomputable abbrev zv9 : Stmt := top 35
theorem zv5 : FnScope ["_law_script", "_law_number", "_law_row_here", "_law_k", "_law_way"] ["_law_script"] (zc7 zv9) := ⟨rfl, rfl, rfl, by decide +kernel, rfl, by decide +kernel, by decide +kernel⟩
theorem wb3 {n : Nat} {f : Addr} {fd : FuncData} {g_l_mixed : (List D -> Option D)} {f_l_mixed : Addr} {fd_l_mixed : FuncData} {g_l_leaf : (List D -> Option D)} {f_l_leaf : Addr} {fd_l_leaf : FuncData} {g_l_row : (List D -> Option D)} {f_l_row : Addr} {fd_l_row : FuncData} (D_l_some : Dn K mg "_law_some" zv9 ["_law_script"] f fd)
    (D_l_mixed : Dn K mg "_law_mixed" zt8 ["_law_script", "_law_k", "_law_salt"] f_l_mixed fd_l_mixed) (G_l_mixed : FnOk P w K mg base CX0 n f_l_mixed fd_l_mixed ["_law_script", "_law_k", "_law_salt"] (SpP 3 K κ g_l_mixed))
    (D_l_leaf : Dn K mg "_law_leaf" zv8 ["_law_number"] f_l_leaf fd_l_leaf) (G_l_leaf : FnOk P w K mg base CX0 n f_l_leaf fd_l_leaf ["_law_number"] (SpP 1 K κ g_l_leaf))
    (D_l_row : Dn K mg "_law_row" yb7 ["_law_script", "_law_at", "_law_many", "_law_nest"] f_l_row fd_l_row) (G_l_row : FnOk P w K mg base CX0 n f_l_row fd_l_row ["_law_script", "_law_at", "_law_many", "_law_nest"] (SpP 4 K κ g_l_row))
    (z_tuple : mg "tuple" = none)
    (z_min : mg "min" = none)
    (z_range : mg "range" = none)
    (z_len : mg "len" = none) :
    FnOk P w K mg base CX0 (n + 1) f fd ["_law_script"] (SpP 1 K κ (gP 1 4 (yg1 g_l_mixed g_l_leaf g_l_row))) :=
  zm8 D_l_some.F zv5 fun cdv A outer s H E B hr =>
  (zc4 (zi5 1 zv5.nd rfl (by first | exact Or.inl rfl | exact Or.inr rfl) rfl rfl (QP.e (zm9 D_l_mixed G_l_mixed hr rfl rfl (zb0 (za6 0) (zb0 (QP.v zb5) (zb0 (QP.v zb5) zd0))) (ze9 (ze9 (ze9 zk1))))))
  (zc4 (zh7 (QT.e (zh2 (zo8 (Room.units hr)) (QP.v (zg4 zo7 (za6 1) (QP.v zb5))) (QP.v zb5) (zg1 _)))
   (zc5 (zh6 (QP.e (zl9 zv0 rfl z_tuple boot_tuple (zb0 (QP.v (yr9 (sc := zc7 zv9) (NX := ["_law_script", "_law_number", "_law_row_here", "_law_k", "_law_way"]) (N := ["_law_k", "_law_script"]) (pick := [none, some 0]) ⟨rfl, by decide +kernel, by decide +kernel, by decide +kernel, by decide +kernel, by decide, rfl⟩ rfl rfl rfl (QIP.v (zv4 rfl z_range (zb0 (QP.v (zg4 zn2 (QP.v zb5) (QP.v (zg4 zo7 (QP.v (zg4 yc4 (za6 1) (QP.v zb5))) (QP.v zb5))))) zd0))) (fun _ _ _ _ => (zw9 (i := 0) (show (["_law_k", "_law_script"] : List Str).Nodup by decide) rfl (by first | exact Or.inl rfl | exact Or.inr rfl))) (fun _ _ _ _ => yr8) (fun _ _ _ _ => (zm9 D_l_leaf G_l_leaf hr rfl rfl (zb0 (QP.v (zm9 D_l_mixed G_l_mixed hr rfl rfl (zb0 (za6 1) (zb0 (za6 0) (zb0 (QP.v zb5) zd0))) (ze9 (ze9 (ze9 zk1))))) zd0) (ze9 zk1))))) zd0)))))
   zg5)
  (zc4 (zi5 2 zv5.nd rfl (by first | exact Or.inl rfl | exact Or.inr rfl) rfl rfl (QP.e (zm9 D_l_row G_l_row hr rfl rfl (zb0 (za6 0) (zb0 (QP.v zb5) (zb0 (QP.v (zi7 (xi2 rfl) rfl z_min boot_min (zb0 (QP.v (zg4 zn2 (QP.v (zi7 zt3 rfl z_len boot_len (zb0 (za6 0) zd0))) (QP.v zb5))) (zb0 (QP.v zb5) zd0)))) (zb0 (QP.v zb5) zd0)))) (ze9 (ze9 (ze9 (ze9 zk1)))))))
  (zc4 (zh7 (QT.e (zh2 (zo8 (Room.units hr)) (QP.v (zg4 zo7 (za6 1) (QP.v zb5))) (QP.v zb5) (zg1 _)))
   (zc5 (yc5 3 PassesOwn.never rfl zv5.nd rfl (by first | exact Or.inl rfl | exact Or.inr rfl) rfl rfl (zv4 rfl z_range (zb0 (QP.v (zg4 zn2 (QP.v zb5) (QP.v (zg4 zo7 (QP.v (zg4 yc4 (za6 1) (QP.v zb5))) (QP.v zb5))))) zd0))
   (zc4 (zi5 4 zv5.nd rfl (by first | exact Or.inl rfl | exact Or.inr rfl) rfl rfl (QP.e (zg4 zo7 (QP.v (zm9 D_l_mixed G_l_mixed hr rfl rfl (zb0 (za6 0) (zb0 (za6 3) (zb0 (QP.v zb5) zd0))) (ze9 (ze9 (ze9 zk1))))) (QP.v zb5))))
  (zc5 (zh7 (QT.e (zh2 (zo8 (Room.units hr)) (za6 4) (QP.v zb5) (zg1 _)))
   (zc5 (zi5 2 zv5.nd rfl (by first | exact Or.inl rfl | exact Or.inr rfl) rfl rfl (QP.e (zk8 (zb7 (zk8 (zb7 zf1 (zb7 (zg4 zo7 (QP.v (zm9 D_l_mixed G_l_mixed hr rfl rfl (zb0 (za6 0) (zb0 (za6 3) (zb0 (QP.v zb5) zd0))) (ze9 (ze9 (ze9 zk1))))) (QP.v zb5)) (zb7 (QV.p (za6 2)) ze0)))) ze0)))))
   (zc5 (zh7 (QT.e (zh2 (zo8 (Room.units hr)) (za6 4) (QP.v zb5) (zg1 _)))
   (zc5 (zi5 2 zv5.nd rfl (by first | exact Or.inl rfl | exact Or.inr rfl) rfl rfl (QP.e (zk8 (zb7 (zk8 (zb7 zf1 (zb7 (zk8 (zb7 (QV.p (za6 2)) (zb7 (zk8 (zb7 (zk8 (zb7 zf1 ze0)) ze0)) ze0))) ze0))) ze0)))))
   (zc5 (zi5 2 zv5.nd rfl (by first | exact Or.inl rfl | exact Or.inr rfl) rfl rfl (QP.e (zk8 (zb7 (zk8 (zb7 zf1 (zb7 (QV.p (za6 2)) ze0))) ze0))))))))))))
   zg5)
  (zc5 (yl3 2 rfl))))))
noncomputable def zz1 (g_l_same : (List D -> Option D)) : PSt -> Option (Fl × PSt) :=
  (za9 (fIf (za4 (fT (za3 zj8 (za0 (za1 1) (za0 (fC (.ty "tuple")) za2)))))
   (za9 (fIf (za4 (zh4 (zd7 (fT (za3 zj8 (za0 (za1 0) (za0 (fC (.ty "tuple")) za2))))) (fB (f2 dNe (za3 zb9 (za0 (za1 0) za2)) (za3 zb9 (za0 (za1 1) za2))))))
   (zb4 (za5 (fC (.bl false))))
   za7)
  (za9 (zl6 2 (zk9 (za0 (za3 zb9 (za0 (za1 1) za2)) za2))
   (fIf (za4 (zd7 (fT (za3 g_l_same (za0 (f2 dIx (za1 0) (za1 2)) (za0 (f2 dIx (za1 1) (za1 2)) za2))))))
   (zb4 (za5 (fC (.bl false))))
   za7))
  (zb4 (za5 (fC (.bl true))))))
   za7)
  (za9 (fIf (za4 (fT (za3 zj8 (za0 (za1 1) (za0 (fC (.ty "str")) za2)))))
   (zb4 (za5 (zj7 (za3 zj8 (za0 (za1 0) (za0 (fC (.ty "str")) za2))) (f2 dEq (za1 0) (za1 1)))))
   za7)
  (zb4 (za5 (zj7 (za3 zj8 (za0 (za1 0) (za0 (fC (.ty "int")) za2))) (zj7 (zq3 (za3 zj8 (za0 (za1 0) (za0 (fC (.ty "bool")) za2)))) (f2 dEq (za1 0) (za1 1))))))))
noncomputable abbrev zz2 : Stmt := top 36
theorem xe1 : FnScope ["_law_found", "_law_due", "_law_k"] ["_law_found", "_law_due"] (zc7 zz2) := ⟨rfl, rfl, rfl, by decide +kernel, rfl, by decide +kernel, by decide +kernel⟩
theorem wb4 {n : Nat} {f : Addr} {fd : FuncData} {g_l_same : (List D -> Option D)} (D_l_same : Dn K mg "_law_same" zz2 ["_law_found", "_law_due"] f fd)
    (G_l_same : FnOk P w K mg base CX0 n f fd ["_law_found", "_law_due"] (SpP 2 K κ g_l_same))
    (z_isinstance : mg "isinstance" = none)
    (z_tuple : mg "tuple" = none)
    (z_str : mg "str" = none)
    (z_range : mg "range" = none)
    (z_int : mg "int" = none)
    (z_len : mg "len" = none)
    (z_bool : mg "bool" = none) :
    FnOk P w K mg base CX0 (n + 1) f fd ["_law_found", "_law_due"] (SpP 2 K κ (gP 2 1 (zz1 g_l_same))) :=
  zm8 D_l_same.F xe1 fun cdv A outer s H E B hr =>
  (zc4 (zh7 (QT.e (zw6 (QP.v (zi7 yg9 rfl z_isinstance boot_isinstance (zb0 (za6 1) (zb0 (QP.v (yg7 rfl z_tuple boot_tuple)) zd0))))))
   (zc4 (zh7 (QT.e (ym7 (xf8 (yl1 (zw6 (QP.v (zi7 yg9 rfl z_isinstance boot_isinstance (zb0 (za6 0) (zb0 (QP.v (yg7 rfl z_tuple boot_tuple)) zd0)))))) (yw5 (zh2 (xu2 (Room.units hr)) (QP.v (zi7 zt3 rfl z_len boot_len (zb0 (za6 0) zd0))) (QP.v (zi7 zt3 rfl z_len boot_len (zb0 (za6 1) zd0))) (zg1 _))))))
   (zc5 (zh6 (QP.e yc2)))
   zg5)
  (zc4 (yc5 2 PassesOwn.never rfl xe1.nd rfl (by first | exact Or.inl rfl | exact Or.inr rfl) rfl rfl (zv4 rfl z_range (zb0 (QP.v (zi7 zt3 rfl z_len boot_len (zb0 (za6 1) zd0))) zd0))
   (zc5 (zh7 (QT.e (yl1 (zw6 (QP.v (zm9 D_l_same G_l_same hr rfl rfl (zb0 (zk3 (za6 0) (za6 2)) (zb0 (zk3 (za6 1) (za6 2)) zd0)) (ze9 (ze9 zk1)))))))
   (zc5 (zh6 (QP.e yc2)))
   zg5)))
  (zc5 (zh6 (QP.e yc2)))))
   zg5)
  (zc4 (zh7 (QT.e (zw6 (QP.v (zi7 yg9 rfl z_isinstance boot_isinstance (zb0 (za6 1) (zb0 (QP.v (yg7 rfl z_str boot_str)) zd0))))))
   (zc5 (zh6 (QP.e (yh6 (zi7 yg9 rfl z_isinstance boot_isinstance (zb0 (za6 0) (zb0 (QP.v (yg7 rfl z_str boot_str)) zd0))) (yl2 (zx9 (zo8 (Room.units hr)) (za6 0) (za6 1) (zg1 _)))))))
   zg5)
  (zc5 (zh6 (QP.e (yh6 (zi7 yg9 rfl z_isinstance boot_isinstance (zb0 (za6 0) (zb0 (QP.v (yg7 rfl z_int boot_int)) zd0))) (yh6 (xh8 (zi7 yg9 rfl z_isinstance boot_isinstance (zb0 (za6 0) (zb0 (QP.v (yg7 rfl z_bool boot_bool)) zd0)))) (yl2 (zx9 (zo8 (Room.units hr)) (za6 0) (za6 1) (zg1 _))))))))))
noncomputable def xn3 (g_l_some : (List D -> Option D)) (g_l_same : (List D -> Option D)) (g_p_read : (List D -> Option D)) (g_l_listed : (List D -> Option D)) : PSt -> Option (Fl × PSt) :=
  (za9 (zb1 1 (za5 (za3 g_l_some (za0 (za1 0) za2))))
  (zb4 (za5 (zj7 (za3 g_l_same (za0 (za3 g_p_read (za0 (fMt yj5 (fC (.str " ")) (za0 (za3 g_l_listed (za0 (za1 1) za2)) za2)) za2)) (za0 (za1 1) za2))) (za3 g_l_same (za0 (za3 g_p_read (za0 (fC (.str "")) za2)) (za0 (zd3 za2) za2)))))))
noncomputable abbrev yd2 : Stmt := top 37
theorem wb5 : FnScope ["_law_script", "_law_row_here"] ["_law_script"] (zc7 yd2) := ⟨rfl, rfl, rfl, by decide +kernel, rfl, by decide +kernel, by decide +kernel⟩
theorem ws5 {n : Nat} {f : Addr} {fd : FuncData} {g_l_some : (List D -> Option D)} {f_l_some : Addr} {fd_l_some : FuncData} {g_l_same : (List D -> Option D)} {f_l_same : Addr} {fd_l_same : FuncData} {g_p_read : (List D -> Option D)} {f_p_read : Addr} {fd_p_read : FuncData} {g_l_listed : (List D -> Option D)} {f_l_listed : Addr} {fd_l_listed : FuncData} (D_law : Dn K mg "law" yd2 ["_law_script"] f fd)
    (D_l_some : Dn K mg "_law_some" zv9 ["_law_script"] f_l_some fd_l_some) (G_l_some : FnOk P w K mg base CX0 n f_l_some fd_l_some ["_law_script"] (SpP 1 K κ g_l_some))
    (D_l_same : Dn K mg "_law_same" zz2 ["_law_found", "_law_due"] f_l_same fd_l_same) (G_l_same : FnOk P w K mg base CX0 n f_l_same fd_l_same ["_law_found", "_law_due"] (SpP 2 K κ g_l_same))
    (D_p_read : Dn K mg "read" zy8 ["text"] f_p_read fd_p_read) (G_p_read : FnOk P w K mg base CX0 n f_p_read fd_p_read ["text"] (SpP 1 K κ g_p_read))
    (D_l_listed : Dn K mg "_law_listed" zu5 ["_law_row_here"] f_l_listed fd_l_listed) (G_l_listed : FnOk P w K mg base CX0 n f_l_listed fd_l_listed ["_law_row_here"] (SpP 1 K κ g_l_listed)) :
    FnOk P w K mg base CX0 (n + 1) f fd ["_law_script"] (SpP 1 K κ (gP 1 1 (xn3 g_l_some g_l_same g_p_read g_l_listed))) :=
  zm8 D_law.F wb5 fun cdv A outer s H E B hr =>
  (zc4 (zi5 1 wb5.nd rfl (by first | exact Or.inl rfl | exact Or.inr rfl) rfl rfl (QP.e (zm9 D_l_some G_l_some hr rfl rfl (zb0 (za6 0) zd0) (ze9 zk1))))
  (zc5 (zh6 (QP.e (yh6 (zm9 D_l_same G_l_same hr rfl rfl (zb0 (QP.v (zm9 D_p_read G_p_read hr rfl rfl (zb0 (QP.v (ym9 PySem.F.slot_str_join PySem.F.type_str_join xi4 (QP.v zf1) (zb0 (QP.v (zm9 D_l_listed G_l_listed hr rfl rfl (zb0 (za6 1) zd0) (ze9 zk1))) zd0))) zd0) (ze9 zk1))) (zb0 (za6 1) zd0)) (ze9 (ze9 zk1))) (yl2 (zm9 D_l_same G_l_same hr rfl rfl (zb0 (QP.v (zm9 D_p_read G_p_read hr rfl rfl (zb0 (QP.v zf1) zd0) (ze9 zk1))) (zb0 (QP.v (zk8 ze0)) zd0)) (ze9 (ze9 zk1)))))))))
noncomputable def yj1  : PSt -> Option (Fl × PSt) :=
  (za9 (zf4 0 zb8 "Nest" "opener" (zb3 (za1 1)))
  (za9 (zf4 0 zb8 "Nest" "ended" (zc3 za2))
  (zf4 0 zb8 "Nest" "pieces" (zc3 za2))))
noncomputable abbrev zq6 : Stmt := ya1 (top 15) 0
theorem xk2 : FnScope ["self", "opener"] ["self", "opener"] (zc7 zq6) := ⟨rfl, rfl, rfl, by decide +kernel, rfl, by decide +kernel, by decide +kernel⟩
theorem xk3 {n : Nat} {f : Addr} {fd : FuncData}  (K_Nest : Kn K mg κ "Nest" "Nest.__init__" zq6 ["self", "opener"] f fd)
    (cl_Nest : Cls K (κ "Nest"))
    (na_opener : zi1 K (κ "Nest") "opener")
    (na_ended : zi1 K (κ "Nest") "ended")
    (na_pieces : zi1 K (κ "Nest") "pieces") :
    FnOk P w K mg base CX0 (n + 1) f fd ["self", "opener"] (SpE 2 K κ (zf2 [true, false]) (gE 2 0 (zf2 [true, false]) (yj1 ))) :=
  yj4 K_Nest.F xk2 (fun i hi => yd8 hi) fun cdv A outer s H E hr =>
  (zc4 (zt5 (C := "Nest") cl_Nest na_opener rfl (QV.p (za6 1)) (zg9 0))
  (zc4 (zt5 (C := "Nest") cl_Nest na_ended rfl (zk0 ze0) (zg9 0))
  (zc5 (zt5 (C := "Nest") cl_Nest na_pieces rfl (zk0 ze0) (zg9 0)))))
noncomputable def yd3  : PSt -> Option (Fl × PSt) :=
  (za9 (zc0 (zd2 0 (zh0 0 zb8 "Nest" "ended") (za0 (za3 zc1 (za0 (zf9 "Nest" "pieces" (za1 0)) za2)) za2) zb6))
  (zf4 0 zb8 "Nest" "pieces" (zc3 za2)))
noncomputable abbrev zp1 : Stmt := ya1 (top 15) 1
theorem yx7 : FnScope ["self"] ["self"] (zc7 zp1) := ⟨rfl, rfl, rfl, by decide +kernel, rfl, by decide +kernel, by decide +kernel⟩
theorem yx8 {n : Nat} {f : Addr} {fd : FuncData}  (M_Nest_end_row : Mn K κ "Nest" "end_row" "Nest.end_row" zp1 ["self"] f fd)
    (cl_Nest : Cls K (κ "Nest"))
    (na_pieces : zi1 K (κ "Nest") "pieces")
    (na_ended : zi1 K (κ "Nest") "ended")
    (z_tuple : mg "tuple" = none) :
    FnOk P w K mg base CX0 (n + 1) f fd ["self"] (SpE 1 K κ (zf2 [true]) (gE 1 0 (zf2 [true]) (yd3 ))) :=
  yj4 M_Nest_end_row.F yx7 (fun i hi => yd8 hi) fun cdv A outer s H E hr =>
  (zc4 (zm3 (zm5 (j := 0) rfl (zr9 (C := "Nest") cl_Nest na_ended (zg9 0)) (zb7 (zl9 zv0 rfl z_tuple boot_tuple (zb0 (zr4 (C := "Nest") cl_Nest na_pieces (za6 0)) zd0)) ze0)))
  (zc5 (zt5 (C := "Nest") cl_Nest na_pieces rfl (zk0 ze0) (zg9 0))))
noncomputable def zo4  : PSt -> Option (Fl × PSt) :=
  (za9 (fIf (za4 (fB (f2 dNe (f2 dIx (zf9 "Nest" "opener" (za1 0)) (fC (.int 0))) (f2 zt1 (fC (.dic false zl7 zy7)) (za1 1)))))
   (zb4 (za5 (fC (.bl false))))
   za7)
  (za9 (zb1 2 (za5 (f2 zc2 (za3 zb9 (za0 (zf9 "Nest" "ended" (za1 0)) za2)) (fC (.int 1)))))
  (za9 (fIf (za4 (fB (f2 dEq (za1 1) (fC (.str "or")))))
   (zb4 (za5 (f2 dLt (za1 2) (fC (.int 4)))))
   za7)
  (za9 (fIf (za4 (fB (f2 dEq (za1 1) (fC (.str "done")))))
   (zb4 (za5 (f2 dGe (za1 2) (fC (.int 2)))))
   za7)
  (zb4 (za5 (fC (.bl true))))))))
noncomputable abbrev zm7 : Stmt := ya1 (top 15) 2
theorem yf6 : FnScope ["self", "kind", "count"] ["self", "kind"] (zc7 zm7) := ⟨rfl, rfl, rfl, by decide +kernel, rfl, by decide +kernel, by decide +kernel⟩
theorem yq6 {n : Nat} {f : Addr} {fd : FuncData} {t_FEWEST_ROWS : Tok} {t_MOST_ROWS : Tok} {a_OPENER_OF : Addr} (M_Nest_can_end_by : Mn K κ "Nest" "can_end_by" "Nest.can_end_by" zm7 ["self", "kind"] f fd)
    (cl_Nest : Cls K (κ "Nest"))
    (na_opener : zi1 K (κ "Nest") "opener")
    (na_ended : zi1 K (κ "Nest") "ended")
    (z_len : mg "len" = none)
    (g_FEWEST_ROWS : mg "FEWEST_ROWS" = some (.int 2 t_FEWEST_ROWS))
    (g_MOST_ROWS : mg "MOST_ROWS" = some (.int 4 t_MOST_ROWS))
    (g_OPENER_OF : mg "OPENER_OF" = some (.ref a_OPENER_OF)) (k_OPENER_OF : yk5 P w K κ a_OPENER_OF zl7 zy7) :
    FnOk P w K mg base CX0 (n + 1) f fd ["self", "kind"] (SpP 2 K κ (gP 2 1 (zo4 ))) :=
  zm8 M_Nest_can_end_by.F yf6 fun cdv A outer s H E B hr =>
  (zc4 (zh7 (QT.e (zh2 (xu2 (Room.units hr)) (zk3 (zr4 (C := "Nest") cl_Nest na_opener (za6 0)) (QP.v zb5)) (ys1 rfl g_OPENER_OF k_OPENER_OF (za6 1)) (zg1 _)))
   (zc5 (zh6 (QP.e yc2)))
   zg5)
  (zc4 (zi5 2 yf6.nd rfl (by first | exact Or.inl rfl | exact Or.inr rfl) rfl rfl (QP.e (zg4 zn2 (QP.v (zi7 zt3 rfl z_len boot_len (zb0 (zr4 (C := "Nest") cl_Nest na_ended (za6 0)) zd0))) (QP.v zb5))))
  (zc4 (zh7 (QT.e (zh2 (zo8 (Room.units hr)) (za6 1) (QP.v zf1) (zg1 _)))
   (zc5 (zh6 (QP.e (zx9 (yg2 (Room.units0 hr)) (za6 2) (QP.v (zq7 (v := .int 4) (d := .int 4) rfl g_MOST_ROWS ⟨_, rfl⟩ (fun _ => .int 4))) (zg1 _)))))
   zg5)
  (zc4 (zh7 (QT.e (zh2 (zo8 (Room.units hr)) (za6 1) (QP.v zf1) (zg1 _)))
   (zc5 (zh6 (QP.e (zx9 xu1 (za6 2) (QP.v (zq7 (v := .int 2) (d := .int 2) rfl g_FEWEST_ROWS ⟨_, rfl⟩ (fun _ => .int 2))) (zg1 _)))))
   zg5)
  (zc5 (zh6 (QP.e yc2)))))))
noncomputable def zs8  : PSt -> Option (Fl × PSt) :=
  (za9 (zb1 1 (za5 (zb3 (f2 dIx (zf9 "Nest" "opener" (za1 0)) (fC (.int 0))))))
  (za9 (zb1 2 (za5 (za3 zc1 (za0 (zf9 "Nest" "pieces" (za1 0)) za2))))
  (za9 (fIf (za4 (fB (f2 dEq (za1 1) (fC (.str "open")))))
   (zb4 (za5 (zd3 (za0 (fC (.str "group")) (za0 (zb3 (za1 2)) za2)))))
   za7)
  (za9 (fIf (za4 (fB (f2 dEq (za1 1) (fC (.str "hang")))))
   (zb4 (za5 (zd3 (za0 (fC (.str "hang")) (za0 (zb3 (f2 dIx (zf9 "Nest" "opener" (za1 0)) (fC (.int 1)))) (za0 (zb3 (za1 2)) za2))))))
   za7)
  (zb4 (za5 (zd3 (za0 (fC (.str "either")) (za0 (za3 zc1 (za0 (f2 zc2 (zf9 "Nest" "ended" (za1 0)) (zc3 (za0 (zb3 (za1 2)) za2))) za2)) za2)))))))))
noncomputable abbrev zo2 : Stmt := ya1 (top 15) 3
theorem yb2 : FnScope ["self", "kind", "row"] ["self"] (zc7 zo2) := ⟨rfl, rfl, rfl, by decide +kernel, rfl, by decide +kernel, by decide +kernel⟩
theorem yv2 {n : Nat} {f : Addr} {fd : FuncData}  (M_Nest_as_piece : Mn K κ "Nest" "as_piece" "Nest.as_piece" zo2 ["self"] f fd)
    (cl_Nest : Cls K (κ "Nest"))
    (na_opener : zi1 K (κ "Nest") "opener")
    (na_pieces : zi1 K (κ "Nest") "pieces")
    (na_ended : zi1 K (κ "Nest") "ended")
    (z_tuple : mg "tuple" = none) :
    FnOk P w K mg base CX0 (n + 1) f fd ["self"] (SpP 1 K κ (gP 1 2 (zs8 ))) :=
  zm8 M_Nest_as_piece.F yb2 fun cdv A outer s H E B hr =>
  (zc4 (zi5 1 yb2.nd rfl (by first | exact Or.inl rfl | exact Or.inr rfl) rfl rfl (QP.e (QV.p (zk3 (zr4 (C := "Nest") cl_Nest na_opener (za6 0)) (QP.v zb5)))))
  (zc4 (zi5 2 yb2.nd rfl (by first | exact Or.inl rfl | exact Or.inr rfl) rfl rfl (QP.e (zl9 zv0 rfl z_tuple boot_tuple (zb0 (zr4 (C := "Nest") cl_Nest na_pieces (za6 0)) zd0))))
  (zc4 (zh7 (QT.e (zh2 (zo8 (Room.units hr)) (za6 1) (QP.v zf1) (zg1 _)))
   (zc5 (zh6 (QP.e (zk8 (zb7 zf1 (zb7 (QV.p (za6 2)) ze0))))))
   zg5)
  (zc4 (zh7 (QT.e (zh2 (zo8 (Room.units hr)) (za6 1) (QP.v zf1) (zg1 _)))
   (zc5 (zh6 (QP.e (zk8 (zb7 zf1 (zb7 (QV.p (zk3 (zr4 (C := "Nest") cl_Nest na_opener (za6 0)) (QP.v zb5))) (zb7 (QV.p (za6 2)) ze0)))))))
   zg5)
  (zc5 (zh6 (QP.e (zk8 (zb7 zf1 (zb7 (zl9 zv0 rfl z_tuple boot_tuple (zb0 (QP.v (zg4 zn2 (zr4 (C := "Nest") cl_Nest na_ended (za6 0)) (QP.v (zk0 (zb7 (QV.p (za6 2)) ze0))))) zd0)) ze0))))))))))
noncomputable def zx7 (g_Nest_init : (List D -> Option (D × List D))) : PSt -> Option (Fl × PSt) :=
  (za9 (zf4 0 zb8 "Builder" "taken" (fC (.int 0)))
  (zf4 0 zb8 "Builder" "nests" (zc3 (za0 (zh9 "Nest" (ze2 [.im (zd3 (za0 (fC (.str "row")) za2))]) g_Nest_init) za2))))
noncomputable abbrev zp2 : Stmt := ya1 (top 16) 0
theorem yx9 : FnScope ["self"] ["self"] (zc7 zp2) := ⟨rfl, rfl, rfl, by decide +kernel, rfl, by decide +kernel, by decide +kernel⟩
theorem yy0 {n : Nat} {f : Addr} {fd : FuncData} {g_Nest_init : (List D -> Option (D × List D))} {f_Nest_init : Addr} {fd_Nest_init : FuncData} (K_Builder : Kn K mg κ "Builder" "Builder.__init__" zp2 ["self"] f fd)
    (K_Nest : Kn K mg κ "Nest" "Nest.__init__" zq6 ["self", "opener"] f_Nest_init fd_Nest_init) (G_Nest_init : FnOk P w K mg base CX0 n f_Nest_init fd_Nest_init ["self", "opener"] (SpE 2 K κ (zf2 [true, false]) g_Nest_init))
    (cl_Builder : Cls K (κ "Builder"))
    (na_taken : zi1 K (κ "Builder") "taken")
    (na_nests : zi1 K (κ "Builder") "nests") :
    FnOk P w K mg base CX0 ((n + 1) + 1) f fd ["self"] (SpE 1 K κ (zf2 [true]) (gE 1 0 (zf2 [true]) (zx7 g_Nest_init))) :=
  yj4 K_Builder.F yx9 (fun i hi => yd8 hi) fun cdv A outer s H E hr =>
  (zc4 (zt5 (C := "Builder") cl_Builder na_taken rfl zb5 (zg9 0))
  (zc5 (zt5 (C := "Builder") cl_Builder na_nests rfl (zk0 (zb7 (ys3 K_Nest G_Nest_init hr rfl (yl4 (QP.v (zk8 (zb7 zf1 ze0))) yb8) rfl rfl (yc7 1)) ze0)) (zg9 0))))
noncomputable def zr8 (g_Nest_can_end_by : (List D -> Option D)) : PSt -> Option (Fl × PSt) :=
  (za9 (fIf (za4 (fB (f2 dGe (zf9 "Builder" "taken" (za1 0)) (fC (.int 200)))))
   (zb4 (za5 (fC (.bl false))))
   za7)
  (za9 (fIf (za4 (fB (f2 dIn (za1 1) (fC (.tup [(.str "open"), (.str "hang"), (.str "either")])))))
   (zb4 (za5 (f2 dLt (f2 ya6 (za3 zb9 (za0 (zf9 "Builder" "nests" (za1 0)) za2)) (fC (.int 1))) (fC (.int 12)))))
   za7)
  (za9 (fIf (za4 (zk5 zl7 (za1 1)))
   (zb4 (za5 (za3 g_Nest_can_end_by (za0 (zf0 "Nest" "can_end_by" (f2 dIx (zf9 "Builder" "nests" (za1 0)) (zf6 (fC (.int 1))))) (za0 (za1 1) za2)))))
   za7)
  (zb4 (za5 (fC (.bl true)))))))
noncomputable abbrev zl3 : Stmt := ya1 (top 16) 1
theorem yn4 : FnScope ["self", "kind"] ["self", "kind"] (zc7 zl3) := ⟨rfl, rfl, rfl, by decide +kernel, rfl, by decide +kernel, by decide +kernel⟩
theorem yn5 {n : Nat} {f : Addr} {fd : FuncData} {g_Nest_can_end_by : (List D -> Option D)} {f_Nest_can_end_by : Addr} {fd_Nest_can_end_by : FuncData} {t_DEEPEST : Tok} {t_MOST_TOKENS : Tok} {a_OPENERS : Addr} {a_OPENER_OF : Addr} (M_Builder_can_stand : Mn K κ "Builder" "can_stand" "Builder.can_stand" zl3 ["self", "kind"] f fd)
    (M_Nest_can_end_by : Mn K κ "Nest" "can_end_by" "Nest.can_end_by" zm7 ["self", "kind"] f_Nest_can_end_by fd_Nest_can_end_by) (G_Nest_can_end_by : FnOk P w K mg base CX0 n f_Nest_can_end_by fd_Nest_can_end_by ["self", "kind"] (SpP 2 K κ g_Nest_can_end_by))
    (cl_Builder : Cls K (κ "Builder"))
    (na_taken : zi1 K (κ "Builder") "taken")
    (na_nests : zi1 K (κ "Builder") "nests")
    (z_len : mg "len" = none)
    (g_DEEPEST : mg "DEEPEST" = some (.int 12 t_DEEPEST))
    (g_MOST_TOKENS : mg "MOST_TOKENS" = some (.int 200 t_MOST_TOKENS))
    (g_OPENERS : mg "OPENERS" = some (.ref a_OPENERS)) (k_OPENERS : ∀ H, Rep K κ H (.ref a_OPENERS) (.tup [(.str "open"), (.str "hang"), (.str "either")]) [])
    (g_OPENER_OF : mg "OPENER_OF" = some (.ref a_OPENER_OF)) (k_OPENER_OF : yk5 P w K κ a_OPENER_OF zl7 zy7) :
    FnOk P w K mg base CX0 (n + 1) f fd ["self", "kind"] (SpP 2 K κ (gP 2 0 (zr8 g_Nest_can_end_by))) :=
  zm8 M_Builder_can_stand.F yn4 fun cdv A outer s H E B hr =>
  (zc4 (zh7 (QT.e (zh2 xu1 (zr4 (C := "Builder") cl_Builder na_taken (za6 0)) (QP.v (zq7 (v := .int 200) (d := .int 200) rfl g_MOST_TOKENS ⟨_, rfl⟩ (fun _ => .int 200))) (zg1 _)))
   (zc5 (zh6 (QP.e yc2)))
   zg5)
  (zc4 (zh7 (QT.e (zh2 xu3 (za6 1) (QP.v (zq7 (v := .ref a_OPENERS) (d := (.tup [(.str "open"), (.str "hang"), (.str "either")])) rfl g_OPENERS rfl k_OPENERS)) (by with_unfolding_all rfl)))
   (zc5 (zh6 (QP.e (zx9 (yg2 (Room.units0 hr)) (QP.v (zg4 xt9 (QP.v (zi7 zt3 rfl z_len boot_len (zb0 (zr4 (C := "Builder") cl_Builder na_nests (za6 0)) zd0))) (QP.v zb5))) (QP.v (zq7 (v := .int 12) (d := .int 12) rfl g_DEEPEST ⟨_, rfl⟩ (fun _ => .int 12))) (zg1 _)))))
   zg5)
  (zc4 (zh7 (QT.e (yq2 rfl g_OPENER_OF k_OPENER_OF (za6 1)))
   (zc5 (zh6 (QP.e (ys2 M_Nest_can_end_by G_Nest_can_end_by hr (zk3 (zr4 (C := "Builder") cl_Builder na_nests (za6 0)) (QP.v (zu9 (QP.v zb5)))) rfl (zb0 (za6 1) zd0) (ze9 zk1)))))
   zg5)
  (zc5 (zh6 (QP.e yc2))))))
noncomputable def zv2 (g_Builder_can_stand : (List D -> Option D)) (g_Nest_init : (List D -> Option (D × List D))) (g_Nest_end_row : (List D -> Option (D × List D))) (g_Nest_as_piece : (List D -> Option D)) : PSt -> Option (Fl × PSt) :=
  (za9 (zb1 2 (za5 (zb3 (f2 dIx (za1 1) (fC (.int 0))))))
  (za9 (fIf (za4 (zd7 (fT (za3 g_Builder_can_stand (za0 (zf0 "Builder" "can_stand" (za1 0)) (za0 (za1 2) za2))))))
   yd1
   za7)
  (za9 (zf4 0 zb8 "Builder" "taken" (f2 zc2 (zf9 "Builder" "taken" (za1 0)) (fC (.int 1))))
  (fIf (za4 (fB (f2 dIn (za1 2) (fC (.tup [(.str "open"), (.str "hang"), (.str "either")])))))
   (zc0 (zd2 0 (zh0 0 zb8 "Builder" "nests") (za0 (zh9 "Nest" (ze2 [.im (za1 1)]) g_Nest_init) za2) zb6))
   (fIf (za4 (fB (f2 dEq (za1 2) (fC (.str "or")))))
   (zc0 (zd2 0 (zf7 0 (zh0 0 zb8 "Builder" "nests") (zf6 (fC (.int 1)))) za2 (zx6 "Nest" "end_row" g_Nest_end_row)))
   (fIf (za4 (zk5 zl7 (za1 2)))
   (za9 (zb1 3 (zd2 0 (zh0 0 zb8 "Builder" "nests") za2 zj2))
  (zc0 (zd2 0 (zh0 0 (zf7 0 (zh0 0 zb8 "Builder" "nests") (zf6 (fC (.int 1)))) "Nest" "pieces") (za0 (za3 g_Nest_as_piece (za0 (zf0 "Nest" "as_piece" (za1 3)) za2)) za2) zb6)))
   (zc0 (zd2 0 (zh0 0 (zf7 0 (zh0 0 zb8 "Builder" "nests") (zf6 (fC (.int 1)))) "Nest" "pieces") (za0 (zb3 (za1 1)) za2) zb6))))))))
noncomputable abbrev zp7 : Stmt := ya1 (top 16) 2
theorem yd9 : FnScope ["self", "token", "kind", "nest"] ["self", "token"] (zc7 zp7) := ⟨rfl, rfl, rfl, by decide +kernel, rfl, by decide +kernel, by decide +kernel⟩
theorem xb7 {n : Nat} {f : Addr} {fd : FuncData} {g_Builder_can_stand : (List D -> Option D)} {f_Builder_can_stand : Addr} {fd_Builder_can_stand : FuncData} {g_Nest_init : (List D -> Option (D × List D))} {f_Nest_init : Addr} {fd_Nest_init : FuncData} {g_Nest_end_row : (List D -> Option (D × List D))} {f_Nest_end_row : Addr} {fd_Nest_end_row : FuncData} {g_Nest_as_piece : (List D -> Option D)} {f_Nest_as_piece : Addr} {fd_Nest_as_piece : FuncData} {a_OPENERS : Addr} {a_OPENER_OF : Addr} (M_Builder_add : Mn K κ "Builder" "add" "Builder.add" zp7 ["self", "token"] f fd)
    (M_Builder_can_stand : Mn K κ "Builder" "can_stand" "Builder.can_stand" zl3 ["self", "kind"] f_Builder_can_stand fd_Builder_can_stand) (G_Builder_can_stand : FnOk P w K mg base CX0 (n + 1) f_Builder_can_stand fd_Builder_can_stand ["self", "kind"] (SpP 2 K κ g_Builder_can_stand))
    (K_Nest : Kn K mg κ "Nest" "Nest.__init__" zq6 ["self", "opener"] f_Nest_init fd_Nest_init) (G_Nest_init : FnOk P w K mg base CX0 n f_Nest_init fd_Nest_init ["self", "opener"] (SpE 2 K κ (zf2 [true, false]) g_Nest_init))
    (M_Nest_end_row : Mn K κ "Nest" "end_row" "Nest.end_row" zp1 ["self"] f_Nest_end_row fd_Nest_end_row) (G_Nest_end_row : FnOk P w K mg base CX0 (n + 1) f_Nest_end_row fd_Nest_end_row ["self"] (SpE 1 K κ (zf2 [true]) g_Nest_end_row))
    (M_Nest_as_piece : Mn K κ "Nest" "as_piece" "Nest.as_piece" zo2 ["self"] f_Nest_as_piece fd_Nest_as_piece) (G_Nest_as_piece : FnOk P w K mg base CX0 (n + 1) f_Nest_as_piece fd_Nest_as_piece ["self"] (SpP 1 K κ g_Nest_as_piece))
    (cl_Builder : Cls K (κ "Builder"))
    (cl_Nest : Cls K (κ "Nest"))
    (na_taken : zi1 K (κ "Builder") "taken")
    (na_nests : zi1 K (κ "Builder") "nests")
    (na_pieces : zi1 K (κ "Nest") "pieces")
    (g_OPENERS : mg "OPENERS" = some (.ref a_OPENERS)) (k_OPENERS : ∀ H, Rep K κ H (.ref a_OPENERS) (.tup [(.str "open"), (.str "hang"), (.str "either")]) [])
    (g_OPENER_OF : mg "OPENER_OF" = some (.ref a_OPENER_OF)) (k_OPENER_OF : yk5 P w K κ a_OPENER_OF zl7 zy7) :
    FnOk P w K mg base CX0 ((n + 1) + 1) f fd ["self", "token"] (SpE 2 K κ (zf2 [true, false]) (gE 2 2 (zf2 [true, false]) (zv2 g_Builder_can_stand g_Nest_init g_Nest_end_row g_Nest_as_piece))) :=
  yj4 M_Builder_add.F yd9 (fun i hi => yd8 hi) fun cdv A outer s H E hr =>
  (zc4 (zi5 2 yd9.nd rfl (by first | exact Or.inl rfl | exact Or.inr rfl) rfl rfl (QP.e (QV.p (zk3 (za6 1) (QP.v zb5)))))
  (zc4 (zh7 (QT.e (yl1 (zw6 (QP.v (ys2 M_Builder_can_stand G_Builder_can_stand hr (za6 0) rfl (zb0 (za6 2) zd0) (ze9 zk1))))))
   (zc5 yh7)
   zg5)
  (zc4 (zt5 (C := "Builder") cl_Builder na_taken rfl (zg4 zn2 (zr4 (C := "Builder") cl_Builder na_taken (za6 0)) (QP.v zb5)) (zg9 0))
  (zc5 (zh7 (QT.e (zh2 xu3 (za6 2) (QP.v (zq7 (v := .ref a_OPENERS) (d := (.tup [(.str "open"), (.str "hang"), (.str "either")])) rfl g_OPENERS rfl k_OPENERS)) (by with_unfolding_all rfl)))
   (zc5 (zm3 (zm5 (j := 0) rfl (zr9 (C := "Builder") cl_Builder na_nests (zg9 0)) (zb7 (ys3 K_Nest G_Nest_init hr rfl (yl4 (za6 1) yb8) rfl rfl (yc7 1)) ze0))))
   (zc5 (zh7 (QT.e (zh2 (zo8 (Room.units hr)) (za6 2) (QP.v zf1) (zg1 _)))
   (zc5 (zm3 (yu9 M_Nest_end_row G_Nest_end_row hr rfl (zq9 (zr9 (C := "Builder") cl_Builder na_nests (zg9 0)) (QP.v (zu9 (QP.v zb5)))) (yc7 0))))
   (zc5 (zh7 (QT.e (yq2 rfl g_OPENER_OF k_OPENER_OF (za6 2)))
   (zc4 (zi5 3 yd9.nd rfl (by first | exact Or.inl rfl | exact Or.inr rfl) rfl rfl (yw8 (j := 0) rfl (zr9 (C := "Builder") cl_Builder na_nests (zg9 0))))
  (zc5 (zm3 (zm5 (j := 0) rfl (zr9 (C := "Nest") cl_Nest na_pieces (zq9 (zr9 (C := "Builder") cl_Builder na_nests (zg9 0)) (QP.v (zu9 (QP.v zb5))))) (zb7 (yh9 M_Nest_as_piece G_Nest_as_piece hr (za6 3)) ze0)))))
   (zc5 (zm3 (zm5 (j := 0) rfl (zr9 (C := "Nest") cl_Nest na_pieces (zq9 (zr9 (C := "Builder") cl_Builder na_nests (zg9 0)) (QP.v (zu9 (QP.v zb5))))) (zb7 (QV.p (za6 1)) ze0)))))))))))))
noncomputable def yb9  : PSt -> Option (Fl × PSt) :=
  (zb4 (za5 (za3 zc1 (za0 (zf9 "Nest" "pieces" (f2 dIx (zf9 "Builder" "nests" (za1 0)) (fC (.int 0)))) za2))))
noncomputable abbrev zl0 : Stmt := ya1 (top 16) 3
theorem yl5 : FnScope ["self"] ["self"] (zc7 zl0) := ⟨rfl, rfl, rfl, by decide +kernel, rfl, by decide +kernel, by decide +kernel⟩
theorem yl6 {n : Nat} {f : Addr} {fd : FuncData}  (M_Builder_row_so_far : Mn K κ "Builder" "row_so_far" "Builder.row_so_far" zl0 ["self"] f fd)
    (cl_Builder : Cls K (κ "Builder"))
    (cl_Nest : Cls K (κ "Nest"))
    (na_pieces : zi1 K (κ "Nest") "pieces")
    (na_nests : zi1 K (κ "Builder") "nests")
    (z_tuple : mg "tuple" = none) :
    FnOk P w K mg base CX0 (n + 1) f fd ["self"] (SpP 1 K κ (gP 1 0 (yb9 ))) :=
  zm8 M_Builder_row_so_far.F yl5 fun cdv A outer s H E B hr =>
  (zc5 (zh6 (QP.e (zl9 zv0 rfl z_tuple boot_tuple (zb0 (zr4 (C := "Nest") cl_Nest na_pieces (zk3 (zr4 (C := "Builder") cl_Builder na_nests (za6 0)) (QP.v zb5))) zd0)))))
noncomputable def zw4 (g_Builder_row_so_far : (List D -> Option D)) : PSt -> Option (Fl × PSt) :=
  (za9 (fIf (za4 (fB (f2 dGt (za3 zb9 (za0 (zf9 "Builder" "nests" (za1 0)) za2)) (fC (.int 1)))))
   yd1
   za7)
  (zb4 (za5 (za3 g_Builder_row_so_far (za0 (zf0 "Builder" "row_so_far" (za1 0)) za2)))))
noncomputable abbrev zl4 : Stmt := ya1 (top 16) 4
theorem yn6 : FnScope ["self"] ["self"] (zc7 zl4) := ⟨rfl, rfl, rfl, by decide +kernel, rfl, by decide +kernel, by decide +kernel⟩
theorem yn7 {n : Nat} {f : Addr} {fd : FuncData} {g_Builder_row_so_far : (List D -> Option D)} {f_Builder_row_so_far : Addr} {fd_Builder_row_so_far : FuncData} (M_Builder_whole_row : Mn K κ "Builder" "whole_row" "Builder.whole_row" zl4 ["self"] f fd)
    (M_Builder_row_so_far : Mn K κ "Builder" "row_so_far" "Builder.row_so_far" zl0 ["self"] f_Builder_row_so_far fd_Builder_row_so_far) (G_Builder_row_so_far : FnOk P w K mg base CX0 n f_Builder_row_so_far fd_Builder_row_so_far ["self"] (SpP 1 K κ g_Builder_row_so_far))
    (cl_Builder : Cls K (κ "Builder"))
    (na_nests : zi1 K (κ "Builder") "nests")
    (z_len : mg "len" = none) :
    FnOk P w K mg base CX0 (n + 1) f fd ["self"] (SpP 1 K κ (gP 1 0 (zw4 g_Builder_row_so_far))) :=
  zm8 M_Builder_whole_row.F yn6 fun cdv A outer s H E B hr =>
  (zc4 (zh7 (QT.e (zh2 yu1 (QP.v (zi7 zt3 rfl z_len boot_len (zb0 (zr4 (C := "Builder") cl_Builder na_nests (za6 0)) zd0))) (QP.v zb5) (zg1 _)))
   (zc5 yh7)
   zg5)
  (zc5 (zh6 (QP.e (yh9 M_Builder_row_so_far G_Builder_row_so_far hr (za6 0))))))
end L3
namespace My
open PySem PySem.Spec PyProof.Rows L2 L3
noncomputable def zk4 : Leaf -> D
  | .word x => .tup [.str "word", .str x]
  | .gap x => .tup [.str "gap", .str x]
  | .stop c => .tup [.str "stop", .int c]
  | .fin => .tup [.str "end"]
noncomputable def tkD : Tk -> D
  | .leaf l => zk4 l
  | .opn => .tup [.str "open"]
  | .cls => .tup [.str "close"]
  | .hng n => .tup [.str "hang", .int n]
  | .bck => .tup [.str "back"]
  | .eit => .tup [.str "either"]
  | .orr => .tup [.str "or"]
  | .don => .tup [.str "done"]
mutual
noncomputable def pcD : Pc -> D
  | .leaf l => zk4 l
  | .group r => .tup [.str "group", .tup (zd4 r)]
  | .hang n r => .tup [.str "hang", .int n, .tup (zd4 r)]
  | .either rs => .tup [.str "either", .tup (zg0 rs)]
noncomputable def zd4 : List Pc -> List D
  | [] => []
  | p :: r => pcD p :: zd4 r
noncomputable def zg0 : List (List Pc) -> List D
  | [] => []
  | r :: rs => .tup (zd4 r) :: zg0 rs
end
theorem yv3 (l : Leaf) : (zk4 l).imm = true := by cases l <;> rfl
theorem yy1 (t : Tk) : (tkD t).imm = true := by cases t <;> first | rfl | exact yv3 _
theorem yi2 : ∀ a b : List D, D.imms (a ++ b) = (D.imms a && D.imms b)
  | [], b => by simp [D.imms]
  | x :: a, b => by simp [D.imms, yi2 a b, Bool.and_assoc]
mutual
theorem yq7 : ∀ p : Pc, (pcD p).imm = true
  | .leaf l => yv3 l
  | .group r => by show (D.imm (.str "group") && (D.imm (.tup (zd4 r)) && D.imms [])) = true; rw [show D.imm (.tup (zd4 r)) = D.imms (zd4 r) from rfl, zn6 r]; rfl
  | .hang n r => by show (D.imm (.str "hang") && (D.imm (.int n) && (D.imm (.tup (zd4 r)) && D.imms []))) = true; rw [show D.imm (.tup (zd4 r)) = D.imms (zd4 r) from rfl, zn6 r]; rfl
  | .either rs => by show (D.imm (.str "either") && (D.imm (.tup (zg0 rs)) && D.imms [])) = true; rw [show D.imm (.tup (zg0 rs)) = D.imms (zg0 rs) from rfl, zy3 rs]; rfl
theorem zn6 : ∀ r : List Pc, D.imms (zd4 r) = true
  | [] => rfl
  | p :: r => by show (D.imm (pcD p) && D.imms (zd4 r)) = true; rw [yq7 p, zn6 r]; rfl
theorem zy3 : ∀ rs : List (List Pc), D.imms (zg0 rs) = true
  | [] => rfl
  | r :: rs => by show (D.imm (.tup (zd4 r)) && D.imms (zg0 rs)) = true; rw [show D.imm (.tup (zd4 r)) = D.imms (zd4 r) from rfl, zn6 r, zy3 rs]; rfl
end
theorem yi3 : ∀ a b : List Pc, zd4 (a ++ b) = zd4 a ++ zd4 b
  | [], b => rfl
  | p :: a, b => by show pcD p :: zd4 (a ++ b) = pcD p :: (zd4 a ++ zd4 b); rw [yi3 a b]
theorem yf7 : ∀ a b : List (List Pc), zg0 (a ++ b) = zg0 a ++ zg0 b
  | [], b => rfl
  | p :: a, b => by show D.tup (zd4 p) :: zg0 (a ++ b) = D.tup (zd4 p) :: (zg0 a ++ zg0 b); rw [yf7 a b]
theorem ye0 : ∀ a : List Pc, (zd4 a).length = a.length
  | [] => rfl
  | p :: a => by show (zd4 a).length + 1 = a.length + 1; rw [ye0 a]
theorem zp3 : ∀ a : List (List Pc), (zg0 a).length = a.length
  | [] => rfl
  | p :: a => by show (zg0 a).length + 1 = a.length + 1; rw [zp3 a]
theorem xq7 {α β : Type} (f : α -> β) (hf : ∀ a b, f a = f b -> a = b) : ∀ {l m : List α}, l.map f = m.map f -> l = m
  | [], [], _ => rfl
  | [], _ :: _, h => by simp at h
  | _ :: _, [], h => by simp at h
  | a :: l, b :: m, h => by
    simp only [List.map_cons, List.cons.injEq] at h
    rw [hf a b h.1, xq7 f hf h.2]
theorem za8 (a b : String) : (Str.ofString a = Str.ofString b) = (a = b) := by
  refine propext ⟨fun h => ?_, fun h => by rw [h]⟩
  rw [Str.ofString_eq_toList, Str.ofString_eq_toList] at h
  have h1 : (a.toList.map Char.toNat).toArray = (b.toList.map Char.toNat).toArray := (Str.mk.inj h)
  have h2 : a.toList.map Char.toNat = b.toList.map Char.toNat := by simpa using congrArg Array.toList h1
  have h3 : a.toList = b.toList := xq7 _ (fun x y e => by
    have : Char.ofNat x.toNat = Char.ofNat y.toNat := by rw [e]
    simpa using this) h2
  exact String.toList_inj.mp h3
theorem zd6 {α : Type} (a : α) (l : List α) : atI (a :: l) 0 = some a := by simp [atI, ixN]
theorem zd9 {α : Type} (a b : α) (l : List α) : atI (a :: b :: l) 1 = some b := by
  have h : ixN (a :: b :: l).length 1 = some 1 := by unfold ixN; rw [if_pos (by decide), if_pos (by simp only [List.length_cons]; omega)]; rfl
  simp only [atI, h]; rfl
theorem zd8 {α : Type} (a b c : α) (l : List α) : atI (a :: b :: c :: l) 2 = some c := by
  have h : ixN (a :: b :: c :: l).length 2 = some 2 := by unfold ixN; rw [if_pos (by decide), if_pos (by simp only [List.length_cons]; omega)]; rfl
  simp only [atI, h]; rfl
theorem sz {n : Nat} (h : n <= 1000) : n <= sizeLine := xf7 h
theorem sz1 {n : Nat} (h : n <= 1000) : n < sizeLine := xd0 h
theorem wg8 {r : List Pc} {p : Pc} (h : p ∈ r) : (zh1 p).length <= (zc6 r).length := by
  induction r with
  | nil => simp at h
  | cons q r ih =>
    show _ <= (zh1 q ++ zc6 r).length
    rw [List.length_append]
    rcases List.mem_cons.mp h with e | e
    . subst e; omega
    . have := ih e; omega
theorem xo1 {rs : List (List Pc)} {r : List Pc} (h : r ∈ rs) : (zc6 r).length <= (ze4 rs).length := by
  induction rs with
  | nil => simp at h
  | cons q rs ih =>
    show _ <= (Tk.orr :: (zc6 q ++ ze4 rs)).length
    rw [List.length_cons, List.length_append]
    rcases List.mem_cons.mp h with e | e
    . subst e; omega
    . have := ih e; omega
theorem xo2 {rs : List (List Pc)} {r : List Pc} (h : r ∈ rs) : (zc6 r).length <= (zr0 rs).length := by
  cases rs with
  | nil => simp at h
  | cons q rs =>
    show _ <= (zc6 q ++ ze4 rs).length
    rw [List.length_append]
    rcases List.mem_cons.mp h with e | e
    . subst e; omega
    . have := xo1 e; omega
end My
namespace My
open PySem PySem.Spec PyProof.Rows L2 L3
theorem ze6 (n : Nat) : ixN (n + 1) (-1) = some n := by
  unfold ixN
  rw [if_neg (by decide), if_pos (by omega)]
  congr 1
  omega
theorem ze7 {α : Type} (l : List α) (a b : α) : (l ++ [a]).set l.length b = l ++ [b] := by
  induction l with
  | nil => rfl
  | cons x l ih => show x :: (l ++ [a]).set l.length b = _; rw [ih]; rfl
theorem zk2 (n : Nat) : ixN (n + 1) 0 = some 0 := by unfold ixN; rw [if_pos (by decide), if_pos (by omega)]; rfl
theorem zg2 (i j : Int) : zl5 (.int i) (.int j) = if 0 < j then some (.int (i % j)) else none := by simp [zl5, dII]
theorem zg3 (i j : Int) : zs5 (.int i) (.int j) = if 0 < j /\ j < 1073741824 then some (.int (i / j)) else none := by simp [zs5, dII]
theorem zt2 (x y : Str) : (x ++ y).cps.toList = x.cps.toList ++ y.cps.toList := by
  show (x.cps ++ y.cps).toList = _
  simp
theorem zj1 (x y : Str) : (x ++ y).length = x.length + y.length := by
  show (x.cps ++ y.cps).size = x.cps.size + y.cps.size
  simp
noncomputable def sg : Str := ("abcdefghijklmnopqrstuvwxyzABCDEFGHIJKLMNOPQRSTUVWXYZ0123456789" : Str) ++ ("!\"#$&'()*+,-./:;<=>?\x40[\\]^_`{|}~" : Str)
theorem wb6 : sg.cps.toList.length = 93 := by decide +kernel
theorem wm8 : sg.cps.toList.all yh1 = true := by decide +kernel
theorem wm9 : sg.length <= sizeLine := by
  have e : sg.length = sg.cps.toList.length := by simp [Str.length]
  rw [e, wb6]; exact sz (by decide)
theorem ye1 {α : Type} (xs : List α) (i : Int) (h0 : 0 <= i) (h1 : i < xs.length) : ∃ v ∈ xs, atI xs i = some v := by
  have hn : i.toNat < xs.length := by omega
  obtain ⟨v, hv⟩ : ∃ v, xs[i.toNat]? = some v := ⟨_, List.getElem?_eq_getElem hn⟩
  refine ⟨v, List.mem_of_getElem? hv, ?_⟩
  have e : i = ((i.toNat : Nat) : Int) := by omega
  rw [e]
  exact xa7 hv
theorem ww5 (i : Int) (h0 : 0 <= i) (h1 : i < 93) : ∃ c, atI sg.cps.toList i = some c /\ yh1 c = true := by
  obtain ⟨c, hc, e⟩ := ye1 sg.cps.toList i h0 (by rw [wb6]; omega)
  exact ⟨c, e, List.all_eq_true.mp wm8 c hc⟩
theorem yl7 (n : Nat) : zt6 0 n = ((List.range n).map fun (k : Nat) => (k : Int)).map .int := by
  unfold zt6
  rw [List.map_map]
  refine List.map_congr_left fun k _ => ?_
  show D.int (0 + (k : Int)) = D.int (k : Int)
  rw [Int.zero_add]
theorem wn0 (m : Int) : ∃ s : Int, atI [D.int 1, .int 2, .int 3, .int 4, .int 5, .int 6, .int 7, .int 8, .int 10, .int 11, .int 9, .int 12] (m % 12) = some (.int s) /\ 1 <= s /\ s <= 12 := by
  have h0 := Int.emod_nonneg m (show (12 : Int) ≠ 0 by decide)
  have h1 := Int.emod_lt_of_pos m (show (0 : Int) < 12 by decide)
  obtain ⟨d, hd, e⟩ := ye1 [D.int 1, .int 2, .int 3, .int 4, .int 5, .int 6, .int 7, .int 8, .int 10, .int 11, .int 9, .int 12] (m % 12) h0 (by simpa using h1)
  simp only [List.mem_cons, List.not_mem_nil, or_false] at hd
  rcases hd with rfl | rfl | rfl | rfl | rfl | rfl | rfl | rfl | rfl | rfl | rfl | rfl <;> exact ⟨_, e, by decide, by decide⟩
theorem ws6 (k : Int) : ∃ x : Str, atI [D.str (Str.ofString " "), .str (Str.ofString " "), .str (Str.ofString " "), .str (Str.ofString "")] (k % 4) = some (.str x) /\ (x = "" \/ x = " ") := by
  have h0 := Int.emod_nonneg k (show (4 : Int) ≠ 0 by decide)
  have h1 := Int.emod_lt_of_pos k (show (0 : Int) < 4 by decide)
  obtain ⟨d, hd, e⟩ := ye1 [D.str (Str.ofString " "), .str (Str.ofString " "), .str (Str.ofString " "), .str (Str.ofString "")] (k % 4) h0 (by simpa using h1)
  simp only [List.mem_cons, List.not_mem_nil, or_false] at hd
  rcases hd with rfl | rfl | rfl | rfl
  . exact ⟨_, e, .inr rfl⟩
  . exact ⟨_, e, .inr rfl⟩
  . exact ⟨_, e, .inr rfl⟩
  . exact ⟨_, e, .inl rfl⟩
theorem wn1 (a b k : Int) (ha : 0 <= a /\ a <= 40) (hb : 0 <= b /\ b <= 40) : ∃ c : Int, atI [D.int a, .int b] (k % 2) = some (.int c) /\ 0 <= c /\ c <= 40 := by
  have h0 := Int.emod_nonneg k (show (2 : Int) ≠ 0 by decide)
  have h1 := Int.emod_lt_of_pos k (show (0 : Int) < 2 by decide)
  obtain ⟨d, hd, e⟩ := ye1 [D.int a, .int b] (k % 2) h0 (by simpa using h1)
  simp only [List.mem_cons, List.not_mem_nil, or_false] at hd
  rcases hd with rfl | rfl
  . exact ⟨_, e, ha⟩
  . exact ⟨_, e, hb⟩
theorem wy6 {α : Type} (a b c d : α) : atI [a, b, c, d] 3 = some d := rfl
theorem wn2 {i j : Int} (h1 : -1000000 <= i) (h2 : i <= 1000000) (h3 : -1000000 <= j) (h4 : j <= 1000000) : xg1 [.int i, .int j] = some (zt6 i (j - i).toNat) := by
  rw [xg1]
  exact if_pos ⟨by omega, by omega, by omega, by omega⟩
theorem yl8 {j : Int} (h3 : -1000000 <= j) (h4 : j <= 1000000) : ya3 [.int j] = some (zt6 0 j.toNat) := by
  rw [ya3]
  exact if_pos ⟨by omega, by omega⟩
theorem ws7 (a : Int) (n : Nat) : zt6 a n = ((List.range n).map fun (k : Nat) => a + (k : Int)).map .int := by
  unfold zt6
  rw [List.map_map]; rfl
theorem zb2 {f g : PSt -> Option (Fl × PSt)} {p p' : PSt} (h : f p = some (.nx, p')) : za9 f g p = g p' := by unfold za9; rw [h]; rfl
theorem zu2 {f g : PSt -> Option (Fl × PSt)} {p p' : PSt} {d : D} (h : f p = some (.ret d, p')) : za9 f g p = some (.ret d, p') := by unfold za9; rw [h]; rfl
theorem zz8 {c : PSt -> Option (Bool × PSt)} {f g : PSt -> Option (Fl × PSt)} {p p' : PSt} (h : c p = some (true, p')) : fIf c f g p = f p' := by unfold fIf; rw [h]; rfl
theorem zq8 {c : PSt -> Option (Bool × PSt)} {f g : PSt -> Option (Fl × PSt)} {p p' : PSt} (h : c p = some (false, p')) : fIf c f g p = g p' := by unfold fIf; rw [h]; rfl
theorem zm4 {i : Nat} {f : PSt -> Option D} {p : PSt} {d : D} (h : f p = some d) : zb1 i (za5 f) p = some (.nx, p.set i (some d)) := by unfold zb1 za5; rw [h]; rfl
theorem zn7 {f : PSt -> Option D} {p : PSt} {d : D} (h : f p = some d) : zb4 (za5 f) p = some (.ret d, p) := by unfold zb4 za5; rw [h]; rfl
theorem zo9 {np n : Nat} {f : PSt -> Option (Fl × PSt)} {ds : List D} {d : D} {p : PSt} (hl : ds.length = np) (h : f (ds.map some ++ List.replicate n none) = some (.ret d, p)) : gP np n f ds = some d := by
  unfold gP; rw [if_pos hl, h]; rfl
theorem zh5 {g : D -> D -> Option D} {fa fb : PSt -> Option D} {p : PSt} {x y d : D} (h1 : fa p = some x) (h2 : fb p = some y) (h3 : g x y = some d) : f2 g fa fb p = some d := by unfold f2; rw [h1, h2]; exact h3
theorem zf8 {h : List D -> Option D} {g : PSt -> Option (List D)} {p : PSt} {ds : List D} {d : D} (h1 : g p = some ds) (h2 : h ds = some d) : za3 h g p = some d := by unfold za3; rw [h1]; exact h2
theorem yi4 {o o' : Bool} {ys zs : List D} (h1 : D.imms ys = true) (h2 : D.imms zs = true) (h : ys.length + zs.length <= 1000) : zc2 (.lst o ys) (.lst o' zs) = some (.lst true (ys ++ zs)) := by
  rw [zc2]
  exact if_pos (by rw [h1, h2]; simpa using sz h)
theorem zc8 {f : PSt -> Option D} {g : PSt -> Option (List D)} {p : PSt} {d : D} {ds : List D} (h1 : f p = some d) (h2 : g p = some ds) : za0 f g p = some (d :: ds) := by unfold za0; rw [h1, h2]; rfl
noncomputable def zu7 (ws : List Str) : List D := ws.map .str
theorem wb7 (a b : List Str) : zu7 (a ++ b) = zu7 a ++ zu7 b := by simp [zu7]
theorem wb8 (a : List Str) : (zu7 a).length = a.length := by simp [zu7]
theorem xk4 : ∀ ws : List Str, D.imms (zu7 ws) = true
  | [] => rfl
  | w :: ws => by show (D.imm (.str w) && D.imms (zu7 ws)) = true; rw [xk4 ws]; rfl
theorem zx0 {g : PSt -> Option (List D)} {p : PSt} {ds : List D} (h : g p = some ds) (hl : ds.length <= 1000) : zc3 g p = some (.lst true ds) := by unfold zc3; rw [h]; exact if_pos hl
noncomputable def zg8 : Tk -> String
  | .leaf (.word _) => "word" | .leaf (.gap _) => "gap" | .leaf (.stop _) => "stop" | .leaf .fin => "end"
  | .opn => "open" | .cls => "close" | .hng _ => "hang" | .bck => "back" | .eit => "either" | .orr => "or" | .don => "done"
noncomputable def wy4 : Tk -> List D
  | .leaf (.word x) => [.str x] | .leaf (.gap x) => [.str x] | .leaf (.stop c) => [.int c] | .hng n => [.int n]
  | _ => []
theorem xk5 (t : Tk) : tkD t = .tup (.str (zg8 t) :: wy4 t) := by
  cases t with
  | leaf l => cases l <;> rfl
  | _ => rfl
end My
namespace My
open PySem PySem.Spec PyProof.Rows L2 L3
theorem xq8 {i : Nat} {p : PSt} {d : D} (h : p[i]? = some (some d)) : za1 i p = some d := by unfold za1; rw [h]; rfl
theorem ye2 {f : PSt -> Option Bool} {p : PSt} {b : Bool} (h : f p = some b) : za4 f p = some (b, p) := by unfold za4; rw [h]; rfl
theorem yf2 {f : PSt -> Option D} {p : PSt} {b : Bool} (h : f p = some (.bl b)) : fB f p = some b := by unfold fB; rw [h]; rfl
theorem xk6 {f g : PSt -> Option Bool} {p : PSt} (h : f p = some false) : ze5 f g p = some false := by unfold ze5; rw [h]; rfl
theorem xk7 {f g : PSt -> Option Bool} {p : PSt} {b : Bool} (h : f p = some true) (h2 : g p = some b) : ze5 f g p = some b := by unfold ze5; rw [h]; exact h2
theorem zs4 {c : PSt -> Option Bool} {F : PSt -> Option (Fl × PSt)} {p : PSt} (h : c p = some false) : fIf (za4 c) F za7 p = some (.nx, p) := (zq8 (ye2 h)).trans rfl
theorem zy4 {c : PSt -> Option Bool} {F G : PSt -> Option (Fl × PSt)} {p : PSt} (h : c p = some true) : fIf (za4 c) F G p = F p := zz8 (ye2 h)
theorem yv4 {f : PSt -> Option (D × PSt)} {p p' : PSt} {d : D} (h : f p = some (d, p')) : zc0 f p = some (.nx, p') := by unfold zc0; rw [h]; rfl
theorem ws8 {as : List L2.Arg} {g : List D -> Option (D × List D)} {p : PSt} {ds ds' : List D} {d : D} (h1 : ze2 as p = some ds) (h2 : g ds = some (d, ds')) (h3 : ds'.length = as.length) : fIO as g p = some (d, zi3 p as ds') := by unfold fIO; rw [h1, Option.bind_some, h2, Option.bind_some, if_pos h3]
theorem ys4 {f : PSt -> Option D} {p : PSt} {d : D} (h : f p = some d) (hi : d.imm = true) : zb3 f p = some d := by unfold zb3; rw [h]; exact if_pos hi
theorem wg9 {p : PSt} : ze2 [] p = some [] := rfl
theorem wn3 {j : Nat} {as : List L2.Arg} {p : PSt} {d : D} {ds : List D} (h : p[j]? = some (some d)) (h2 : ze2 as p = some ds) : ze2 (.io j :: as) p = some (d :: ds) := by
  show ((p[j]?).join).bind _ = _
  rw [h, Option.join_some, Option.bind_some, h2]; rfl
end My
namespace My
open PySem PySem.Spec PyProof.Rows L2 L3
noncomputable def opD : Option Tk -> D
  | none => .tup [.str "row"]
  | some t => tkD t
noncomputable abbrev nsN : List Str := ["opener", "ended", "pieces"]
noncomputable def zi9 (f : Fm) : D := .obj true "Nest" nsN [opD f.op, .lst true (zg0 f.full), .lst true (zd4 f.parts)]
noncomputable def zn8 : List Fm -> List D
  | [] => []
  | f :: fs => zn8 fs ++ [zi9 f]
theorem yn8 : ∀ fs, (zn8 fs).length = fs.length
  | [] => rfl
  | f :: fs => by rw [zn8, List.length_append, yn8 fs]; rfl
noncomputable abbrev nsB : List Str := ["taken", "nests"]
noncomputable def zd5 (n : Nat) (fs : List Fm) : D := .obj true "Builder" nsB [.int n, .lst true (zn8 fs)]
noncomputable abbrev zn4 : List D -> Option (D × List D) := gE 2 0 (zf2 [true, false]) yj1
theorem wn4 (o : Option Tk) : (opD o).imm = true := by cases o with | none => rfl | some t => exact yy1 t
theorem xe2 (o : Option Tk) : zn4 [.obj true "Nest" [] [], opD o] = some (.non, [zi9 ⟨o, [], []⟩, opD o]) := by
  have h := wn4 o
  generalize hd : opD o = d at h
  simp [gP, gE, za9, za7, zb1, za5, fIf, za4, fB, f2, za1, fC, zb3, zb4, zc0, zd2, zb8, ze3, zf3, za0, za2, zc3, zd3, za3, dEq, dNe, eqB, dB, dIx, zb9, zb6, zj2, D.imm, D.imms, zc1, zc2, ya6, fT, zc9, za8, zd6, zd9, zd8, zf7, zf6, dIn, inB, zj0, D.flat, D.flats, inV, eqV, zd7, ze5, zh4, dLt, dLe, dGt, dGe, zl1, zf2, ze2, zh0, zf4, zg7, ze1, zi4, zf9, zf0, zk5, D.key, zt1, zu4, zh9, ze6, ze7, zk2, L2.ze8, yj1, h, zi9, hd, zg0, zd4]
noncomputable abbrev ya4 : List D -> Option (D × List D) := gE 1 0 (zf2 [true]) yd3
theorem xu7 {f : Fm} (h : f.full.length <= 900) : ya4 [zi9 f] = some (.non, [zi9 { f with full := f.full ++ [f.parts], parts := [] }]) := by
  have hz : (zg0 f.full).length < sizeLine := by rw [zp3]; exact sz1 (by omega)
  have er : zg0 (f.full ++ [f.parts]) = zg0 f.full ++ [.tup (zd4 f.parts)] := by rw [yf7]; rfl
  simp [gP, gE, za9, za7, zb1, za5, fIf, za4, fB, f2, za1, fC, zb3, zb4, zc0, zd2, zb8, ze3, zf3, za0, za2, zc3, zd3, za3, dEq, dNe, eqB, dB, dIx, zb9, zb6, zj2, D.imm, D.imms, zc1, zc2, ya6, fT, zc9, za8, zd6, zd9, zd8, zf7, zf6, dIn, inB, zj0, D.flat, D.flats, inV, eqV, zd7, ze5, zh4, dLt, dLe, dGt, dGe, zl1, zf2, ze2, zh0, zf4, zg7, ze1, zi4, zf9, zf0, zk5, D.key, zt1, zu4, zh9, ze6, ze7, zk2, L2.ze8, yd3, zi9, hz, er, zn6, zd4]
noncomputable abbrev yt2 : List D -> Option D := gP 2 1 zo4
noncomputable def wk3 (f : Fm) (t : Tk) : Prop := (f.op = some .opn /\ t = .cls) \/ (∃ n, f.op = some (.hng n) /\ t = .bck) \/ (f.op = some .eit /\ t = .orr /\ f.full.length < 3) \/ (f.op = some .eit /\ t = .don /\ f.full ≠ [])
theorem xu8 {f : Fm} {t : Tk} (h : wk3 f t) : yt2 [zi9 f, .str (zg8 t)] = some (.bl true) := by
  rcases h with ⟨h1, rfl⟩ | ⟨n, h1, rfl⟩ | ⟨h1, rfl, h2⟩ | ⟨h1, rfl, h2⟩
  . simp [gP, gE, za9, za7, zb1, za5, fIf, za4, fB, f2, za1, fC, zb3, zb4, zc0, zd2, zb8, ze3, zf3, za0, za2, zc3, zd3, za3, dEq, dNe, eqB, dB, dIx, zb9, zb6, zj2, D.imm, D.imms, zc1, zc2, ya6, fT, zc9, za8, zd6, zd9, zd8, zf7, zf6, dIn, inB, zj0, D.flat, D.flats, inV, eqV, zd7, ze5, zh4, dLt, dLe, dGt, dGe, zl1, zf2, ze2, zh0, zf4, zg7, ze1, zi4, zf9, zf0, zk5, D.key, zt1, zu4, zh9, ze6, ze7, zk2, L2.ze8, zo4, zi9, h1, opD, tkD, zg8]
  . simp [gP, gE, za9, za7, zb1, za5, fIf, za4, fB, f2, za1, fC, zb3, zb4, zc0, zd2, zb8, ze3, zf3, za0, za2, zc3, zd3, za3, dEq, dNe, eqB, dB, dIx, zb9, zb6, zj2, D.imm, D.imms, zc1, zc2, ya6, fT, zc9, za8, zd6, zd9, zd8, zf7, zf6, dIn, inB, zj0, D.flat, D.flats, inV, eqV, zd7, ze5, zh4, dLt, dLe, dGt, dGe, zl1, zf2, ze2, zh0, zf4, zg7, ze1, zi4, zf9, zf0, zk5, D.key, zt1, zu4, zh9, ze6, ze7, zk2, L2.ze8, zo4, zi9, h1, opD, tkD, zg8]
  . have h3 : ((zg0 f.full).length : Int) + 1 < 4 := by rw [zp3]; omega
    simp [gP, gE, za9, za7, zb1, za5, fIf, za4, fB, f2, za1, fC, zb3, zb4, zc0, zd2, zb8, ze3, zf3, za0, za2, zc3, zd3, za3, dEq, dNe, eqB, dB, dIx, zb9, zb6, zj2, D.imm, D.imms, zc1, zc2, ya6, fT, zc9, za8, zd6, zd9, zd8, zf7, zf6, dIn, inB, zj0, D.flat, D.flats, inV, eqV, zd7, ze5, zh4, dLt, dLe, dGt, dGe, zl1, zf2, ze2, zh0, zf4, zg7, ze1, zi4, zf9, zf0, zk5, D.key, zt1, zu4, zh9, ze6, ze7, zk2, L2.ze8, zo4, zi9, h1, opD, tkD, zg8, h3]
  . have h3 : (2 : Int) <= ((zg0 f.full).length : Int) + 1 := by
      rw [zp3]
      cases hf : f.full with
      | nil => exact absurd hf h2
      | cons a l => simp; omega
    simp [gP, gE, za9, za7, zb1, za5, fIf, za4, fB, f2, za1, fC, zb3, zb4, zc0, zd2, zb8, ze3, zf3, za0, za2, zc3, zd3, za3, dEq, dNe, eqB, dB, dIx, zb9, zb6, zj2, D.imm, D.imms, zc1, zc2, ya6, fT, zc9, za8, zd6, zd9, zd8, zf7, zf6, dIn, inB, zj0, D.flat, D.flats, inV, eqV, zd7, ze5, zh4, dLt, dLe, dGt, dGe, zl1, zf2, ze2, zh0, zf4, zg7, ze1, zi4, zf9, zf0, zk5, D.key, zt1, zu4, zh9, ze6, ze7, zk2, L2.ze8, zo4, zi9, h1, opD, tkD, zg8, h3]
noncomputable abbrev zw5 : List D -> Option D := gP 1 2 zs8
noncomputable def zs2 (f : Fm) : Pc := match f.op with
  | some .opn => .group f.parts
  | some (.hng n) => .hang n f.parts
  | _ => .either (f.full ++ [f.parts])
theorem xo3 {f : Fm} (h : f.op = some .opn \/ (∃ n, f.op = some (.hng n)) \/ f.op = some .eit) (hl : f.full.length <= 900) : zw5 [zi9 f] = some (pcD (zs2 f)) := by
  have hz : (zg0 f.full).length + 1 <= sizeLine := by rw [zp3]; exact sz (by omega)
  rcases h with h1 | ⟨n, h1⟩ | h1
  . simp [gP, gE, za9, za7, zb1, za5, fIf, za4, fB, f2, za1, fC, zb3, zb4, zc0, zd2, zb8, ze3, zf3, za0, za2, zc3, zd3, za3, dEq, dNe, eqB, dB, dIx, zb9, zb6, zj2, D.imm, D.imms, zc1, zc2, ya6, fT, zc9, za8, zd6, zd9, zd8, zf7, zf6, dIn, inB, zj0, D.flat, D.flats, inV, eqV, zd7, ze5, zh4, dLt, dLe, dGt, dGe, zl1, zf2, ze2, zh0, zf4, zg7, ze1, zi4, zf9, zf0, zk5, D.key, zt1, zu4, zh9, ze6, ze7, zk2, L2.ze8, zs8, zi9, h1, opD, tkD, zn6, zs2, pcD]
  . simp [gP, gE, za9, za7, zb1, za5, fIf, za4, fB, f2, za1, fC, zb3, zb4, zc0, zd2, zb8, ze3, zf3, za0, za2, zc3, zd3, za3, dEq, dNe, eqB, dB, dIx, zb9, zb6, zj2, D.imm, D.imms, zc1, zc2, ya6, fT, zc9, za8, zd6, zd9, zd8, zf7, zf6, dIn, inB, zj0, D.flat, D.flats, inV, eqV, zd7, ze5, zh4, dLt, dLe, dGt, dGe, zl1, zf2, ze2, zh0, zf4, zg7, ze1, zi4, zf9, zf0, zk5, D.key, zt1, zu4, zh9, ze6, ze7, zk2, L2.ze8, zs8, zi9, h1, opD, tkD, zn6, zs2, pcD]
  . simp [gP, gE, za9, za7, zb1, za5, fIf, za4, fB, f2, za1, fC, zb3, zb4, zc0, zd2, zb8, ze3, zf3, za0, za2, zc3, zd3, za3, dEq, dNe, eqB, dB, dIx, zb9, zb6, zj2, D.imm, D.imms, zc1, zc2, ya6, fT, zc9, za8, zd6, zd9, zd8, zf7, zf6, dIn, inB, zj0, D.flat, D.flats, inV, eqV, zd7, ze5, zh4, dLt, dLe, dGt, dGe, zl1, zf2, ze2, zh0, zf4, zg7, ze1, zi4, zf9, zf0, zk5, D.key, zt1, zu4, zh9, ze6, ze7, zk2, L2.ze8, zs8, zi9, h1, opD, tkD, zn6, zs2, pcD, zy3, yi2, hz, yf7, zg0]
noncomputable abbrev yz5 : List D -> Option (D × List D) := gE 1 0 (zf2 [true]) (zx7 zn4)
theorem ws9 : yz5 [.obj true "Builder" [] []] = some (.non, [zd5 0 [yb3]]) := by
  have q : zn4 [.obj true "Nest" [] [], .tup [.str "row"]] = some (.non, [zi9 yb3, .tup [.str "row"]]) := xe2 none
  show gE 1 0 (zf2 [true]) (zx7 zn4) _ = _
  generalize zn4 = G at q
  simp [gP, gE, za9, za7, zb1, za5, fIf, za4, fB, f2, za1, fC, zb3, zb4, zc0, zd2, zb8, ze3, zf3, za0, za2, zc3, zd3, za3, dEq, dNe, eqB, dB, dIx, zb9, zb6, zj2, D.imm, D.imms, zc1, zc2, ya6, fT, zc9, za8, zd6, zd9, zd8, zf7, zf6, dIn, inB, zj0, D.flat, D.flats, inV, eqV, zd7, ze5, zh4, dLt, dLe, dGt, dGe, zl1, zf2, ze2, zh0, zf4, zg7, ze1, zi4, zf9, zf0, zk5, D.key, zt1, zu4, zh9, ze6, ze7, zk2, L2.ze8, zx7, q, zd5, zn8]
noncomputable abbrev yj9 : List D -> Option D := gP 2 0 (zr8 yt2)
noncomputable def xg2 (t : Tk) : Prop := t = .opn \/ (∃ n, t = .hng n) \/ t = .eit
noncomputable def xc1 (n : Nat) (fs : List Fm) (t : Tk) : Prop := n < 200 /\ ((∃ l, t = .leaf l) \/ (xg2 t /\ fs.length <= 12) \/ ∃ f r, fs = f :: r /\ wk3 f t)
theorem wn5 {α : Type} (l : List α) (a : α) : atI (l ++ [a]) (-1) = some a := by
  unfold atI
  rw [List.length_append]
  show (ixN (l.length + 1) (-1)).bind _ = _
  rw [ze6, Option.bind_some]
  simp [gP, gE, za9, za7, zb1, za5, fIf, za4, fB, f2, za1, fC, zb3, zb4, zc0, zd2, zb8, ze3, zf3, za0, za2, zc3, zd3, za3, dEq, dNe, eqB, dB, dIx, zb9, zb6, zj2, D.imm, D.imms, zc1, zc2, ya6, fT, zc9, za8, zd6, zd9, zd8, zf7, zf6, dIn, inB, zj0, D.flat, D.flats, inV, eqV, zd7, ze5, zh4, dLt, dLe, dGt, dGe, zl1, zf2, ze2, zh0, zf4, zg7, ze1, zi4, zf9, zf0, zk5, D.key, zt1, zu4, zh9, ze6, ze7, zk2, L2.ze8]
theorem xk8 {n : Nat} {fs : List Fm} {t : Tk} (hfs : fs ≠ []) (h : xc1 n fs t) : yj9 [zd5 n fs, .str (zg8 t)] = some (.bl true) := by
  obtain ⟨hn, h⟩ := h
  have c1 : fB (f2 dGe (zf9 "Builder" "taken" (za1 0)) (fC (.int 200))) [some (zd5 n fs), some (.str (zg8 t))] = some false := yf2 (zh5 (x := .int n) (by kernel_rfl) rfl (show some (D.bl (decide ((200 : Int) <= (n : Int)))) = _ by rw [decide_eq_false (by omega)]))
  have nst : zf9 "Builder" "nests" (za1 0) [some (zd5 n fs), some (.str (zg8 t))] = some (.lst true (zn8 fs)) := by kernel_rfl
  suffices w : ∃ q, zr8 yt2 [some (zd5 n fs), some (.str (zg8 t))] = some (.ret (.bl true), q) from by
    obtain ⟨q, hq⟩ := w; exact zo9 rfl hq
  unfold zr8
  rw [zb2 (zs4 c1)]
  rcases h with ⟨l, rfl⟩ | ⟨ho, hl⟩ | ⟨f, r, rfl, hs⟩
  . cases l <;> exact ⟨_, (zb2 (zs4 (by kernel_rfl))).trans ((zb2 (zs4 (by kernel_rfl))).trans (zn7 rfl))⟩
  . have ln : f2 dLt (f2 ya6 (za3 zb9 (za0 (zf9 "Builder" "nests" (za1 0)) za2)) (fC (.int 1))) (fC (.int 12)) [some (zd5 n fs), some (.str (zg8 t))] = some (.bl true) := by
      refine zh5 (zh5 (zf8 (zc8 nst rfl) rfl) rfl rfl) rfl ?_
      show some (D.bl (decide ((((zn8 fs).length : Nat) : Int) - 1 < 12))) = _
      rw [decide_eq_true (by rw [yn8]; omega)]
    have c2 : fB (f2 dIn (za1 1) (fC (.tup [(.str "open"), (.str "hang"), (.str "either")]))) [some (zd5 n fs), some (.str (zg8 t))] = some true := by
      rcases ho with rfl | ⟨m, rfl⟩ | rfl <;> kernel_rfl
    exact ⟨_, zu2 ((zy4 c2).trans (zn7 ln))⟩
  . have q := xu8 hs
    have rc : za3 yt2 (za0 (zf0 "Nest" "can_end_by" (f2 dIx (zf9 "Builder" "nests" (za1 0)) (zf6 (fC (.int 1))))) (za0 (za1 1) za2)) [some (zd5 n (f :: r)), some (.str (zg8 t))] = some (.bl true) := by
      refine zf8 (ds := [zi9 f, .str (zg8 t)]) (zc8 ?_ (zc8 rfl rfl)) q
      unfold zf0
      rw [zh5 nst rfl (show dIx (.lst true (zn8 r ++ [zi9 f])) (.int (-1)) = some (zi9 f) from wn5 _ _)]
      kernel_rfl
    have c2 : fB (f2 dIn (za1 1) (fC (.tup [(.str "open"), (.str "hang"), (.str "either")]))) [some (zd5 n (f :: r)), some (.str (zg8 t))] = some false := by
      rcases hs with ⟨h1, rfl⟩ | ⟨m, h1, rfl⟩ | ⟨h1, rfl, h2⟩ | ⟨h1, rfl, h2⟩ <;> kernel_rfl
    have c3 : zk5 zl7 (za1 1) [some (zd5 n (f :: r)), some (.str (zg8 t))] = some true := by
      rcases hs with ⟨h1, rfl⟩ | ⟨m, h1, rfl⟩ | ⟨h1, rfl, h2⟩ | ⟨h1, rfl, h2⟩ <;> kernel_rfl
    exact ⟨_, (zb2 (zs4 c2)).trans (zu2 ((zy4 c3).trans (zn7 rc)))⟩
end My
namespace My
open PySem PySem.Spec PyProof.Rows L2 L3
noncomputable abbrev yk7 : List D -> Option (D × List D) := gE 2 2 (zf2 [true, false]) (zv2 yj9 zn4 ya4 zw5)
noncomputable def ye7 (GI GE_ : List D -> Option (D × List D)) (GP : List D -> Option D) : PSt -> Option (Fl × PSt) :=
  (fIf (za4 (fB (f2 dIn (za1 2) (fC (.tup [(.str "open"), (.str "hang"), (.str "either")])))))
   (zc0 (zd2 0 (zh0 0 zb8 "Builder" "nests") (za0 (zh9 "Nest" (ze2 [.im (za1 1)]) GI) za2) zb6))
   (fIf (za4 (fB (f2 dEq (za1 2) (fC (.str "or")))))
   (zc0 (zd2 0 (zf7 0 (zh0 0 zb8 "Builder" "nests") (zf6 (fC (.int 1)))) za2 (zx6 "Nest" "end_row" GE_)))
   (fIf (za4 (zk5 zl7 (za1 2)))
   (za9 (zb1 3 (zd2 0 (zh0 0 zb8 "Builder" "nests") za2 zj2))
  (zc0 (zd2 0 (zh0 0 (zf7 0 (zh0 0 zb8 "Builder" "nests") (zf6 (fC (.int 1)))) "Nest" "pieces") (za0 (za3 GP (za0 (zf0 "Nest" "as_piece" (za1 3)) za2)) za2) zb6)))
   (zc0 (zd2 0 (zh0 0 (zf7 0 (zh0 0 zb8 "Builder" "nests") (zf6 (fC (.int 1)))) "Nest" "pieces") (za0 (zb3 (za1 1)) za2) zb6)))))
theorem yy2 {n : Nat} {fs fs' : List Fm} {t : Tk} {y3 : Option D} (hfs : fs ≠ []) (h : xc1 n fs t)
    (q : ye7 zn4 ya4 zw5 [some (zd5 (n + 1) fs), some (tkD t), some (.str (zg8 t)), none] = some (.nx, [some (zd5 (n + 1) fs'), some (tkD t), some (.str (zg8 t)), y3])) : yk7 [zd5 n fs, tkD t] = some (.non, [zd5 (n + 1) fs', tkD t]) := by
  have hc := xk8 hfs h
  show gE 2 2 (zf2 [true, false]) (zv2 yj9 zn4 ya4 zw5) _ = _
  generalize yj9 = GC at hc
  have e : zv2 GC zn4 ya4 zw5 = za9 (zb1 2 (za5 (zb3 (f2 dIx (za1 1) (fC (.int 0)))))) (za9 (fIf (za4 (zd7 (fT (za3 GC (za0 (zf0 "Builder" "can_stand" (za1 0)) (za0 (za1 2) za2)))))) yd1 za7) (za9 (zf4 0 zb8 "Builder" "taken" (f2 zc2 (zf9 "Builder" "taken" (za1 0)) (fC (.int 1)))) (ye7 zn4 ya4 zw5))) := rfl
  have s1 : zb1 2 (za5 (zb3 (f2 dIx (za1 1) (fC (.int 0))))) [some (zd5 n fs), some (tkD t), none, none] = some (.nx, [some (zd5 n fs), some (tkD t), some (.str (zg8 t)), none]) := by
    refine zm4 ?_
    rw [xk5]; simp [za7, za5, za4, fB, f2, za1, fC, zb3, zc0, zd2, zb8, ze3, zf3, za0, za2, za3, dEq, eqB, dB, dIx, zb6, zj2, D.imm, D.imms, zc2, fT, zc9, za8, zd6, zd9, zd8, zf7, zf6, dIn, inB, zj0, D.flat, D.flats, inV, eqV, zd7, ze2, zh0, zf4, zg7, ze1, zi4, zf9, zf0, zk5, D.key, zh9, ze6, ze7, zk2, L2.ze8]
  have s2 : fIf (za4 (zd7 (fT (za3 GC (za0 (zf0 "Builder" "can_stand" (za1 0)) (za0 (za1 2) za2)))))) yd1 za7 [some (zd5 n fs), some (tkD t), some (.str (zg8 t)), none] = some (.nx, [some (zd5 n fs), some (tkD t), some (.str (zg8 t)), none]) := by
    refine (zq8 (p' := [some (zd5 n fs), some (tkD t), some (.str (zg8 t)), none]) ?_).trans rfl
    have e1 : za3 GC (za0 (zf0 "Builder" "can_stand" (za1 0)) (za0 (za1 2) za2)) [some (zd5 n fs), some (tkD t), some (.str (zg8 t)), none] = some (.bl true) := zf8 (zc8 (d := zd5 n fs) (by simp [za7, za5, za4, fB, f2, za1, fC, zb3, zc0, zd2, zb8, ze3, zf3, za0, za2, za3, dEq, eqB, dB, dIx, zb6, zj2, D.imm, D.imms, zc2, fT, zc9, za8, zd6, zd9, zd8, zf7, zf6, dIn, inB, zj0, D.flat, D.flats, inV, eqV, zd7, ze2, zh0, zf4, zg7, ze1, zi4, zf9, zf0, zk5, D.key, zh9, ze6, ze7, zk2, L2.ze8, zd5]) (zc8 rfl rfl)) hc
    unfold za4 zd7 fT
    rw [e1]; rfl
  have s3 : zf4 0 zb8 "Builder" "taken" (f2 zc2 (zf9 "Builder" "taken" (za1 0)) (fC (.int 1))) [some (zd5 n fs), some (tkD t), some (.str (zg8 t)), none] = some (.nx, [some (zd5 (n + 1) fs), some (tkD t), some (.str (zg8 t)), none]) := by
    have en : ((n : Int) + 1) = ((n + 1 : Nat) : Int) := by omega
    simp [za7, za5, za4, fB, f2, za1, fC, zb3, zc0, zd2, zb8, ze3, zf3, za0, za2, za3, dEq, eqB, dB, dIx, zb6, zj2, D.imm, D.imms, zc2, fT, zc9, za8, zd6, zd9, zd8, zf7, zf6, dIn, inB, zj0, D.flat, D.flats, inV, eqV, zd7, ze2, zh0, zf4, zg7, ze1, zi4, zf9, zf0, zk5, D.key, zh9, ze6, ze7, zk2, L2.ze8, zd5]
  have z := (congrFun e [some (zd5 n fs), some (tkD t), none, none]).trans ((zb2 s1).trans ((zb2 s2).trans ((zb2 s3).trans q)))
  unfold gE
  refine (if_pos rfl).trans ?_
  show (zv2 GC zn4 ya4 zw5 [some (zd5 n fs), some (tkD t), none, none]).bind _ = _
  rw [z]
  simp [za7, za5, za4, fB, f2, za1, fC, zb3, zc0, zd2, zb8, ze3, zf3, za0, za2, za3, dEq, eqB, dB, dIx, zb6, zj2, D.imm, D.imms, zc2, fT, zc9, za8, zd6, zd9, zd8, zf7, zf6, dIn, inB, zj0, D.flat, D.flats, inV, eqV, zd7, ze2, zh0, zf4, zg7, ze1, zi4, zf9, zf0, zk5, D.key, zh9, ze6, ze7, zk2, L2.ze8, zl1, zf2]
theorem wt0 (t : Tk) (p0 : Option D) (h : ¬ xg2 t) : za4 (fB (f2 dIn (za1 2) (fC (.tup [(.str "open"), (.str "hang"), (.str "either")])))) [p0, some (tkD t), some (.str (zg8 t)), none] = some (false, [p0, some (tkD t), some (.str (zg8 t)), none]) := by
  cases t with
  | opn => exact absurd (.inl rfl) h
  | hng m => exact absurd (.inr (.inl ⟨m, rfl⟩)) h
  | eit => exact absurd (.inr (.inr rfl)) h
  | leaf l => cases l <;> simp [za7, za5, za4, fB, f2, za1, fC, zb3, zc0, zd2, zb8, ze3, zf3, za0, za2, za3, dEq, eqB, dB, dIx, zb6, zj2, D.imm, D.imms, zc2, fT, zc9, za8, zd6, zd9, zd8, zf7, zf6, dIn, inB, zj0, D.flat, D.flats, inV, eqV, zd7, ze2, zh0, zf4, zg7, ze1, zi4, zf9, zf0, zk5, D.key, zh9, ze6, ze7, zk2, L2.ze8, zg8]
  | _ => simp [za7, za5, za4, fB, f2, za1, fC, zb3, zc0, zd2, zb8, ze3, zf3, za0, za2, za3, dEq, eqB, dB, dIx, zb6, zj2, D.imm, D.imms, zc2, fT, zc9, za8, zd6, zd9, zd8, zf7, zf6, dIn, inB, zj0, D.flat, D.flats, inV, eqV, zd7, ze2, zh0, zf4, zg7, ze1, zi4, zf9, zf0, zk5, D.key, zh9, ze6, ze7, zk2, L2.ze8, zg8]
theorem wy7 (p0 : Option D) : za4 (fB (f2 dEq (za1 2) (fC (.str "or")))) [p0, some (tkD .orr), some (.str (zg8 .orr)), none] = some (true, [p0, some (tkD .orr), some (.str (zg8 .orr)), none]) := by simp [za7, za5, za4, fB, f2, za1, fC, zb3, zc0, zd2, zb8, ze3, zf3, za0, za2, za3, dEq, eqB, dB, dIx, zb6, zj2, D.imm, D.imms, zc2, fT, zc9, za8, zd6, zd9, zd8, zf7, zf6, dIn, inB, zj0, D.flat, D.flats, inV, eqV, zd7, ze2, zh0, zf4, zg7, ze1, zi4, zf9, zf0, zk5, D.key, zh9, ze6, ze7, zk2, L2.ze8, zg8]
theorem wt1 (l : Leaf) (p0 p1 : Option D) : za4 (fB (f2 dIn (za1 2) (fC (.tup [(.str "open"), (.str "hang"), (.str "either")])))) [p0, p1, some (.str (zg8 (.leaf l))), none] = some (false, [p0, p1, some (.str (zg8 (.leaf l))), none]) := by cases l <;> simp [za7, za5, za4, fB, f2, za1, fC, zb3, zc0, zd2, zb8, ze3, zf3, za0, za2, za3, dEq, eqB, dB, dIx, zb6, zj2, D.imm, D.imms, zc2, fT, zc9, za8, zd6, zd9, zd8, zf7, zf6, dIn, inB, zj0, D.flat, D.flats, inV, eqV, zd7, ze2, zh0, zf4, zg7, ze1, zi4, zf9, zf0, zk5, D.key, zh9, ze6, ze7, zk2, L2.ze8, zg8]
theorem wy8 (l : Leaf) (p0 p1 : Option D) : za4 (fB (f2 dEq (za1 2) (fC (.str "or")))) [p0, p1, some (.str (zg8 (.leaf l))), none] = some (false, [p0, p1, some (.str (zg8 (.leaf l))), none]) := by cases l <;> simp [za7, za5, za4, fB, f2, za1, fC, zb3, zc0, zd2, zb8, ze3, zf3, za0, za2, za3, dEq, eqB, dB, dIx, zb6, zj2, D.imm, D.imms, zc2, fT, zc9, za8, zd6, zd9, zd8, zf7, zf6, dIn, inB, zj0, D.flat, D.flats, inV, eqV, zd7, ze2, zh0, zf4, zg7, ze1, zi4, zf9, zf0, zk5, D.key, zh9, ze6, ze7, zk2, L2.ze8, zg8]
theorem ww6 (l : Leaf) (p0 p1 : Option D) : za4 (zk5 zl7 (za1 2)) [p0, p1, some (.str (zg8 (.leaf l))), none] = some (false, [p0, p1, some (.str (zg8 (.leaf l))), none]) := by cases l <;> simp [za7, za5, za4, fB, f2, za1, fC, zb3, zc0, zd2, zb8, ze3, zf3, za0, za2, za3, dEq, eqB, dB, dIx, zb6, zj2, D.imm, D.imms, zc2, fT, zc9, za8, zd6, zd9, zd8, zf7, zf6, dIn, inB, zj0, D.flat, D.flats, inV, eqV, zd7, ze2, zh0, zf4, zg7, ze1, zi4, zf9, zf0, zk5, D.key, zh9, ze6, ze7, zk2, L2.ze8, zg8]
theorem yv5 {n : Nat} {fs : List Fm} {t : Tk} (hfs : fs ≠ []) (ht : xg2 t) (h : xc1 n fs t) (hl : fs.length <= 900) : yk7 [zd5 n fs, tkD t] = some (.non, [zd5 (n + 1) (⟨some t, [], []⟩ :: fs), tkD t]) := by
  refine yy2 (y3 := none) hfs h ?_
  have q : zn4 [.obj true "Nest" [] [], tkD t] = some (.non, [zi9 ⟨some t, [], []⟩, tkD t]) := xe2 (some t)
  have hi := yy1 t
  generalize zn4 = G at q |-
  have hz : (zn8 fs).length < sizeLine := by rw [yn8]; exact sz1 (by omega)
  have hb : zd5 (n + 1) (⟨some t, [], []⟩ :: fs) = .obj true "Builder" nsB [.int ((n + 1 : Nat) : Int), .lst true (zn8 fs ++ [zi9 ⟨some t, [], []⟩])] := rfl
  rw [hb]
  have c1 : za4 (fB (f2 dIn (za1 2) (fC (.tup [(.str "open"), (.str "hang"), (.str "either")])))) [some (zd5 (n + 1) fs), some (tkD t), some (.str (zg8 t)), none] = some (true, [some (zd5 (n + 1) fs), some (tkD t), some (.str (zg8 t)), none]) := by
    rcases ht with rfl | ⟨m, rfl⟩ | rfl <;> simp [za7, za5, za4, fB, f2, za1, fC, zb3, zc0, zd2, zb8, ze3, zf3, za0, za2, za3, dEq, eqB, dB, dIx, zb6, zj2, D.imm, D.imms, zc2, fT, zc9, za8, zd6, zd9, zd8, zf7, zf6, dIn, inB, zj0, D.flat, D.flats, inV, eqV, zd7, ze2, zh0, zf4, zg7, ze1, zi4, zf9, zf0, zk5, D.key, zh9, ze6, ze7, zk2, L2.ze8, zg8]
  unfold ye7
  refine (zz8 c1).trans ?_
  generalize tkD t = d at q hi |-
  simp [za7, za5, za4, fB, f2, za1, fC, zb3, zc0, zd2, zb8, ze3, zf3, za0, za2, za3, dEq, eqB, dB, dIx, zb6, zj2, D.imm, D.imms, zc2, fT, zc9, za8, zd6, zd9, zd8, zf7, zf6, dIn, inB, zj0, D.flat, D.flats, inV, eqV, zd7, ze2, zh0, zf4, zg7, ze1, zi4, zf9, zf0, zk5, D.key, zh9, ze6, ze7, zk2, L2.ze8, zd5, hi, q, hz]
theorem wt2 {n : Nat} {f : Fm} {fs : List Fm} (hf : f.op = some .eit) (h3 : f.full.length < 3) (h : xc1 n (f :: fs) .orr) : yk7 [zd5 n (f :: fs), tkD .orr] = some (.non, [zd5 (n + 1) ({ f with full := f.full ++ [f.parts], parts := [] } :: fs), tkD .orr]) := by
  refine yy2 (y3 := none) (by simp [za7, za5, za4, fB, f2, za1, fC, zb3, zc0, zd2, zb8, ze3, zf3, za0, za2, za3, dEq, eqB, dB, dIx, zb6, zj2, D.imm, D.imms, zc2, fT, zc9, za8, zd6, zd9, zd8, zf7, zf6, dIn, inB, zj0, D.flat, D.flats, inV, eqV, zd7, ze2, zh0, zf4, zg7, ze1, zi4, zf9, zf0, zk5, D.key, zh9, ze6, ze7, zk2, L2.ze8]) h ?_
  have q := xu7 (f := f) (by omega)
  generalize ya4 = G at q |-
  have hb : ∀ g : Fm, zd5 (n + 1) (g :: fs) = .obj true "Builder" nsB [.int ((n + 1 : Nat) : Int), .lst true (zn8 fs ++ [zi9 g])] := fun _ => rfl
  rw [hb, hb]
  have hm : zx6 "Nest" "end_row" G [] (zi9 f) = some (.non, zi9 { f with full := f.full ++ [f.parts], parts := [] }) := by
    have nf : ze1 nsN "end_row" = none := by simp [za7, za5, za4, fB, f2, za1, fC, zb3, zc0, zd2, zb8, ze3, zf3, za0, za2, za3, dEq, eqB, dB, dIx, zb6, zj2, D.imm, D.imms, zc2, fT, zc9, za8, zd6, zd9, zd8, zf7, zf6, dIn, inB, zj0, D.flat, D.flats, inV, eqV, zd7, ze2, zh0, zf4, zg7, ze1, zi4, zf9, zf0, zk5, D.key, zh9, ze6, ze7, zk2, L2.ze8]
    show (if (("Nest" : Str) = "Nest" /\ ze1 nsN "end_row" = none) then (G [zi9 f]).bind _ else none) = _
    rw [if_pos ⟨rfl, nf⟩, q]; rfl
  generalize zi9 { f with full := f.full ++ [f.parts], parts := [] } = N' at hm |-
  generalize zi9 f = N at hm |-
  unfold ye7
  refine (zq8 (wt0 _ _ (by simp [za7, za5, za4, fB, f2, za1, fC, zb3, zc0, zd2, zb8, ze3, zf3, za0, za2, za3, dEq, eqB, dB, dIx, zb6, zj2, D.imm, D.imms, zc2, fT, zc9, za8, zd6, zd9, zd8, zf7, zf6, dIn, inB, zj0, D.flat, D.flats, inV, eqV, zd7, ze2, zh0, zf4, zg7, ze1, zi4, zf9, zf0, zk5, D.key, zh9, ze6, ze7, zk2, L2.ze8, xg2]))).trans ((zz8 (wy7 _)).trans ?_)
  simp [za7, za5, za4, fB, f2, za1, fC, zb3, zc0, zd2, zb8, ze3, zf3, za0, za2, za3, dEq, eqB, dB, dIx, zb6, zj2, D.imm, D.imms, zc2, fT, zc9, za8, zd6, zd9, zd8, zf7, zf6, dIn, inB, zj0, D.flat, D.flats, inV, eqV, zd7, ze2, zh0, zf4, zg7, ze1, zi4, zf9, zf0, zk5, D.key, zh9, ze6, ze7, zk2, L2.ze8, hm]
theorem wh0 {n : Nat} {f : Fm} {fs : List Fm} {l : Leaf} (h : xc1 n (f :: fs) (.leaf l)) (hl : f.parts.length <= 900) : yk7 [zd5 n (f :: fs), tkD (.leaf l)] = some (.non, [zd5 (n + 1) (put f (.leaf l) :: fs), tkD (.leaf l)]) := by
  refine yy2 (y3 := none) (by simp [za7, za5, za4, fB, f2, za1, fC, zb3, zc0, zd2, zb8, ze3, zf3, za0, za2, za3, dEq, eqB, dB, dIx, zb6, zj2, D.imm, D.imms, zc2, fT, zc9, za8, zd6, zd9, zd8, zf7, zf6, dIn, inB, zj0, D.flat, D.flats, inV, eqV, zd7, ze2, zh0, zf4, zg7, ze1, zi4, zf9, zf0, zk5, D.key, zh9, ze6, ze7, zk2, L2.ze8]) h ?_
  have hz : (zd4 f.parts).length < sizeLine := by rw [ye0]; exact sz1 (by omega)
  have ep : zd4 (f.parts ++ [.leaf l]) = zd4 f.parts ++ [zk4 l] := by rw [yi3]; rfl
  have hi := yv3 l
  have hb : ∀ g : Fm, zd5 (n + 1) (g :: fs) = .obj true "Builder" nsB [.int ((n + 1 : Nat) : Int), .lst true (zn8 fs ++ [.obj true "Nest" nsN [opD g.op, .lst true (zg0 g.full), .lst true (zd4 g.parts)]])] := fun _ => rfl
  rw [hb, hb]
  show ye7 zn4 ya4 zw5 [_, some (zk4 l), _, _] = some (.nx, [some (.obj true "Builder" nsB [.int ((n + 1 : Nat) : Int), .lst true (zn8 fs ++ [.obj true "Nest" nsN [opD f.op, .lst true (zg0 f.full), .lst true (zd4 (f.parts ++ [.leaf l]))]])]), some (zk4 l), _, _])
  rw [ep]
  generalize zk4 l = d at hi |-
  unfold ye7
  exact (zq8 (wt1 l _ _)).trans ((zq8 (wy8 l _ _)).trans ((zq8 (ww6 l _ _)).trans (by simp [za7, za5, za4, fB, f2, za1, fC, zb3, zc0, zd2, zb8, ze3, zf3, za0, za2, za3, dEq, eqB, dB, dIx, zb6, zj2, D.imm, D.imms, zc2, fT, zc9, za8, zd6, zd9, zd8, zf7, zf6, dIn, inB, zj0, D.flat, D.flats, inV, eqV, zd7, ze2, zh0, zf4, zg7, ze1, zi4, zf9, zf0, zk5, D.key, zh9, ze6, ze7, zk2, L2.ze8, hi, hz])))
theorem yv6 {n : Nat} {f g : Fm} {fs : List Fm} {t : Tk} (ht : (f.op = some .opn /\ t = .cls) \/ (∃ m, f.op = some (.hng m) /\ t = .bck) \/ (f.op = some .eit /\ t = .don)) (h : xc1 n (f :: g :: fs) t) (hl : g.parts.length <= 900) (hfl : f.full.length <= 900) :
    yk7 [zd5 n (f :: g :: fs), tkD t] = some (.non, [zd5 (n + 1) (put g (zs2 f) :: fs), tkD t]) := by
  refine yy2 (y3 := some (zi9 f)) (by simp [za7, za5, za4, fB, f2, za1, fC, zb3, zc0, zd2, zb8, ze3, zf3, za0, za2, za3, dEq, eqB, dB, dIx, zb6, zj2, D.imm, D.imms, zc2, fT, zc9, za8, zd6, zd9, zd8, zf7, zf6, dIn, inB, zj0, D.flat, D.flats, inV, eqV, zd7, ze2, zh0, zf4, zg7, ze1, zi4, zf9, zf0, zk5, D.key, zh9, ze6, ze7, zk2, L2.ze8]) h ?_
  have q := xo3 (f := f) (ht.elim (fun z => .inl z.1) fun z => z.elim (fun ⟨m, z, _⟩ => .inr (.inl ⟨m, z⟩)) fun z => .inr (.inr z.1)) hfl
  have hz : (zd4 g.parts).length < sizeLine := by rw [ye0]; exact sz1 (by omega)
  have ep : zd4 (g.parts ++ [zs2 f]) = zd4 g.parts ++ [pcD (zs2 f)] := by rw [yi3]; rfl
  generalize zw5 = G at q |-
  have e1 : zd5 (n + 1) (f :: g :: fs) = .obj true "Builder" nsB [.int ((n + 1 : Nat) : Int), .lst true (zn8 fs ++ [zi9 g] ++ [zi9 f])] := rfl
  have e2 : zd5 (n + 1) (put g (zs2 f) :: fs) = .obj true "Builder" nsB [.int ((n + 1 : Nat) : Int), .lst true (zn8 fs ++ [.obj true "Nest" nsN [opD g.op, .lst true (zg0 g.full), .lst true (zd4 (g.parts ++ [zs2 f]))]])] := rfl
  rw [e1, e2, ep]
  have c1 : ∀ p0 : Option D, za4 (fB (f2 dIn (za1 2) (fC (.tup [(.str "open"), (.str "hang"), (.str "either")])))) [p0, some (tkD t), some (.str (zg8 t)), none] = some (false, [p0, some (tkD t), some (.str (zg8 t)), none]) := fun p0 => by
    rcases ht with ⟨_, rfl⟩ | ⟨m, _, rfl⟩ | ⟨_, rfl⟩ <;> simp [za7, za5, za4, fB, f2, za1, fC, zb3, zc0, zd2, zb8, ze3, zf3, za0, za2, za3, dEq, eqB, dB, dIx, zb6, zj2, D.imm, D.imms, zc2, fT, zc9, za8, zd6, zd9, zd8, zf7, zf6, dIn, inB, zj0, D.flat, D.flats, inV, eqV, zd7, ze2, zh0, zf4, zg7, ze1, zi4, zf9, zf0, zk5, D.key, zh9, ze6, ze7, zk2, L2.ze8, zg8]
  have c2 : ∀ p0 : Option D, za4 (fB (f2 dEq (za1 2) (fC (.str "or")))) [p0, some (tkD t), some (.str (zg8 t)), none] = some (false, [p0, some (tkD t), some (.str (zg8 t)), none]) := fun p0 => by
    rcases ht with ⟨_, rfl⟩ | ⟨m, _, rfl⟩ | ⟨_, rfl⟩ <;> simp [za7, za5, za4, fB, f2, za1, fC, zb3, zc0, zd2, zb8, ze3, zf3, za0, za2, za3, dEq, eqB, dB, dIx, zb6, zj2, D.imm, D.imms, zc2, fT, zc9, za8, zd6, zd9, zd8, zf7, zf6, dIn, inB, zj0, D.flat, D.flats, inV, eqV, zd7, ze2, zh0, zf4, zg7, ze1, zi4, zf9, zf0, zk5, D.key, zh9, ze6, ze7, zk2, L2.ze8, zg8]
  have c3 : ∀ p0 : Option D, za4 (zk5 zl7 (za1 2)) [p0, some (tkD t), some (.str (zg8 t)), none] = some (true, [p0, some (tkD t), some (.str (zg8 t)), none]) := fun p0 => by
    rcases ht with ⟨_, rfl⟩ | ⟨m, _, rfl⟩ | ⟨_, rfl⟩ <;> simp [za7, za5, za4, fB, f2, za1, fC, zb3, zc0, zd2, zb8, ze3, zf3, za0, za2, za3, dEq, eqB, dB, dIx, zb6, zj2, D.imm, D.imms, zc2, fT, zc9, za8, zd6, zd9, zd8, zf7, zf6, dIn, inB, zj0, D.flat, D.flats, inV, eqV, zd7, ze2, zh0, zf4, zg7, ze1, zi4, zf9, zf0, zk5, D.key, zh9, ze6, ze7, zk2, L2.ze8, zg8]
  have s1 : zb1 3 (zd2 0 (zh0 0 zb8 "Builder" "nests") za2 zj2) [some (.obj true "Builder" nsB [.int ((n + 1 : Nat) : Int), .lst true (zn8 fs ++ [zi9 g] ++ [zi9 f])]), some (tkD t), some (.str (zg8 t)), none] = some (.nx, [some (.obj true "Builder" nsB [.int ((n + 1 : Nat) : Int), .lst true (zn8 fs ++ [zi9 g])]), some (tkD t), some (.str (zg8 t)), some (zi9 f)]) := by
    generalize zn8 fs ++ [zi9 g] = Z
    generalize zi9 f = N
    simp [za7, za5, za4, fB, f2, za1, fC, zb3, zc0, zd2, zb8, ze3, zf3, za0, za2, za3, dEq, eqB, dB, dIx, zb6, zj2, D.imm, D.imms, zc2, fT, zc9, za8, zd6, zd9, zd8, zf7, zf6, dIn, inB, zj0, D.flat, D.flats, inV, eqV, zd7, ze2, zh0, zf4, zg7, ze1, zi4, zf9, zf0, zk5, D.key, zh9, ze6, ze7, zk2, L2.ze8, zb1]
  have s2 : za3 G (za0 (zf0 "Nest" "as_piece" (za1 3)) za2) [some (.obj true "Builder" nsB [.int ((n + 1 : Nat) : Int), .lst true (zn8 fs ++ [zi9 g])]), some (tkD t), some (.str (zg8 t)), some (zi9 f)] = some (pcD (zs2 f)) :=
    zf8 (zc8 (d := zi9 f) (by simp [za7, za5, za4, fB, f2, za1, fC, zb3, zc0, zd2, zb8, ze3, zf3, za0, za2, za3, dEq, eqB, dB, dIx, zb6, zj2, D.imm, D.imms, zc2, fT, zc9, za8, zd6, zd9, zd8, zf7, zf6, dIn, inB, zj0, D.flat, D.flats, inV, eqV, zd7, ze2, zh0, zf4, zg7, ze1, zi4, zf9, zf0, zk5, D.key, zh9, ze6, ze7, zk2, L2.ze8, zi9]) rfl) q
  unfold ye7
  refine (zq8 (c1 _)).trans ((zq8 (c2 _)).trans ((zz8 (c3 _)).trans ((zb2 s1).trans ?_)))
  generalize pcD (zs2 f) = d at s2 |-
  have s3 := zc8 (g := za2) (ds := []) s2 rfl
  generalize za0 (za3 G (za0 (zf0 "Nest" "as_piece" (za1 3)) za2)) za2 = A at s3 |-
  simp [za7, za5, za4, fB, f2, za1, fC, zb3, zc0, zd2, zb8, ze3, zf3, za0, za2, za3, dEq, eqB, dB, dIx, zb6, zj2, D.imm, D.imms, zc2, fT, zc9, za8, zd6, zd9, zd8, zf7, zf6, dIn, inB, zj0, D.flat, D.flats, inV, eqV, zd7, ze2, zh0, zf4, zg7, ze1, zi4, zf9, zf0, zk5, D.key, zh9, ze6, ze7, zk2, L2.ze8, zi9] at s3 |-
  simp [za7, za5, za4, fB, f2, za1, fC, zb3, zc0, zd2, zb8, ze3, zf3, za0, za2, za3, dEq, eqB, dB, dIx, zb6, zj2, D.imm, D.imms, zc2, fT, zc9, za8, zd6, zd9, zd8, zf7, zf6, dIn, inB, zj0, D.flat, D.flats, inV, eqV, zd7, ze2, zh0, zf4, zg7, ze1, zi4, zf9, zf0, zk5, D.key, zh9, ze6, ze7, zk2, L2.ze8, s3, hz]
end My
namespace My
open PySem PySem.Spec PyProof.Rows L2 L3
theorem wb9 (c : Nat) : ∀ (a b u v : List Nat), c ∉ a -> c ∉ b -> a ++ c :: u = b ++ c :: v -> a = b /\ u = v
  | [], [], u, v, _, _, e => ⟨rfl, (List.cons.inj e).2⟩
  | [], y :: b, u, v, _, hb, e => absurd (List.cons.inj e).1 (fun z => hb (z ▸ List.mem_cons_self))
  | x :: a, [], u, v, ha, _, e => absurd (List.cons.inj e).1 (fun z => ha (z ▸ List.mem_cons_self))
  | x :: a, y :: b, u, v, ha, hb, e => by
    obtain ⟨e1, e2⟩ := List.cons.inj e
    obtain ⟨e3, e4⟩ := wb9 c a b u v (fun z => ha (List.mem_cons_of_mem _ z)) (fun z => hb (List.mem_cons_of_mem _ z)) e2
    exact ⟨by rw [e1, e3], e4⟩
theorem xb8 {x y : Str} (h : x.cps.toList = y.cps.toList) : x = y := by
  cases x; cases y
  congr
  exact Array.toList_inj.mp h
section
variable {c : Nat}
theorem yn9 (x y : Str) (r : List Str) : (Str.join ⟨#[c]⟩ (x :: y :: r)).cps.toList = x.cps.toList ++ c :: (Str.join ⟨#[c]⟩ (y :: r)).cps.toList := by
  show ((x ++ ⟨#[c]⟩) ++ Str.join ⟨#[c]⟩ (y :: r)).cps.toList = _
  rw [zt2, zt2]
  show (x.cps.toList ++ [c]) ++ _ = _
  simp
theorem xk9 : ∀ xs ys : List Str, xs ≠ [] -> ys ≠ [] -> (∀ p ∈ xs, c ∉ p.cps.toList) -> (∀ p ∈ ys, c ∉ p.cps.toList) -> Str.join ⟨#[c]⟩ xs = Str.join ⟨#[c]⟩ ys -> xs = ys
  | [], _, h, _, _, _, _ => absurd rfl h
  | _, [], _, h, _, _, _ => absurd rfl h
  | [x], [y], _, _, _, _, e => by rw [show x = y from e]
  | [x], y :: y' :: r, _, _, hx, _, e => by
    have e' := congrArg (fun z => z.cps.toList) (show x = Str.join ⟨#[c]⟩ (y :: y' :: r) from e)
    rw [yn9] at e'
    exact absurd (by rw [e']; simp) (hx x List.mem_cons_self)
  | x :: x' :: r, [y], _, _, _, hy, e => by
    have e' := congrArg (fun z => z.cps.toList) (show Str.join ⟨#[c]⟩ (x :: x' :: r) = y from e)
    rw [yn9] at e'
    exact absurd (by rw [<- e']; simp) (hy y List.mem_cons_self)
  | x :: x' :: r, y :: y' :: s, _, _, hx, hy, e => by
    have e' := congrArg (fun z => z.cps.toList) e
    rw [yn9, yn9] at e'
    obtain ⟨e1, e2⟩ := wb9 c _ _ _ _ (hx x List.mem_cons_self) (hy y List.mem_cons_self) e'
    have ih := xk9 (x' :: r) (y' :: s) (by simp) (by simp) (fun p hp => hx p (List.mem_cons_of_mem _ hp)) (fun p hp => hy p (List.mem_cons_of_mem _ hp)) (xb8 e2)
    rw [xb8 e1, ih]
theorem xu9 {ys : List Str} (hne : ys ≠ []) (hy : ∀ p ∈ ys, c ∉ p.cps.toList) : Txt.split (Txt.join ⟨#[c]⟩ ys) ⟨#[c]⟩ = ys := by
  have e1 : Txt.join ⟨#[c]⟩ ys = Str.join ⟨#[c]⟩ ys := StrLaws.glued_eq_join ⟨#[c]⟩ ys
  have e2 : Str.join ⟨#[c]⟩ (Txt.split (Txt.join ⟨#[c]⟩ ys) ⟨#[c]⟩) = Str.join ⟨#[c]⟩ ys := by rw [StrLaws.join_split, e1]
  refine xk9 _ _ (fun z => ?_) hne (StrLaws.split_free _ c) hy e2
  have := split_pos (Txt.join ⟨#[c]⟩ ys) ⟨#[c]⟩
  rw [z] at this
  exact absurd this (by decide)
end
theorem wh1 : (" " : Str) = ⟨#[32]⟩ := by decide +kernel
theorem xe3 {α : Type} : ∀ l : List α, (List.range l.length).filterMap (fun k => l[k]?) = l
  | [] => rfl
  | a :: l => by
    rw [List.length_cons, List.range_succ_eq_map, List.filterMap_cons]
    show a :: _ = _
    rw [List.filterMap_map]
    have e : ((fun k => (a :: l)[k]?) ∘ Nat.succ) = fun k => l[k]? := funext fun k => by simp
    rw [e, xe3 l]
theorem wt3 (c : Nat) (x : Str) : Txt.slice (⟨#[c]⟩ ++ x) (some 1) none = x := by
  have hl : (⟨#[c]⟩ ++ x : Str).length = x.length + 1 := by rw [zj1]; show 1 + _ = _; omega
  refine xb8 ?_
  unfold Txt.slice
  rw [hl]
  have hi : Builtin.Str.strSliceIndices (some 1) none 1 (x.length + 1) = (List.range x.length).map (· + 1) := by
    unfold Builtin.Str.strSliceIndices sliceRange
    have h1 : ¬ ((1 : Int) < 0) := by decide
    have h2 : (1 : Int) > 0 := by decide
    simp only [h1, h2, if_true, if_false, Int.ediv_one]
    have m1 : max (0 : Int) (min 1 ((x.length + 1 : Nat) : Int)) = 1 := by omega
    rw [m1]
    have m2 : (if (1 : Int) < ((x.length + 1 : Nat) : Int) then ((x.length + 1 : Nat) : Int) - 1 + 1 - 1 else 0).toNat = x.length := by
      split <;> omega
    rw [m2]
    refine List.map_congr_left fun k _ => ?_
    omega
  rw [hi, List.length_map, List.length_range, if_neg (by simp)]
  show ((List.range x.length).map (· + 1)).filterMap ((#[c] ++ x.cps)[·]?) = x.cps.toList
  rw [List.filterMap_map]
  have e : ((fun i => (#[c] ++ x.cps)[i]?) ∘ fun k => k + 1) = fun k => x.cps.toList[k]? := funext fun k => by
    show (#[c] ++ x.cps)[k + 1]? = _
    rw [Array.getElem?_append_right (by simp)]
    simp
  rw [e]
  exact xe3 x.cps.toList
theorem zz9 (c d : Nat) (x : Str) : Txt.startswith (⟨#[c]⟩ ++ x) ⟨#[d]⟩ = decide (c = d) := by
  have hl : (⟨#[c]⟩ ++ x : Str).length = x.length + 1 := by rw [zj1]; show 1 + _ = _; omega
  unfold Txt.startswith Builtin.Str.subAt
  rw [hl]
  show (decide (0 + 1 <= x.length + 1) && ((#[c] ++ x.cps).extract 0 (0 + 1) == #[d])) = _
  have e : (#[c] ++ x.cps).extract 0 (0 + 1) = #[c] := by
    apply Array.ext'
    simp
  rw [e, decide_eq_true (by omega)]
  by_cases h : c = d
  . subst h; simp
  . simp [h]
end My
namespace My
open PySem PySem.Spec PyProof.Rows L2 L3
noncomputable def zv3 : Pc -> List (List Pc)
  | .leaf _ => []
  | .group r => [r]
  | .hang _ r => [r]
  | .either rs => rs
end My
namespace My
open PySem PySem.Spec PyProof.Rows L2 L3
structure Gm where
  kd : Nat
  n : Int
  full : List (List Pc)
  parts : List Pc
noncomputable def kdS : Nat -> String
  | 0 => "top"
  | 1 => "group"
  | 2 => "hang"
  | _ => "either"
noncomputable def gmD (f : Gm) : D := .lst true [.str (kdS f.kd), .int f.n, .lst true (zg0 f.full), .lst true (zd4 f.parts)]
noncomputable def zg6 : List Gm -> List D
  | [] => []
  | f :: fs => zg6 fs ++ [gmD f]
theorem ye3 : ∀ fs, (zg6 fs).length = fs.length
  | [] => rfl
  | f :: fs => by rw [zg6, List.length_append, ye3 fs]; rfl
noncomputable def yk0 : List Pc := [.leaf (.word "or")]
noncomputable def yf4 (f : Gm) : List (List Pc) := if f.full = [] then [f.parts, yk0] else f.full ++ [f.parts]
noncomputable def zq1 (f : Gm) : Pc := match f.kd with
  | 1 => .group f.parts
  | 2 => .hang f.n f.parts
  | _ => .either (yf4 f)
noncomputable def zx3 (g : Gm) (p : Pc) : Gm := { g with parts := g.parts ++ [p] }
mutual
noncomputable def okP : Pc -> Prop
  | .leaf l => zv1 l
  | .group r => okR r
  | .hang n r => (0 <= n /\ n <= 12) /\ okR r
  | .either rs => (2 <= rs.length /\ rs.length <= 4) /\ zz3 rs
noncomputable def okR : List Pc -> Prop
  | [] => True
  | p :: r => okP p /\ okR r
noncomputable def zz3 : List (List Pc) -> Prop
  | [] => True
  | r :: rs => okR r /\ zz3 rs
end
theorem xb9 : ∀ a b : List Pc, okR (a ++ b) ↔ okR a /\ okR b
  | [], b => by simp [okR]
  | p :: a, b => by rw [List.cons_append, okR, okR, xb9 a b, and_assoc]
theorem yv7 : ∀ a b : List (List Pc), zz3 (a ++ b) ↔ zz3 a /\ zz3 b
  | [], b => by simp [zz3]
  | p :: a, b => by rw [List.cons_append, zz3, zz3, yv7 a b, and_assoc]
theorem xq9 (p : Pc) : okR [p] ↔ okP p := by simp [okR]
theorem xl0 (r : List Pc) : zz3 [r] ↔ okR r := by simp [zz3]
theorem yi5 : ∀ a b : List (List Pc), ze4 (a ++ b) = ze4 a ++ ze4 b
  | [], b => rfl
  | r :: a, b => by
    show Tk.orr :: (zc6 r ++ ze4 (a ++ b)) = (Tk.orr :: (zc6 r ++ ze4 a)) ++ ze4 b
    rw [yi5 a b]; simp
noncomputable def wF (f : Gm) : Nat := (ze4 f.full).length + (zc6 f.parts).length + 4
noncomputable def wG : List Gm -> Nat
  | [] => 0
  | f :: fs => wF f + wG fs
noncomputable def wv7 (f : Gm) : Prop := zz3 f.full /\ okR f.parts /\ f.full.length <= 3 /\ (f.kd ≠ 3 -> f.full = []) /\ 0 <= f.n /\ f.n <= 12
noncomputable def xn4 : List Gm -> Prop
  | [] => False
  | [f] => f.kd = 0
  | f :: g :: fs => (1 <= f.kd /\ f.kd <= 3) /\ xn4 (g :: fs)
noncomputable def wk4 (m : Nat) : List Gm -> Prop
  | [] => True
  | f :: fs => zj3 f.parts + fs.length <= m /\ zr6 f.full + fs.length <= m /\ wk4 m fs
structure GInv (nest k : Nat) (fs : List Gm) : Prop where
  len : fs.length <= nest + 1
  wt : wG fs <= 4 * k + 4
  each : ∀ f ∈ fs, wv7 f
  kinds : xn4 fs
  deep : wk4 nest fs
theorem xv0 {f : Gm} (h : f.kd ≠ 3 -> f.full = []) (hk : 1 <= f.kd /\ f.kd <= 3) : (zh1 (zq1 f)).length <= wF f := by
  have e : f.kd = 1 \/ f.kd = 2 \/ f.kd = 3 := by omega
  unfold wF zq1
  rcases e with e | e | e
  . rw [e]; show (Tk.opn :: (zc6 f.parts ++ [.cls])).length <= _; rw [List.length_cons, List.length_append]; simp; omega
  . rw [e]; show (Tk.hng f.n :: (zc6 f.parts ++ [.bck])).length <= _; rw [List.length_cons, List.length_append]; simp; omega
  . rw [e]
    show (Tk.eit :: (zr0 (yf4 f) ++ [.don])).length <= _
    rw [List.length_cons, List.length_append]
    unfold yf4
    cases hf : f.full with
    | nil =>
      rw [if_pos rfl]
      show (zc6 f.parts ++ (Tk.orr :: (zc6 yk0 ++ []))).length + 1 + 1 <= _
      simp [yk0, zc6, zh1, ze4]
    | cons r rs =>
      rw [if_neg (by simp)]
      show (zc6 r ++ ze4 (rs ++ [f.parts])).length + 1 + 1 <= (Tk.orr :: (zc6 r ++ ze4 rs)).length + _ + 4
      rw [yi5]
      simp [ze4]; omega
theorem wh2 {f : Gm} (h : wv7 f) (hk : 1 <= f.kd /\ f.kd <= 3) : okP (zq1 f) := by
  obtain ⟨h1, h2, h3, h4, h5, h6⟩ := h
  have e : f.kd = 1 \/ f.kd = 2 \/ f.kd = 3 := by omega
  unfold zq1
  rcases e with e | e | e
  . rw [e]; exact h2
  . rw [e]; exact ⟨⟨h5, h6⟩, h2⟩
  . rw [e]
    show (2 <= (yf4 f).length /\ (yf4 f).length <= 4) /\ zz3 (yf4 f)
    unfold yf4
    by_cases c : f.full = []
    . rw [if_pos c]
      refine ⟨⟨by simp, by simp⟩, h2, ?_, trivial⟩
      exact ⟨⟨by decide +kernel, by decide +kernel, by decide +kernel⟩, trivial⟩
    . rw [if_neg c]
      have hp : 1 <= f.full.length := by cases hf : f.full with | nil => exact absurd hf c | cons a l => simp
      refine ⟨⟨by rw [List.length_append]; simp; omega, by rw [List.length_append]; simp; omega⟩, ?_⟩
      rw [yv7, xl0]; exact ⟨h1, h2⟩
theorem wc0 {f : Gm} {m k : Nat} (h1 : zj3 f.parts + (k + 1) <= m) (h2 : zr6 f.full + (k + 1) <= m) : yb4 (zq1 f) + k <= m := by
  unfold zq1
  split
  . show zj3 f.parts + 1 + k <= m; omega
  . show zj3 f.parts + 1 + k <= m; omega
  . show zr6 (yf4 f) + 1 + k <= m
    unfold yf4
    split
    . show max (zj3 f.parts) (max (zj3 yk0) 0) + 1 + k <= m
      have : zj3 yk0 = 0 := rfl
      omega
    . rw [yn3]; omega
theorem GInv.leaf {nest k : Nat} {f : Gm} {fs : List Gm} {l : Leaf} (h : GInv nest k (f :: fs)) (hl : zv1 l) : GInv nest (k + 1) (zx3 f (.leaf l) :: fs) := by
  obtain ⟨h1, h2, h3, h4, h5⟩ := h
  have hf := h3 f List.mem_cons_self
  refine ⟨h1, ?_, ?_, ?_, ?_⟩
  . have h2' : wF f + wG fs <= 4 * k + 4 := h2
    show (ze4 f.full).length + (zc6 (f.parts ++ [.leaf l])).length + 4 + wG fs <= _
    rw [yi0, List.length_append]
    unfold wF at h2'
    show _ + (_ + 1) + 4 + _ <= _
    omega
  . intro x hx
    rcases List.mem_cons.mp hx with rfl | hx
    . obtain ⟨a1, a2, a3, a4, a5⟩ := hf
      exact ⟨a1, (xb9 _ _).mpr ⟨a2, (xq9 _).mpr hl⟩, a3, a4, a5⟩
    . exact h3 x (List.mem_cons_of_mem _ hx)
  . cases fs with
    | nil => exact h4
    | cons g fs => exact ⟨h4.1, h4.2⟩
  . refine ⟨?_, h5.2.1, h5.2.2⟩
    show zj3 (f.parts ++ [.leaf l]) + fs.length <= nest
    rw [yq3]
    have := h5.1
    show max _ 0 + _ <= _
    omega
theorem GInv.opener {nest k : Nat} {fs : List Gm} {kd : Nat} {n : Int} (h : GInv nest k fs) (hk : 1 <= kd /\ kd <= 3) (hn : 0 <= n /\ n <= 12) (hl : fs.length <= nest) : GInv nest (k + 1) (⟨kd, n, [], []⟩ :: fs) := by
  obtain ⟨h1, h2, h3, h4, h5⟩ := h
  refine ⟨by simp; omega, ?_, ?_, ?_, ?_⟩
  . show 0 + 0 + 4 + wG fs <= _; omega
  . intro x hx
    rcases List.mem_cons.mp hx with rfl | hx
    . exact ⟨trivial, trivial, Nat.zero_le _, fun _ => rfl, hn⟩
    . exact h3 x hx
  . cases fs with
    | nil => exact h4.elim
    | cons g fs => exact ⟨hk, h4⟩
  . exact ⟨by show 0 + _ <= _; omega, by show 0 + _ <= _; omega, h5⟩
theorem GInv.orr {nest k : Nat} {f : Gm} {fs : List Gm} (h : GInv nest k (f :: fs)) (hf3 : f.full.length < 3) (hk : f.kd = 3) : GInv nest (k + 1) ({ f with full := f.full ++ [f.parts], parts := [] } :: fs) := by
  obtain ⟨h1, h2, h3, h4, h5⟩ := h
  have hf := h3 f List.mem_cons_self
  refine ⟨h1, ?_, ?_, ?_, ?_⟩
  . have h2' : wF f + wG fs <= 4 * k + 4 := h2
    show (ze4 (f.full ++ [f.parts])).length + 0 + 4 + wG fs <= _
    rw [yi5, List.length_append]
    unfold wF at h2'
    simp [ze4]; omega
  . intro x hx
    rcases List.mem_cons.mp hx with rfl | hx
    . obtain ⟨a1, a2, a3, a4, a5⟩ := hf
      exact ⟨(yv7 _ _).mpr ⟨a1, (xl0 _).mpr a2⟩, trivial, by show (f.full ++ [f.parts]).length <= 3; rw [List.length_append]; simp; omega, fun z => absurd hk z, a5⟩
    . exact h3 x (List.mem_cons_of_mem _ hx)
  . cases fs with
    | nil => exact h4
    | cons g fs => exact ⟨h4.1, h4.2⟩
  . refine ⟨?_, ?_, h5.2.2⟩
    . show 0 + _ <= _
      have := h5.1; omega
    . show zr6 (f.full ++ [f.parts]) + fs.length <= nest
      rw [yn3]
      have a1 := h5.1; have a2 := h5.2.1
      omega
theorem GInv.shut {nest k : Nat} {f g : Gm} {fs : List Gm} (h : GInv nest k (f :: g :: fs)) : GInv nest k (zx3 g (zq1 f) :: fs) := by
  obtain ⟨h1, h2, h3, h4, h5⟩ := h
  have hf := h3 f List.mem_cons_self
  have hg := h3 g (List.mem_cons_of_mem _ List.mem_cons_self)
  have hk := h4.1
  refine ⟨by simp at h1 |-; omega, ?_, ?_, ?_, ?_⟩
  . have h2' : wF f + (wF g + wG fs) <= 4 * k + 4 := h2
    have t := xv0 hf.2.2.2.1 hk
    show (ze4 g.full).length + (zc6 (g.parts ++ [zq1 f])).length + 4 + wG fs <= _
    rw [yi0, List.length_append, wa8]
    unfold wF at h2' t
    omega
  . intro x hx
    rcases List.mem_cons.mp hx with rfl | hx
    . obtain ⟨a1, a2, a3, a4, a5⟩ := hg
      exact ⟨a1, (xb9 _ _).mpr ⟨a2, (xq9 _).mpr (wh2 hf hk)⟩, a3, a4, a5⟩
    . exact h3 x (List.mem_cons_of_mem _ (List.mem_cons_of_mem _ hx))
  . cases fs with
    | nil => exact h4.2
    | cons g' fs => exact ⟨h4.2.1, h4.2.2⟩
  . obtain ⟨d1, d2, d3, d4, d5⟩ := h5
    refine ⟨?_, d4, d5⟩
    show zj3 (g.parts ++ [zq1 f]) + fs.length <= nest
    rw [yq3]
    have := wc0 (f := f) (m := nest) (k := fs.length) d1 d2
    omega
theorem GInv.more {nest k k' : Nat} {fs : List Gm} (h : GInv nest k fs) (hk : k <= k') : GInv nest k' fs := ⟨h.len, by have := h.wt; omega, h.each, h.kinds, h.deep⟩
theorem wc1 : ∀ {fs : List Gm} {f : Gm}, f ∈ fs -> wF f <= wG fs
  | [], _, h => by simp at h
  | g :: fs, f, h => by
    show wF f <= wF g + wG fs
    rcases List.mem_cons.mp h with rfl | h
    . omega
    . have := wc1 h; omega
theorem yy3 (p : Pc) : 1 <= (zh1 p).length := by cases p <;> simp [zh1]
theorem yo0 : ∀ r : List Pc, r.length <= (zc6 r).length
  | [] => Nat.le_refl _
  | p :: r => by
    show r.length + 1 <= (zh1 p ++ zc6 r).length
    rw [List.length_append]
    have := yo0 r; have := yy3 p; omega
theorem GInv.parts {nest k : Nat} {fs : List Gm} {f : Gm} (h : GInv nest k fs) (hf : f ∈ fs) : f.parts.length <= 4 * k + 4 := by
  have h1 := wc1 hf; have h2 := h.wt; have h3 := yo0 f.parts
  unfold wF at h1; omega
theorem yc8 : ixN 4 3 = some 3 := by decide
theorem yc9 : ixN 4 2 = some 2 := by decide
theorem zt0 {α : Type} (a b c d : α) : atI [a, b, c, d] 3 = some d := rfl
noncomputable abbrev yz6 : List D -> Option (D × List D) := gE 1 5 (zf2 [true]) yg0
theorem wy9 {N : List D} {a b c d : D} : yo5 [1, 2, 3, 4] (zd2 0 zb8 za2 zj2) [some (.lst true (N ++ [.lst true [a, b, c, d]])), none, none, none, none, none] = some (.nx, [some (.lst true N), some a, some b, some c, some d, none]) := by
  simp [gP, za9, za7, zb1, za5, fIf, za4, fB, f2, za1, fC, zb3, zb4, zj9, zc0, zd2, zb8, ze3, zf3, za0, za2, zc3, zd3, fKs, za3, dEq, dNe, eqB, dB, dIx, zb9, zb6, zj2, zw3, zm6, ya2, zs1, fSl, D.imm, D.imms, zc1, zc2, fT, zc9, za8, zd6, zd9, zd8, zf7, zq4, zr5, zf6, yo5, xn1, yo4, ze5, zh4, zd7, dLt, dLe, dGt, dGe, gE, zl1, zf2, fIO, ze2, zi3, zg2, zg3, ze6, ze7, zk2, L2.ze8, yc8, yc9, zt0]
theorem kd1 {p : PSt} {k w : String} {b : Bool} (hp : p[1]? = some (some (.str k))) (h : decide (k = w) = b) : fB (f2 dEq (za1 1) (fC (.str w))) p = some b := by
  refine yf2 (zh5 (xq8 hp) rfl ?_)
  show some (D.bl (decide ((k : Str) = (w : Str)))) = _
  rw [<- h]
  congr 2
  exact decide_eq_decide.mpr (by rw [za8])
theorem yl9 {g : PSt -> Option (List D)} {p : PSt} {ds : List D} (h : g p = some ds) (hi : D.imms ds = true) (hl : ds.length <= 1000) : zd3 g p = some (.tup ds) := by
  unfold zd3
  rw [h]
  exact if_pos (by rw [hi]; simpa using hl)
theorem wh3 {f g : Gm} {fs : List Gm} (hk : 1 <= f.kd /\ f.kd <= 3) (hf : f.kd ≠ 3 -> f.full = []) (hfl : f.full.length <= 3) (hg : g.parts.length <= 900) : yz6 [.lst true (zg6 (f :: g :: fs))] = some (.non, [.lst true (zg6 (zx3 g (zq1 f) :: fs))]) := by
  obtain ⟨kd, n, full, parts⟩ := f
  have hfl' : full.length <= 3 := hfl
  have hz : (zd4 g.parts).length < sizeLine := by rw [ye0]; exact sz1 (by omega)
  have s2 : ∀ K x0, zb1 3 (za5 (f2 zc2 (za1 3) (zc3 (za0 (za3 zc1 (za0 (za1 4) za2)) za2)))) [x0, some K, some (.int n), some (.lst true (zg0 full)), some (.lst true (zd4 parts)), none] = some (.nx, [x0, some K, some (.int n), some (.lst true (zg0 (full ++ [parts]))), some (.lst true (zd4 parts)), none]) := fun K x0 => by
    refine zm4 (zh5 rfl (zx0 (zc8 (zf8 (zc8 rfl rfl) (if_pos (zn6 parts))) rfl) (Nat.le_of_ble_eq_true rfl)) ?_)
    rw [yf7]
    refine yi4 (zy3 full) (zy3 [parts]) ?_
    rw [zp3]; show full.length + 1 <= 1000; omega
  have s4 : ∀ K x0 x4 (r0 : List Pc) rs, zb1 5 (za5 (zd3 (za0 (fC (.str "group")) (za0 (zb3 (f2 dIx (za1 3) (fC (.int 0)))) za2)))) [x0, some K, some (.int n), some (.lst true (zg0 (r0 :: rs))), x4, none] = some (.nx, [x0, some K, some (.int n), some (.lst true (zg0 (r0 :: rs))), x4, some (pcD (.group r0))]) := fun K x0 x4 r0 rs =>
    zm4 (yl9 (zc8 rfl (zc8 (ys4 (zh5 rfl rfl (zd6 _ _)) (zn6 r0)) rfl)) (yq7 (.group r0)) (Nat.le_of_ble_eq_true rfl))
  have s7 : ∀ (pc : Pc) K x3 x4, zc0 (zd2 0 (zf7 0 (zf7 0 zb8 (zf6 (fC (.int 1)))) (fC (.int 3))) (za0 (zb3 (za1 5)) za2) zb6) [some (.lst true (zg6 fs ++ [gmD g])), K, some (.int n), x3, x4, some (pcD pc)] = some (.nx, [some (.lst true (zg6 fs ++ [gmD (zx3 g pc)])), K, some (.int n), x3, x4, some (pcD pc)]) := fun pc K x3 x4 => by
    have hi := yq7 pc
    have e : gmD (zx3 g pc) = .lst true [.str (kdS g.kd), .int g.n, .lst true (zg0 g.full), .lst true (zd4 g.parts ++ [pcD pc])] := by unfold gmD zx3; rw [yi3]; rfl
    rw [e]
    unfold gmD
    generalize pcD pc = d at hi |-
    simp [gP, za9, za7, zb1, za5, fIf, za4, fB, f2, za1, fC, zb3, zb4, zj9, zc0, zd2, zb8, ze3, zf3, za0, za2, zc3, zd3, fKs, za3, dEq, dNe, eqB, dB, dIx, zb9, zb6, zj2, zw3, zm6, ya2, zs1, fSl, D.imm, D.imms, zc1, zc2, fT, zc9, za8, zd6, zd9, zd8, zf7, zq4, zr5, zf6, yo5, xn1, yo4, ze5, zh4, zd7, dLt, dLe, dGt, dGe, gE, zl1, zf2, fIO, ze2, zi3, zg2, zg3, ze6, ze7, zk2, L2.ze8, yc8, yc9, zt0, hi, hz]
  suffices h : ∃ q1 q2 q3 q4 q5, yg0 [some (.lst true (zg6 (⟨kd, n, full, parts⟩ :: g :: fs))), none, none, none, none, none] = some (.nx, [some (.lst true (zg6 fs ++ [gmD (zx3 g (zq1 ⟨kd, n, full, parts⟩))])), q1, q2, q3, q4, q5]) from by
    obtain ⟨q1, q2, q3, q4, q5, hq⟩ := h
    unfold yz6 gE
    refine (if_pos rfl).trans ?_
    show (yg0 [some (.lst true (zg6 (⟨kd, n, full, parts⟩ :: g :: fs))), none, none, none, none, none]).bind _ = _
    rw [hq]; rfl
  have s1 : yo5 [1, 2, 3, 4] (zd2 0 zb8 za2 zj2) [some (.lst true (zg6 (⟨kd, n, full, parts⟩ :: g :: fs))), none, none, none, none, none] = _ := wy9
  have e : kd = 1 \/ kd = 2 \/ kd = 3 := by have : 1 <= kd /\ kd <= 3 := hk; omega
  unfold yg0
  rw [zb2 s1, zb2 (s2 _ _)]
  rcases e with rfl | rfl | rfl
  . have e1 : full = [] := hf (by simp [gP, za9, za7, zb1, za5, fIf, za4, fB, f2, za1, fC, zb3, zb4, zj9, zc0, zd2, zb8, ze3, zf3, za0, za2, zc3, zd3, fKs, za3, dEq, dNe, eqB, dB, dIx, zb9, zb6, zj2, zw3, zm6, ya2, zs1, fSl, D.imm, D.imms, zc1, zc2, fT, zc9, za8, zd6, zd9, zd8, zf7, zq4, zr5, zf6, yo5, xn1, yo4, ze5, zh4, zd7, dLt, dLe, dGt, dGe, gE, zl1, zf2, fIO, ze2, zi3, zg2, zg3, ze6, ze7, zk2, L2.ze8, yc8, yc9, zt0])
    subst e1
    exact ⟨_, _, _, _, _, (zb2 (zs4 (xk6 (kd1 (k := "group") rfl (by decide))))).trans ((zb2 (s4 _ _ _ parts [])).trans ((zb2 (zs4 (kd1 (k := "group") rfl (by decide)))).trans ((zb2 (zs4 (kd1 (k := "group") rfl (by decide)))).trans (s7 _ _ _ _))))⟩
  . have e1 : full = [] := hf (by simp [gP, za9, za7, zb1, za5, fIf, za4, fB, f2, za1, fC, zb3, zb4, zj9, zc0, zd2, zb8, ze3, zf3, za0, za2, zc3, zd3, fKs, za3, dEq, dNe, eqB, dB, dIx, zb9, zb6, zj2, zw3, zm6, ya2, zs1, fSl, D.imm, D.imms, zc1, zc2, fT, zc9, za8, zd6, zd9, zd8, zf7, zq4, zr5, zf6, yo5, xn1, yo4, ze5, zh4, zd7, dLt, dLe, dGt, dGe, gE, zl1, zf2, fIO, ze2, zi3, zg2, zg3, ze6, ze7, zk2, L2.ze8, yc8, yc9, zt0])
    subst e1
    exact ⟨_, _, _, _, _, (zb2 (zs4 (xk6 (kd1 (k := "hang") rfl (by decide))))).trans ((zb2 (s4 _ _ _ parts [])).trans ((zb2 ((zy4 (kd1 (k := "hang") rfl (by decide))).trans (zm4 (yl9 (zc8 rfl (zc8 (ys4 rfl rfl) (zc8 (ys4 (d := .tup (zd4 parts)) (zh5 rfl rfl (zd6 _ _)) (zn6 parts)) rfl))) (yq7 (.hang n parts)) (Nat.le_of_ble_eq_true rfl))))).trans ((zb2 (zs4 (kd1 (k := "hang") rfl (by decide)))).trans (s7 (.hang n parts) _ _ _))))⟩
  . have fin : ∀ (r0 : List Pc) (rs : List (List Pc)), yf4 ⟨3, n, full, parts⟩ = r0 :: rs -> ∃ q1 q2 q3 q4 q5, za9 (zb1 5 (za5 (zd3 (za0 (fC (.str "group")) (za0 (zb3 (f2 dIx (za1 3) (fC (.int 0)))) za2))))) (za9 (fIf (za4 (fB (f2 dEq (za1 1) (fC (.str "hang"))))) (zb1 5 (za5 (zd3 (za0 (fC (.str "hang")) (za0 (zb3 (za1 2)) (za0 (zb3 (f2 dIx (za1 3) (fC (.int 0)))) za2)))))) za7)
        (za9 (fIf (za4 (fB (f2 dEq (za1 1) (fC (.str "either"))))) (zb1 5 (za5 (zd3 (za0 (fC (.str "either")) (za0 (za3 zc1 (za0 (za1 3) za2)) za2))))) za7) (zc0 (zd2 0 (zf7 0 (zf7 0 zb8 (zf6 (fC (.int 1)))) (fC (.int 3))) (za0 (zb3 (za1 5)) za2) zb6)))) [some (.lst true (zg6 fs ++ [gmD g])), some (.str "either"), some (.int n), some (.lst true (zg0 (r0 :: rs))), some (.lst true (zd4 parts)), none] = some (.nx, [some (.lst true (zg6 fs ++ [gmD (zx3 g (zq1 ⟨3, n, full, parts⟩))])), q1, q2, q3, q4, q5]) := fun r0 rs he => by
      have hs : zq1 ⟨3, n, full, parts⟩ = .either (r0 :: rs) := by rw [<- he]; rfl
      rw [hs]
      exact ⟨_, _, _, _, _, (zb2 (s4 _ _ _ r0 rs)).trans ((zb2 (zs4 (kd1 rfl (by decide)))).trans ((zb2 ((zy4 (kd1 rfl (by decide))).trans (zm4 (yl9 (zc8 rfl (zc8 (zf8 (zc8 rfl rfl) (if_pos (zy3 (r0 :: rs)))) rfl)) (yq7 (.either (r0 :: rs))) (Nat.le_of_ble_eq_true rfl))))).trans (s7 (.either (r0 :: rs)) _ _ _)))⟩
    have lt : ∀ x0 x4, fB (f2 dLt (za3 zb9 (za0 (za1 3) za2)) (fC (.int 2))) [x0, some (.str "either"), some (.int n), some (.lst true (zg0 (full ++ [parts]))), x4, none] = some (decide ((((full ++ [parts]).length : Nat) : Int) < 2)) := fun x0 x4 => by
      refine yf2 (zh5 (zf8 (zc8 rfl rfl) rfl) rfl ?_)
      show some (D.bl (decide ((((zg0 (full ++ [parts])).length : Nat) : Int) < 2))) = _
      rw [zp3]
    cases full with
    | nil =>
      have s3 : ∀ x0 x4, fIf (za4 (ze5 (fB (f2 dEq (za1 1) (fC (.str "either")))) (fB (f2 dLt (za3 zb9 (za0 (za1 3) za2)) (fC (.int 2)))))) (zb1 3 (za5 (f2 zc2 (za1 3) (zc3 (za0 (zd3 (za0 (zd3 (za0 (fC (.str "word")) (za0 (fC (.str "or")) za2))) za2)) za2))))) za7 [x0, some (.str "either"), some (.int n), some (.lst true (zg0 ([] ++ [parts]))), x4, none] = some (.nx, [x0, some (.str "either"), some (.int n), some (.lst true (zg0 [parts, yk0])), x4, none]) := fun x0 x4 =>
        (zy4 (xk7 (kd1 rfl (by decide)) (lt _ _))).trans (zm4 (zh5 rfl (zx0 (zc8 (yl9 (zc8 (yl9 (zc8 rfl (zc8 rfl rfl)) rfl (Nat.le_of_ble_eq_true rfl)) rfl) rfl (Nat.le_of_ble_eq_true rfl)) rfl) (Nat.le_of_ble_eq_true rfl)) (yi4 (zy3 [parts]) (zy3 [yk0]) (Nat.le_of_ble_eq_true rfl))))
      show ∃ q1 q2 q3 q4 q5, za9 _ _ [some (.lst true (zg6 fs ++ [gmD g])), some (.str "either"), some (.int n), some (.lst true (zg0 ([] ++ [parts]))), some (.lst true (zd4 parts)), none] = _
      rw [zb2 (s3 _ _)]
      exact fin parts [yk0] rfl
    | cons r rs =>
      have lt' := lt (some (.lst true (zg6 fs ++ [gmD g]))) (some (.lst true (zd4 parts)))
      rw [decide_eq_false (by simp; omega)] at lt'
      show ∃ q1 q2 q3 q4 q5, za9 _ _ [some (.lst true (zg6 fs ++ [gmD g])), some (.str "either"), some (.int n), some (.lst true (zg0 (r :: rs ++ [parts]))), some (.lst true (zd4 parts)), none] = _
      rw [zb2 (zs4 (xk7 (kd1 rfl (by decide)) lt'))]
      exact fin r (rs ++ [parts]) rfl
end My
namespace My
open PySem PySem.Spec PyProof.Rows L2 L3
noncomputable def ifR (GM : List D -> Option D) (GS : List D -> Option (D × List D)) (GL : List D -> Option D) : PSt -> Option (Fl × PSt) :=
  (fIf (za4 (ze5 (fB (f2 dLt (za1 7) (fC (.int 4)))) (fB (f2 dLe (za3 zb9 (za0 (za1 4) za2)) (za1 3)))))
   (za9 (zb1 9 (za5 (f2 dIx (zc3 (fKs [.str "group", .str "group", .str "hang", .str "either"])) (za1 7))))
  (zc0 (zd2 4 zb8 (za0 (zc3 (za0 (zb3 (za1 9)) (za0 (f2 dIx (zc3 (za0 (fC (.int 1)) (za0 (fC (.int 2)) (za0 (fC (.int 4)) (za0 (f2 zl5 (f2 zs5 (za1 6) (fC (.int 13))) (fC (.int 13))) za2))))) (f2 zl5 (f2 zs5 (za1 6) (fC (.int 169))) (fC (.int 4)))) (za0 (zc3 za2) (za0 (zc3 za2) za2))))) za2) zb6)))
   (fIf (za4 (ze5 (fB (f2 dEq (za1 7) (fC (.int 4)))) (fB (f2 dGt (za3 zb9 (za0 (za1 4) za2)) (fC (.int 1))))))
   (zc0 (fIO [.io 4] GS))
   (fIf (za4 (ze5 (fB (f2 dLt (za1 7) (fC (.int 7)))) (ze5 (fB (f2 dEq (za1 8) (fC (.str "either")))) (fB (f2 dLt (za3 zb9 (za0 (f2 dIx (f2 dIx (za1 4) (zf6 (fC (.int 1)))) (fC (.int 2))) za2)) (fC (.int 3)))))))
   (za9 (zc0 (zd2 4 (zf7 4 (zf7 4 zb8 (zf6 (fC (.int 1)))) (fC (.int 2))) (za0 (za3 zc1 (za0 (f2 dIx (f2 dIx (za1 4) (zf6 (fC (.int 1)))) (fC (.int 3))) za2)) za2) zb6))
  (zq4 4 (zf7 4 zb8 (zf6 (fC (.int 1)))) (fC (.int 3)) (zc3 za2)))
   (zc0 (zd2 4 (zf7 4 (zf7 4 zb8 (zf6 (fC (.int 1)))) (fC (.int 3))) (za0 (za3 GL (za0 (za3 GM (za0 (za1 0) (za0 (za1 5) (za0 (fC (.int 32)) za2)))) za2)) za2) zb6)))))
noncomputable def yo7 (GM : List D -> Option D) (GS : List D -> Option (D × List D)) (GL : List D -> Option D) : PSt -> Option (Fl × PSt) :=
   (za9 (zb1 6 (za5 (za3 GM (za0 (za1 0) (za0 (za1 5) (za0 (fC (.int 31)) za2))))))
  (za9 (zb1 7 (za5 (f2 zl5 (za1 6) (fC (.int 13)))))
  (za9 (zb1 8 (za5 (zb3 (f2 dIx (f2 dIx (za1 4) (zf6 (fC (.int 1)))) (fC (.int 0))))))
  (ifR GM GS GL))))
section
variable {GM : List D -> Option D} {GS : List D -> Option (D × List D)} {GL : List D -> Option D} {S : D} {x1 x2 x6 x7 x8 x9 : Option D} {nest : Nat} {f : Gm} {fs : List Gm} {i m : Int}
theorem wc2 (hm : GM [S, .int i, .int 31] = some (.int m)) : yo7 GM GS GL [some S, x1, x2, some (.int nest), some (.lst true (zg6 (f :: fs))), some (.int i), x6, x7, x8, x9]
    = ifR GM GS GL [some S, x1, x2, some (.int nest), some (.lst true (zg6 (f :: fs))), some (.int i), some (.int m), some (.int (m % 13)), some (.str (kdS f.kd)), x9] := by
  unfold yo7
  refine (zb2 (zm4 (zf8 rfl hm))).trans ?_
  refine (zb2 (zm4 (d := .int (m % 13)) (by simp [za9, za7, zb1, za5, fIf, za4, fB, f2, za1, fC, zb3, zb4, zc0, zd2, zb8, ze3, zf3, za0, za2, zc3, zd3, fKs, za3, dEq, dNe, eqB, dB, dIx, zb9, zb6, D.imm, D.imms, zc1, zc2, fT, zc9, za8, zd6, zd9, zd8, zf7, zq4, zr5, zf6, ze5, zh4, zd7, dLt, dLe, dGt, dGe, fIO, ze2, zi3, zg2, zg3, ze6, ze7, zk2, L2.ze8, yc8, yc9, zt0]))).trans ?_
  exact zb2 (zm4 (d := .str (kdS f.kd)) (by simp [za9, za7, zb1, za5, fIf, za4, fB, f2, za1, fC, zb3, zb4, zc0, zd2, zb8, ze3, zf3, za0, za2, zc3, zd3, fKs, za3, dEq, dNe, eqB, dB, dIx, zb9, zb6, D.imm, D.imms, zc1, zc2, fT, zc9, za8, zd6, zd9, zd8, zf7, zq4, zr5, zf6, ze5, zh4, zd7, dLt, dLe, dGt, dGe, fIO, ze2, zi3, zg2, zg3, ze6, ze7, zk2, L2.ze8, yc8, yc9, zt0, zg6, gmD]))
theorem wt4 (a k : Int) (ha : 0 <= a /\ a <= 12) : ∃ n : Int, atI [D.int 1, .int 2, .int 4, .int a] (k % 4) = some (.int n) /\ 0 <= n /\ n <= 12 := by
  have h0 := Int.emod_nonneg k (show (4 : Int) ≠ 0 by decide)
  have h1 := Int.emod_lt_of_pos k (show (0 : Int) < 4 by decide)
  obtain ⟨d, hd, e⟩ := ye1 [D.int 1, .int 2, .int 4, .int a] (k % 4) h0 (by simpa using h1)
  simp only [List.mem_cons, List.not_mem_nil, or_false] at hd
  rcases hd with rfl | rfl | rfl | rfl
  . exact ⟨_, e, by decide, by decide⟩
  . exact ⟨_, e, by decide, by decide⟩
  . exact ⟨_, e, by decide, by decide⟩
  . exact ⟨_, e, ha⟩
theorem wn6 (m : Int) (h0 : 0 <= m % 13) (h : m % 13 < 4) : ∃ kd : Nat, atI [D.str (Str.ofString "group"), .str (Str.ofString "group"), .str (Str.ofString "hang"), .str (Str.ofString "either")] (m % 13) = some (.str (kdS kd)) /\ 1 <= kd /\ kd <= 3 := by
  have hn : m % 13 = 0 \/ m % 13 = 1 \/ m % 13 = 2 \/ m % 13 = 3 := by omega
  rcases hn with e | e | e | e <;> rw [e]
  . exact ⟨1, rfl, by decide, by decide⟩
  . exact ⟨1, rfl, by decide, by decide⟩
  . exact ⟨2, rfl, by decide, by decide⟩
  . exact ⟨3, rfl, by decide, by decide⟩
theorem yy4 {a b : Prop} [Decidable a] [Decidable b] (h : ¬ (a /\ b)) : (decide a && decide b) = false := by
  by_cases ha : a
  . rw [decide_eq_false (fun hb => h ⟨ha, hb⟩), Bool.and_false]
  . rw [decide_eq_false ha, Bool.false_and]
theorem xr0 {a b : Prop} [Decidable a] [Decidable b] (ha : a) (hb : b) : (decide a && decide b) = true := by rw [decide_eq_true ha, decide_eq_true hb]; rfl
theorem yy5 {f g : PSt -> Option Bool} {p : PSt} {a b : Bool} (h1 : f p = some a) (h2 : g p = some b) : ze5 f g p = some (a && b) := by
  cases a with
  | true => exact xk7 h1 h2
  | false => exact xk6 h1
theorem xv1 {N : List D} {w : Int} {x0 x5 x6 : Option D} : ze5 (fB (f2 dLt (za1 7) (fC (.int 4)))) (fB (f2 dLe (za3 zb9 (za0 (za1 4) za2)) (za1 3))) [x0, x1, x2, some (.int nest), some (.lst true N), x5, x6, some (.int w), x8, x9] = some (decide (w < 4) && decide ((N.length : Int) <= (nest : Int))) :=
  yy5 (yf2 (zh5 rfl rfl rfl)) (yf2 (zh5 (zf8 (zc8 rfl rfl) rfl) rfl rfl))
theorem wj5 {N : List D} {w : Int} {x0 x3 x5 x6 : Option D} : ze5 (fB (f2 dEq (za1 7) (fC (.int 4)))) (fB (f2 dGt (za3 zb9 (za0 (za1 4) za2)) (fC (.int 1)))) [x0, x1, x2, x3, some (.lst true N), x5, x6, some (.int w), x8, x9] = some (decide (w = 4) && decide ((1 : Int) < (N.length : Int))) :=
  yy5 (yf2 (zh5 rfl rfl rfl)) (yf2 (zh5 (zf8 (zc8 rfl rfl) rfl) rfl rfl))
theorem xr1 {p : PSt} {j : Nat} {M : List D} {d : D} (hp : p[j]? = some (some (.lst true (M ++ [d])))) : f2 dIx (za1 j) (zf6 (fC (.int 1))) p = some d := zh5 (xq8 hp) rfl (show atI (M ++ [d]) (-1) = _ from L2.ze8 _ _)
theorem wj6 {M R : List D} {w : Int} {k : String} {a b c : D} {x0 x3 x5 x6 : Option D} : ze5 (fB (f2 dLt (za1 7) (fC (.int 7)))) (ze5 (fB (f2 dEq (za1 8) (fC (.str "either")))) (fB (f2 dLt (za3 zb9 (za0 (f2 dIx (f2 dIx (za1 4) (zf6 (fC (.int 1)))) (fC (.int 2))) za2)) (fC (.int 3))))) [x0, x1, x2, x3, some (.lst true (M ++ [.lst true [a, b, .lst true R, c]])), x5, x6, some (.int w), some (.str k), x9] = some (decide (w < 7) && (decide (k = "either") && decide ((R.length : Int) < 3))) := by
  refine yy5 (yf2 (zh5 rfl rfl rfl)) (yy5 (yf2 (zh5 rfl rfl ?_)) (yf2 (zh5 (zf8 (zc8 (zh5 (xr1 (j := 4) rfl) rfl (zd8 _ _ _ _)) rfl) rfl) rfl rfl)))
  show some (D.bl (decide ((k : Str) = (("either" : String) : Str)))) = _
  congr 2
  exact decide_eq_decide.mpr (by rw [za8])
theorem wc3 {p : PSt} {j : Nat} {M : List D} {k n : Nat} {l : List D} (hp : p[j]? = some (some (.lst true (M ++ [.lst true l])))) (hk : ixN l.length (k : Int) = some n) : zf7 j (zf7 j zb8 (zf6 (fC (.int 1)))) (fC (.int (k : Int))) p = some [.ix M.length, .ix n] := by
  have e1 : ixN (M ++ [D.lst true l]).length (-1) = some M.length := by rw [List.length_append]; exact ze6 _
  have e2 : (M ++ [D.lst true l])[M.length]? = some (.lst true l) := by simp [za9, za7, zb1, za5, fIf, za4, fB, f2, za1, fC, zb3, zb4, zc0, zd2, zb8, ze3, zf3, za0, za2, zc3, zd3, fKs, za3, dEq, dNe, eqB, dB, dIx, zb9, zb6, D.imm, D.imms, zc1, zc2, fT, zc9, za8, zd6, zd9, zd8, zf7, zq4, zr5, zf6, ze5, zh4, zd7, dLt, dLe, dGt, dGe, fIO, ze2, zi3, zg2, zg3, ze6, ze7, zk2, L2.ze8, yc8, yc9, zt0]
  simp [za9, za7, zb1, za5, fIf, za4, fB, f2, za1, fC, zb3, zb4, zc0, zd2, zb8, ze3, zf3, za0, za2, zc3, zd3, fKs, za3, dEq, dNe, eqB, dB, dIx, zb9, zb6, D.imm, D.imms, zc1, zc2, fT, zc9, za8, zd6, zd9, zd8, zf7, zq4, zr5, zf6, ze5, zh4, zd7, dLt, dLe, dGt, dGe, fIO, ze2, zi3, zg2, zg3, ze6, ze7, zk2, L2.ze8, yc8, yc9, zt0, zf7, zb8, hp, zf3, e1, e2, hk, zf6, fC]
theorem wh4 {α : Type} {h : D -> Option (α × D)} {M l : List D} {n : Nat} {d d' : D} {r : α} (hl : l[n]? = some d) (e : h d = some (r, d')) : ze3 h (.lst true (M ++ [.lst true l])) [.ix M.length, .ix n] = some (r, .lst true (M ++ [.lst true (l.set n d')])) := by
  have e2 : (M ++ [D.lst true l])[M.length]? = some (.lst true l) := by simp [za9, za7, zb1, za5, fIf, za4, fB, f2, za1, fC, zb3, zb4, zc0, zd2, zb8, ze3, zf3, za0, za2, zc3, zd3, fKs, za3, dEq, dNe, eqB, dB, dIx, zb9, zb6, D.imm, D.imms, zc1, zc2, fT, zc9, za8, zd6, zd9, zd8, zf7, zq4, zr5, zf6, ze5, zh4, zd7, dLt, dLe, dGt, dGe, fIO, ze2, zi3, zg2, zg3, ze6, ze7, zk2, L2.ze8, yc8, yc9, zt0]
  show (((M ++ [D.lst true l])[M.length]?).bind _) = _
  rw [e2, Option.bind_some]
  show (((l[n]?).bind _).bind _) = _
  rw [hl, Option.bind_some]
  show (((h d).bind _).bind _) = _
  rw [e]
  show some (r, D.lst true ((M ++ [D.lst true l]).set M.length _)) = _
  rw [ze7]
theorem xl1 {p : PSt} {j k n : Nat} {M l xs : List D} {fe : PSt -> Option D} {y : D} (hp : p[j]? = some (some (.lst true (M ++ [.lst true l])))) (hk : ixN l.length (k : Int) = some n) (hl : l[n]? = some (.lst true xs)) (h : fe p = some y) (hz : xs.length < sizeLine) : zc0 (zd2 j (zf7 j (zf7 j zb8 (zf6 (fC (.int 1)))) (fC (.int (k : Int)))) (za0 fe za2) zb6) p = some (.nx, p.set j (some (.lst true (M ++ [.lst true (l.set n (.lst true (xs ++ [y])))])))) := by
  refine yv4 (d := .non) ?_
  unfold zd2
  rw [hp, Option.join_some, Option.bind_some, wc3 hp hk, Option.bind_some, zc8 h rfl, Option.bind_some, wh4 hl (show zb6 [y] (.lst true xs) = _ from if_pos hz)]
  rfl
theorem xv2 {p : PSt} {j k n : Nat} {M l : List D} {fe : PSt -> Option D} {y : D} (hp : p[j]? = some (some (.lst true (M ++ [.lst true l])))) (hk : ixN l.length (k : Int) = some n) (h : fe p = some y) : zq4 j (zf7 j zb8 (zf6 (fC (.int 1)))) (fC (.int (k : Int))) fe p = some (.nx, p.set j (some (.lst true (M ++ [.lst true (l.set n y)])))) := by
  have e1 : ixN (M ++ [D.lst true l]).length (-1) = some M.length := by rw [List.length_append]; exact ze6 _
  have e2 : (M ++ [D.lst true l])[M.length]? = some (.lst true l) := by simp [za9, za7, zb1, za5, fIf, za4, fB, f2, za1, fC, zb3, zb4, zc0, zd2, zb8, ze3, zf3, za0, za2, zc3, zd3, fKs, za3, dEq, dNe, eqB, dB, dIx, zb9, zb6, D.imm, D.imms, zc1, zc2, fT, zc9, za8, zd6, zd9, zd8, zf7, zq4, zr5, zf6, ze5, zh4, zd7, dLt, dLe, dGt, dGe, fIO, ze2, zi3, zg2, zg3, ze6, ze7, zk2, L2.ze8, yc8, yc9, zt0]
  have ep : zf7 j zb8 (zf6 (fC (.int 1))) p = some [.ix M.length] := by simp [za9, za7, zb1, za5, fIf, za4, fB, f2, za1, fC, zb3, zb4, zc0, zd2, zb8, ze3, zf3, za0, za2, zc3, zd3, fKs, za3, dEq, dNe, eqB, dB, dIx, zb9, zb6, D.imm, D.imms, zc1, zc2, fT, zc9, za8, zd6, zd9, zd8, zf7, zq4, zr5, zf6, ze5, zh4, zd7, dLt, dLe, dGt, dGe, fIO, ze2, zi3, zg2, zg3, ze6, ze7, zk2, L2.ze8, yc8, yc9, zt0, zf7, zb8, hp, zf3, e1, zf6, fC]
  unfold zq4
  rw [h, Option.bind_some, hp, Option.join_some, Option.bind_some, ep, Option.bind_some]
  show ((ze3 (zr5 (.int (k : Int)) y) (.lst true (M ++ [.lst true l])) [.ix M.length]).bind _) = _
  have em : ze3 (zr5 (.int (k : Int)) y) (.lst true (M ++ [.lst true l])) [.ix M.length] = some ((), .lst true (M ++ [.lst true (l.set n y)])) := by
    show (((M ++ [D.lst true l])[M.length]?).bind _) = _
    rw [e2, Option.bind_some]
    show (((ixN l.length (k : Int)).bind _).bind _) = _
    rw [hk]
    show some ((), D.lst true ((M ++ [D.lst true l]).set M.length _)) = _
    rw [ze7]
  rw [em]; rfl
theorem wc4 (hw : m % 13 < 4) (hl : (f :: fs).length <= nest) (hz : (f :: fs).length <= 900) : ∃ kd n y9, ifR GM GS GL [some S, x1, x2, some (.int nest), some (.lst true (zg6 (f :: fs))), some (.int i), some (.int m), some (.int (m % 13)), x8, x9]
    = some (.nx, [some S, x1, x2, some (.int nest), some (.lst true (zg6 (⟨kd, n, [], []⟩ :: f :: fs))), some (.int i), some (.int m), some (.int (m % 13)), x8, y9]) /\ (1 <= kd /\ kd <= 3) /\ 0 <= n /\ n <= 12 := by
  have h0 := Int.emod_nonneg m (show (13 : Int) ≠ 0 by decide)
  have d0 := Int.emod_nonneg (m / 13) (show (13 : Int) ≠ 0 by decide)
  have d1 := Int.emod_lt_of_pos (m / 13) (show (0 : Int) < 13 by decide)
  obtain ⟨kd, q1, hk1, hk2⟩ := wn6 m h0 hw
  obtain ⟨n, q2, hn1, hn2⟩ := wt4 (m / 13 % 13) (m / 169) ⟨d0, Int.le_of_lt_add_one d1⟩
  have hz' : (zg6 (f :: fs)).length < sizeLine := by rw [ye3]; exact sz1 (by omega)
  have hl' : ((zg6 (f :: fs)).length : Int) <= (nest : Int) := by rw [ye3]; exact Int.ofNat_le.mpr hl
  refine ⟨kd, n, some (.str (kdS kd)), ?_, ⟨hk1, hk2⟩, hn1, hn2⟩
  have e : zg6 (⟨kd, n, [], []⟩ :: f :: fs) = zg6 (f :: fs) ++ [.lst true [.str (kdS kd), .int n, .lst true [], .lst true []]] := rfl
  rw [e]
  generalize zg6 (f :: fs) = N at hz' hl' |-
  unfold ifR
  refine (zy4 (xv1.trans (by rw [xr0 hw hl']))).trans ((zb2 (zm4 (zh5 (zx0 rfl (Nat.le_of_ble_eq_true rfl)) rfl q1))).trans ?_)
  refine yv4 (d := .non) ?_
  unfold zd2
  rw [zc8 (zx0 (zc8 (ys4 (d := .str (kdS kd)) rfl rfl) (zc8 (zh5 (zx0 (zc8 rfl (zc8 rfl (zc8 rfl (zc8 (zh5 (zh5 rfl rfl ((zg3 _ _).trans (if_pos (by decide)))) rfl ((zg2 _ _).trans (if_pos (by decide)))) rfl)))) (Nat.le_of_ble_eq_true rfl)) (zh5 (zh5 rfl rfl ((zg3 _ _).trans (if_pos (by decide)))) rfl ((zg2 _ _).trans (if_pos (by decide)))) q2) (zc8 (zx0 rfl (Nat.le_of_ble_eq_true rfl)) (zc8 (zx0 rfl (Nat.le_of_ble_eq_true rfl)) rfl)))) (Nat.le_of_ble_eq_true rfl)) rfl]
  show ((zb6 [.lst true [.str (kdS kd), .int n, .lst true [], .lst true []]] (.lst true N)).bind _) = _
  rw [show zb6 [.lst true [.str (kdS kd), .int n, .lst true [], .lst true []]] (.lst true N) = _ from if_pos hz']
  rfl
theorem wc5 {g : Gm} (q : GS [.lst true (zg6 (f :: g :: fs))] = some (.non, [.lst true (zg6 (zx3 g (zq1 f) :: fs))])) (hw : m % 13 = 4) :
    ifR GM GS GL [some S, x1, x2, some (.int nest), some (.lst true (zg6 (f :: g :: fs))), some (.int i), some (.int m), some (.int (m % 13)), x8, x9]
    = some (.nx, [some S, x1, x2, some (.int nest), some (.lst true (zg6 (zx3 g (zq1 f) :: fs))), some (.int i), some (.int m), some (.int (m % 13)), x8, x9]) := by
  have hl : (1 : Int) < ((zg6 (f :: g :: fs)).length : Int) := by rw [ye3]; simp; omega
  unfold ifR
  exact (zq8 (ye2 (xv1.trans (by rw [yy4 (fun z => by omega)])))).trans ((zy4 (wj5.trans (by rw [xr0 hw hl]))).trans (yv4 (ws8 (wn3 rfl wg9) q rfl)))
theorem xr2 (hw : ¬ (m % 13 < 4 /\ (f :: fs).length <= nest)) (hw4 : ¬ (m % 13 = 4 /\ fs ≠ [])) {F1 F2 F3 : PSt -> Option (Fl × PSt)} : fIf (za4 (ze5 (fB (f2 dLt (za1 7) (fC (.int 4)))) (fB (f2 dLe (za3 zb9 (za0 (za1 4) za2)) (za1 3))))) F1 (fIf (za4 (ze5 (fB (f2 dEq (za1 7) (fC (.int 4)))) (fB (f2 dGt (za3 zb9 (za0 (za1 4) za2)) (fC (.int 1)))))) F2 F3) [some S, x1, x2, some (.int nest), some (.lst true (zg6 (f :: fs))), some (.int i), some (.int m), some (.int (m % 13)), x8, x9]
    = F3 [some S, x1, x2, some (.int nest), some (.lst true (zg6 (f :: fs))), some (.int i), some (.int m), some (.int (m % 13)), x8, x9] := by
  have hl : (zg6 (f :: fs)).length = (f :: fs).length := ye3 _
  have hn : ¬ (m % 13 = 4 /\ (1 : Int) < ((f :: fs).length : Int)) := fun z => hw4 ⟨z.1, fun e => by rw [e] at z; exact absurd z.2 (Int.lt_irrefl 1)⟩
  exact (zq8 (ye2 (xv1.trans (by rw [hl, yy4 (fun z => hw ⟨z.1, Int.ofNat_le.mp z.2⟩)])))).trans (zq8 (ye2 (wj5.trans (by rw [hl, yy4 hn]))))
theorem wn7 (hw : ¬ (m % 13 < 4 /\ (f :: fs).length <= nest)) (hw4 : ¬ (m % 13 = 4 /\ fs ≠ [])) (hw7 : m % 13 < 7) (hk : f.kd = 3) (hf : f.full.length < 3) :
    ifR GM GS GL [some S, x1, x2, some (.int nest), some (.lst true (zg6 (f :: fs))), some (.int i), some (.int m), some (.int (m % 13)), some (.str (kdS f.kd)), x9]
    = some (.nx, [some S, x1, x2, some (.int nest), some (.lst true (zg6 ({ f with full := f.full ++ [f.parts], parts := [] } :: fs))), some (.int i), some (.int m), some (.int (m % 13)), some (.str (kdS f.kd)), x9]) := by
  unfold ifR
  refine (xr2 hw hw4).trans ?_
  obtain ⟨kd, n, full, parts⟩ := f
  have hk' : kd = 3 := hk
  subst hk'
  have hz : (zg0 full).length < sizeLine := by rw [zp3]; exact sz1 (by have : full.length < 3 := hf; omega)
  have hf' : ((zg0 full).length : Int) < 3 := by rw [zp3]; exact Int.ofNat_lt.mpr hf
  have er : zg0 (full ++ [parts]) = zg0 full ++ [.tup (zd4 parts)] := by rw [yf7]; rfl
  have b3 : (decide (m % 13 < 7) && (decide (kdS 3 = "either") && decide (((zg0 full).length : Int) < 3))) = true := by rw [decide_eq_true hw7, decide_eq_true hf']; rfl
  have s1 := xl1 (p := [some S, x1, x2, some (.int nest), some (.lst true (zg6 (⟨3, n, full, parts⟩ :: fs))), some (.int i), some (.int m), some (.int (m % 13)), some (.str (kdS 3)), x9]) (j := 4) (k := 2) (n := 2) (M := zg6 fs) (fe := za3 zc1 (za0 (f2 dIx (f2 dIx (za1 4) (zf6 (fC (.int 1)))) (fC (.int 3))) za2)) rfl rfl rfl (zf8 (zc8 (zh5 (xr1 (M := zg6 fs) rfl) rfl (wy6 _ _ _ _)) rfl) (if_pos (zn6 parts))) hz
  rw [<- er] at s1
  have s2 := xv2 (p := [some S, x1, x2, some (.int nest), some (.lst true (zg6 fs ++ [.lst true [.str (kdS 3), .int n, .lst true (zg0 (full ++ [parts])), .lst true (zd4 parts)]])), some (.int i), some (.int m), some (.int (m % 13)), some (.str (kdS 3)), x9]) (j := 4) (k := 3) (n := 3) (M := zg6 fs) (fe := zc3 za2) (y := .lst true []) rfl rfl (zx0 rfl (Nat.le_of_ble_eq_true rfl))
  exact (zy4 (wj6.trans (congrArg some b3))).trans ((zb2 s1).trans s2)
theorem wc6 {l : Leaf} {m2 : Int} (hm2 : GM [S, .int i, .int 32] = some (.int m2)) (hL : GL [.int m2] = some (zk4 l)) (hz : f.parts.length <= 900)
    (hw : ¬ (m % 13 < 4 /\ (f :: fs).length <= nest)) (hw4 : ¬ (m % 13 = 4 /\ fs ≠ [])) (h3 : ¬ (m % 13 < 7 /\ f.kd = 3 /\ f.full.length < 3)) (hkd : f.kd <= 3) :
    ifR GM GS GL [some S, x1, x2, some (.int nest), some (.lst true (zg6 (f :: fs))), some (.int i), some (.int m), some (.int (m % 13)), some (.str (kdS f.kd)), x9]
    = some (.nx, [some S, x1, x2, some (.int nest), some (.lst true (zg6 (zx3 f (.leaf l) :: fs))), some (.int i), some (.int m), some (.int (m % 13)), some (.str (kdS f.kd)), x9]) := by
  have hz' : (zd4 f.parts).length < sizeLine := by rw [ye0]; exact sz1 (by omega)
  have ep : zd4 (f.parts ++ [.leaf l]) = zd4 f.parts ++ [zk4 l] := by rw [yi3]; rfl
  have b3 : (decide (m % 13 < 7) && (decide (kdS f.kd = "either") && decide (((zg0 f.full).length : Int) < 3))) = false := by
    by_cases a1 : m % 13 < 7
    . rw [yy4, Bool.and_false]
      intro ⟨z1, z2⟩
      rw [zp3] at z2
      have hk : f.kd = 0 \/ f.kd = 1 \/ f.kd = 2 \/ f.kd = 3 := by omega
      rcases hk with e | e | e | e
      . rw [e] at z1; exact absurd z1 (by decide)
      . rw [e] at z1; exact absurd z1 (by decide)
      . rw [e] at z1; exact absurd z1 (by decide)
      . exact h3 ⟨a1, e, Int.ofNat_lt.mp z2⟩
    . rw [decide_eq_false a1, Bool.false_and]
  unfold ifR
  refine (xr2 hw hw4).trans ((zq8 (ye2 (wj6.trans (by rw [b3])))).trans ?_)
  have e : zg6 (zx3 f (.leaf l) :: fs) = zg6 fs ++ [.lst true [.str (kdS f.kd), .int f.n, .lst true (zg0 f.full), .lst true (zd4 f.parts ++ [zk4 l])]] := by rw [<- ep]; rfl
  rw [e]
  have s1 := xl1 (p := [some S, x1, x2, some (.int nest), some (.lst true (zg6 (f :: fs))), some (.int i), some (.int m), some (.int (m % 13)), some (.str (kdS f.kd)), x9]) (j := 4) (k := 3) (n := 3) (M := zg6 fs) (fe := za3 GL (za0 (za3 GM (za0 (za1 0) (za0 (za1 5) (za0 (fC (.int 32)) za2)))) za2)) rfl rfl rfl (zf8 (zc8 (zf8 (zc8 rfl (zc8 rfl (zc8 rfl rfl))) hm2) rfl) hL) hz'
  exact s1
end
end My
namespace My
open PySem PySem.Spec PyProof.Rows L2 L3
section
variable {GM : List D -> Option D} {GS : List D -> Option (D × List D)} {GL : List D -> Option D} {S : D} {x1 x2 x6 x7 x8 x9 : Option D} {nest k : Nat} {fs : List Gm} {i : Int}
theorem xv3 {f : Gm} {fs : List Gm} (h : xn4 (f :: fs)) : f.kd <= 3 := by
  cases fs with
  | nil => have : f.kd = 0 := h; omega
  | cons g fs => exact h.1.2
theorem wn8 (hS : ∀ (f g : Gm) (fs : List Gm), (1 <= f.kd /\ f.kd <= 3) -> (f.kd ≠ 3 -> f.full = []) -> f.full.length <= 3 -> g.parts.length <= 900 -> GS [.lst true (zg6 (f :: g :: fs))] = some (.non, [.lst true (zg6 (zx3 g (zq1 f) :: fs))]))
    (hL : ∀ m, 0 <= m -> ∃ l, GL [.int m] = some (zk4 l) /\ zv1 l) (hM : ∀ s : Int, s = 31 \/ s = 32 -> ∃ m, GM [S, .int i, .int s] = some (.int m) /\ 0 <= m) (h : GInv nest k fs) (hk : 4 * k + 4 <= 800) (hn : nest <= 100) :
    ∃ fs' y6 y7 y8 y9, yo7 GM GS GL [some S, x1, x2, some (.int nest), some (.lst true (zg6 fs)), some (.int i), x6, x7, x8, x9] = some (.nx, [some S, x1, x2, some (.int nest), some (.lst true (zg6 fs')), some (.int i), y6, y7, y8, y9]) /\ GInv nest (k + 1) fs' := by
  obtain ⟨m, hm, hm0⟩ := hM 31 (.inl rfl)
  obtain ⟨m2, hm2, hm20⟩ := hM 32 (.inr rfl)
  have hln := h.len
  cases fs with
  | nil => exact h.kinds.elim
  | cons f fs =>
    have hd := wc2 (GS := GS) (GL := GL) (x1 := x1) (x2 := x2) (x6 := x6) (x7 := x7) (x8 := x8) (x9 := x9) (nest := nest) (f := f) (fs := fs) hm
    by_cases c1 : m % 13 < 4 /\ (f :: fs).length <= nest
    . obtain ⟨kd, n, y9, q, h1, h2⟩ := wc4 (GM := GM) (GS := GS) (GL := GL) (S := S) (x1 := x1) (x2 := x2) (x8 := some (.str (kdS f.kd))) (x9 := x9) (i := i) c1.1 c1.2 (by omega)
      exact ⟨_, _, _, _, y9, hd.trans q, h.opener h1 h2 c1.2⟩
    . by_cases c2 : m % 13 = 4 /\ fs ≠ []
      . cases fs with
        | nil => exact absurd rfl c2.2
        | cons g fs =>
          have hf := h.each f List.mem_cons_self
          have hg := h.parts (f := g) (List.mem_cons_of_mem _ List.mem_cons_self)
          have q := wc5 (GM := GM) (GL := GL) (S := S) (x1 := x1) (x2 := x2) (x8 := some (.str (kdS f.kd))) (x9 := x9) (nest := nest) (i := i) (hS f g fs h.kinds.1 hf.2.2.2.1 hf.2.2.1 (by omega)) c2.1
          exact ⟨_, _, _, _, _, hd.trans q, h.shut.more (by omega)⟩
      . by_cases c3 : m % 13 < 7 /\ f.kd = 3 /\ f.full.length < 3
        . have q := wn7 (GM := GM) (GS := GS) (GL := GL) (S := S) (x1 := x1) (x2 := x2) (x9 := x9) (i := i) c1 c2 c3.1 c3.2.1 c3.2.2
          exact ⟨_, _, _, _, _, hd.trans q, h.orr c3.2.2 c3.2.1⟩
        . obtain ⟨l, hl, hlk⟩ := hL m2 hm20
          have q := wc6 (GM := GM) (GS := GS) (GL := GL) (S := S) (x1 := x1) (x2 := x2) (x9 := x9) (i := i) hm2 hl (by have := h.parts (f := f) List.mem_cons_self; omega) c1 c2 c3 (xv3 h.kinds)
          exact ⟨_, _, _, _, _, hd.trans q, h.leaf hlk⟩
theorem xr3 (hS : ∀ (f g : Gm) (fs : List Gm), (1 <= f.kd /\ f.kd <= 3) -> (f.kd ≠ 3 -> f.full = []) -> f.full.length <= 3 -> g.parts.length <= 900 -> GS [.lst true (zg6 (f :: g :: fs))] = some (.non, [.lst true (zg6 (zx3 g (zq1 f) :: fs))]))
    (hL : ∀ m, 0 <= m -> ∃ l, GL [.int m] = some (zk4 l) /\ zv1 l) (hn : nest <= 100) : ∀ (l : List Int) (fs : List Gm) (k : Nat) (x5 x6 x7 x8 x9 : Option D), (∀ j ∈ l, ∀ s : Int, s = 31 \/ s = 32 -> ∃ m, GM [S, .int j, .int s] = some (.int m) /\ 0 <= m) -> GInv nest k fs -> 4 * (k + l.length) + 4 <= 800 ->
    ∃ fs' y5 y6 y7 y8 y9, zm2 5 (yo7 GM GS GL) (l.map .int) [some S, x1, x2, some (.int nest), some (.lst true (zg6 fs)), x5, x6, x7, x8, x9] = some (.nx, [some S, x1, x2, some (.int nest), some (.lst true (zg6 fs')), y5, y6, y7, y8, y9]) /\ GInv nest (k + l.length) fs'
  | [], fs, k, x5, x6, x7, x8, x9, _, h, _ => ⟨fs, x5, x6, x7, x8, x9, by simp [za9, za7, zb1, za5, fIf, za4, fB, f2, za1, fC, zb3, zb4, zc0, za0, za2, zc3, za3, dB, dIx, zb9, dGt, D.imm, D.imms, zc1, zc2, fT, zc9, zd6, zd9, zd8, fIO, ze2, zi3, zt0, zm2], h⟩
  | j :: l, fs, k, x5, x6, x7, x8, x9, hM, h, hk => by
    rw [List.length_cons] at hk
    obtain ⟨fs1, y6, y7, y8, y9, q, h1⟩ := wn8 (x1 := x1) (x2 := x2) (x6 := x6) (x7 := x7) (x8 := x8) (x9 := x9) hS hL (hM j List.mem_cons_self) h (by omega) hn
    obtain ⟨fs2, z5, z6, z7, z8, z9, q2, h2⟩ := xr3 hS hL hn l fs1 (k + 1) (some (.int j)) y6 y7 y8 y9 (fun i hi => hM i (List.mem_cons_of_mem _ hi)) h1 (by omega)
    refine ⟨fs2, z5, z6, z7, z8, z9, ?_, (show k + 1 + l.length = k + (j :: l).length by rw [List.length_cons]; omega) ▸ h2⟩
    rw [<- q2]
    show (yo7 GM GS GL [some S, x1, x2, some (.int nest), some (.lst true (zg6 fs)), some (.int j), x6, x7, x8, x9]).bind _ = _
    rw [q]; rfl
noncomputable def yz7 (GS : List D -> Option (D × List D)) (n : Nat) : PSt -> Option (Fl × PSt) := zw7 (za4 (fB (f2 dGt (za3 zb9 (za0 (za1 4) za2)) (fC (.int 1))))) (zc0 (fIO [.io 4] GS)) n
theorem xr4 {x0 x3 x5 : Option D} (hS : ∀ (f g : Gm) (fs : List Gm), (1 <= f.kd /\ f.kd <= 3) -> (f.kd ≠ 3 -> f.full = []) -> f.full.length <= 3 -> g.parts.length <= 900 -> GS [.lst true (zg6 (f :: g :: fs))] = some (.non, [.lst true (zg6 (zx3 g (zq1 f) :: fs))])) (hk : 4 * k + 4 <= 800) :
    ∀ (n : Nat) (fs : List Gm), fs.length <= n -> GInv nest k fs -> ∃ f, yz7 GS n [x0, x1, x2, x3, some (.lst true (zg6 fs)), x5, x6, x7, x8, x9] = some (.nx, [x0, x1, x2, x3, some (.lst true (zg6 [f])), x5, x6, x7, x8, x9]) /\ GInv nest k [f]
  | 0, [], _, h => h.kinds.elim
  | 0, _ :: _, hl, _ => by simp [za9, za7, zb1, za5, fIf, za4, fB, f2, za1, fC, zb3, zb4, zc0, za0, za2, zc3, za3, dB, dIx, zb9, dGt, D.imm, D.imms, zc1, zc2, fT, zc9, zd6, zd9, zd8, fIO, ze2, zi3, zt0] at hl
  | n + 1, [], _, h => h.kinds.elim
  | n + 1, [f], _, h => by
    refine ⟨f, ?_, h⟩
    unfold yz7
    rw [zw7]
    have hl : (zg6 [f]).length = 1 := rfl
    generalize zg6 [f] = N at hl |-
    simp [za9, za7, zb1, za5, fIf, za4, fB, f2, za1, fC, zb3, zb4, zc0, za0, za2, zc3, za3, dB, dIx, zb9, dGt, D.imm, D.imms, zc1, zc2, fT, zc9, zd6, zd9, zd8, fIO, ze2, zi3, zt0, hl]
  | n + 1, f :: g :: fs, hl, h => by
    have hf := h.each f List.mem_cons_self
    have hg := h.parts (f := g) (List.mem_cons_of_mem _ List.mem_cons_self)
    have q := hS f g fs h.kinds.1 hf.2.2.2.1 hf.2.2.1 (by omega)
    obtain ⟨f', w, h'⟩ := xr4 (x0 := x0) (x3 := x3) (x5 := x5) hS hk n (zx3 g (zq1 f) :: fs) (by simp [za9, za7, zb1, za5, fIf, za4, fB, f2, za1, fC, zb3, zb4, zc0, za0, za2, zc3, za3, dB, dIx, zb9, dGt, D.imm, D.imms, zc1, zc2, fT, zc9, zd6, zd9, zd8, fIO, ze2, zi3, zt0] at hl |-; omega) h.shut
    refine ⟨f', ?_, h'⟩
    rw [<- w]
    have hl2 : (zg6 (f :: g :: fs)).length = fs.length + 1 + 1 := by rw [ye3]; rfl
    have hpos : (1 : Int) < ((fs.length : Int) + 1 + 1) := by omega
    show zw7 _ _ (n + 1) _ = _
    rw [zw7]
    generalize zg6 (f :: g :: fs) = N at q hl2 |-
    generalize zg6 (zx3 g (zq1 f) :: fs) = M at q |-
    simp [za9, za7, zb1, za5, fIf, za4, fB, f2, za1, fC, zb3, zb4, zc0, za0, za2, zc3, za3, dB, dIx, zb9, dGt, D.imm, D.imms, zc1, zc2, fT, zc9, zd6, zd9, zd8, fIO, ze2, zi3, zt0, hl2, hpos, q, yz7]
noncomputable def kb6 (n : Nat) (GM : List D -> Option D) (GS : List D -> Option (D × List D)) (GL : List D -> Option D) : PSt -> Option (Fl × PSt) :=
  za9 (zb1 4 (za5 (zc3 (za0 (zc3 (za0 (fC (.str "top")) (za0 (fC (.int 0)) (za0 (zc3 za2) (za0 (zc3 za2) za2))))) za2)))) (za9 (zl6 5 (ys9 (za0 (za1 1) (za0 (f2 zc2 (za1 1) (za1 2)) za2))) (yo7 GM GS GL)) (za9 (yz7 GS n) (zb4 (za5 (za3 zc1 (za0 (f2 dIx (f2 dIx (za1 4) (fC (.int 0))) (fC (.int 3))) za2))))))
structure RowOk (nest w : Nat) (r : List Pc) : Prop where
  ok : okR r
  dep : zj3 r <= nest
  len : (zc6 r).length <= w
theorem ww7 {a many n : Nat} (hS : ∀ (f g : Gm) (fs : List Gm), (1 <= f.kd /\ f.kd <= 3) -> (f.kd ≠ 3 -> f.full = []) -> f.full.length <= 3 -> g.parts.length <= 900 -> GS [.lst true (zg6 (f :: g :: fs))] = some (.non, [.lst true (zg6 (zx3 g (zq1 f) :: fs))]))
    (hL : ∀ m, 0 <= m -> ∃ l, GL [.int m] = some (zk4 l) /\ zv1 l) (hM : ∀ j s : Int, (a : Int) <= j /\ j < a + many -> s = 31 \/ s = 32 -> ∃ m, GM [S, .int j, .int s] = some (.int m) /\ 0 <= m) (hn : nest <= 100) (hmany : many <= 90) (ha : a <= 1000) (hnn : nest < n) :
    ∃ r, gP 4 6 (kb6 n GM GS GL) [S, .int a, .int many, .int nest] = some (.tup (zd4 r)) /\ RowOk nest (4 * many) r := by
  have i0 : GInv nest 0 [⟨0, 0, [], []⟩] := ⟨by simp [za9, za7, zb1, za5, fIf, za4, fB, f2, za1, fC, zb3, zb4, zc0, za0, za2, zc3, za3, dB, dIx, zb9, dGt, D.imm, D.imms, zc1, zc2, fT, zc9, zd6, zd9, zd8, fIO, ze2, zi3, zt0], by decide, fun f hf => by rw [List.mem_singleton.mp hf]; exact ⟨trivial, trivial, Nat.zero_le _, fun _ => rfl, Int.le_refl _, by decide⟩, rfl, ⟨Nat.zero_le _, Nat.zero_le _, trivial⟩⟩
  obtain ⟨fs1, y5, y6, y7, y8, y9, q, h1⟩ := xr3 (GM := GM) (GS := GS) (GL := GL) (S := S) (x1 := some (.int a)) (x2 := some (.int many)) hS hL hn ((List.range many).map fun (k : Nat) => (a : Int) + (k : Int)) [⟨0, 0, [], []⟩] 0 none none none none none
    (fun j hj s hs => by obtain ⟨k, hk, rfl⟩ := List.mem_map.mp hj; have := List.mem_range.mp hk; exact hM _ s (by omega) hs) i0 (by simp; omega)
  rw [<- ws7] at q
  rw [List.length_map, List.length_range, Nat.zero_add] at h1
  have hln := h1.len
  obtain ⟨f, w, h2⟩ := xr4 (GS := GS) (x0 := some S) (x1 := some (.int a)) (x2 := some (.int many)) (x3 := some (.int nest)) (x5 := y5) (x6 := y6) (x7 := y7) (x8 := y8) (x9 := y9) hS (by omega) n fs1 (by omega) h1
  have hf := h2.each f List.mem_cons_self
  have hd := h2.deep.1
  have hwt : wF f + 0 <= 4 * many + 4 := h2.wt
  refine ⟨f.parts, ?_, hf.2.1, by simpa using hd, by unfold wF at hwt; omega⟩
  have e : ((a : Int) + (many : Int) - (a : Int)).toNat = many := by omega
  have s0 : zb1 4 (za5 (zc3 (za0 (zc3 (za0 (fC (.str "top")) (za0 (fC (.int 0)) (za0 (zc3 za2) (za0 (zc3 za2) za2))))) za2))) [some S, some (.int a), some (.int many), some (.int nest), none, none, none, none, none, none] = some (.nx, [some S, some (.int a), some (.int many), some (.int nest), some (.lst true (zg6 [⟨0, 0, [], []⟩])), none, none, none, none, none]) := zm4 rfl
  have s1 : zl6 5 (ys9 (za0 (za1 1) (za0 (f2 zc2 (za1 1) (za1 2)) za2))) (yo7 GM GS GL) [some S, some (.int a), some (.int many), some (.int nest), some (.lst true (zg6 [⟨0, 0, [], []⟩])), none, none, none, none, none] = some (.nx, [some S, some (.int a), some (.int many), some (.int nest), some (.lst true (zg6 fs1)), y5, y6, y7, y8, y9]) := by
    have e1 : za0 (za1 1) (za0 (f2 zc2 (za1 1) (za1 2)) za2) [some S, some (.int a), some (.int many), some (.int nest), some (.lst true (zg6 [⟨0, 0, [], []⟩])), none, none, none, none, none] = some [.int a, .int ((a : Int) + (many : Int))] := rfl
    unfold zl6 ys9
    rw [e1, Option.bind_some, wn2 (by omega) (by omega) (by omega) (by omega), e]
    exact q
  have s3 : za3 zc1 (za0 (f2 dIx (f2 dIx (za1 4) (fC (.int 0))) (fC (.int 3))) za2) [some S, some (.int a), some (.int many), some (.int nest), some (.lst true (zg6 [f])), y5, y6, y7, y8, y9] = some (.tup (zd4 f.parts)) := by
    show za3 zc1 (za0 (f2 dIx (f2 dIx (za1 4) (fC (.int 0))) (fC (.int 3))) za2) [some S, some (.int a), some (.int many), some (.int nest), some (.lst true [.lst true [.str (kdS f.kd), .int f.n, .lst true (zg0 f.full), .lst true (zd4 f.parts)]]), y5, y6, y7, y8, y9] = _
    simp [za9, za7, zb1, za5, fIf, za4, fB, f2, za1, fC, zb3, zb4, zc0, za0, za2, zc3, za3, dB, dIx, zb9, dGt, D.imm, D.imms, zc1, zc2, fT, zc9, zd6, zd9, zd8, fIO, ze2, zi3, zt0, zn6]
  have z := (zb2 s0).trans ((zb2 s1).trans ((zb2 w).trans (zn7 s3)))
  exact zo9 rfl z
end
noncomputable abbrev wi7 (GM GL : List D -> Option D) : List D -> Option D := gP 4 6 (xn2 GM yz6 GL)
theorem wt5 {GM GL : List D -> Option D} {S : D} {nest a many : Nat} (hL : ∀ m, 0 <= m -> ∃ l, GL [.int m] = some (zk4 l) /\ zv1 l) (hM : ∀ j s : Int, (a : Int) <= j /\ j < a + many -> s = 31 \/ s = 32 -> ∃ m, GM [S, .int j, .int s] = some (.int m) /\ 0 <= m) (hn : nest <= 100) (hmany : many <= 90) (ha : a <= 1000) :
    ∃ r, wi7 GM GL [S, .int a, .int many, .int nest] = some (.tup (zd4 r)) /\ RowOk nest (4 * many) r := by
  obtain ⟨r, h1, h2⟩ := ww7 (n := 400) (GS := yz6) (fun f g fs h1 h2 h3 h4 => wh3 h1 h2 h3 h4) hL hM hn hmany ha (Nat.lt_of_le_of_lt hn (by decide))
  exact ⟨r, h1, h2⟩
end My
namespace My
open PySem PySem.Spec PyProof.Rows L2 L3
noncomputable def iS (i : Int) : Str := (toString i : String)
theorem ym0 {i : Int} (h0 : 0 <= i) (h1 : i <= 40) : (iS i).length <= 2 := by
  have h : ∀ n : Fin 41, (iS (n.val : Int)).length <= 2 := by decide +kernel
  have := h ⟨i.toNat, by omega⟩
  rwa [show ((i.toNat : Nat) : Int) = i by omega] at this
noncomputable def zj5 : Tk -> Str
  | .leaf (.word x) => ("'" : Str) ++ x
  | .leaf (.gap x) => if x = "" then "." else "_"
  | .leaf (.stop c) => ("\x40" : Str) ++ iS c
  | .leaf .fin => "/"
  | .opn => "["
  | .cls => "]"
  | .hng n => (">" : Str) ++ iS n
  | .bck => "<"
  | .eit => "{"
  | .orr => "|"
  | .don => "}"
noncomputable def zd1 (ts : List Tk) : List D := zu7 (ts.map zj5)
theorem zw2 (a b : List Tk) : zd1 (a ++ b) = zd1 a ++ zd1 b := by unfold zd1; rw [List.map_append, wb7]
theorem zq0 (a : List Tk) : (zd1 a).length = a.length := by unfold zd1; rw [wb8, List.length_map]
theorem zv6 (a : List Tk) : D.imms (zd1 a) = true := xk4 _
theorem yf3 (t : Tk) (a : List Tk) : zd1 (t :: a) = .str (zj5 t) :: zd1 a := rfl
theorem yv8 {t : Tk} (h : yb5 t) : (zj5 t).length <= 13 := by
  cases t with
  | leaf l =>
    cases l with
    | word x => have h' : yf9 x := h; show (("'" : Str) ++ x).length <= 13; rw [zj1]; have := h'.2.1; show 1 + _ <= 13; omega
    | gap x => show (if x = "" then (".": Str) else "_").length <= 13; split <;> decide +kernel
    | stop c => have h' : 0 <= c /\ c <= 40 := h; show (("\x40" : Str) ++ iS c).length <= 13; rw [zj1]; have := ym0 h'.1 h'.2; show 1 + _ <= 13; omega
    | fin => decide +kernel
  | hng n => have h' : 0 <= n /\ n <= 12 := h; show ((">" : Str) ++ iS n).length <= 13; rw [zj1]; have := ym0 h'.1 (by omega); show 1 + _ <= 13; omega
  | _ => decide +kernel
mutual
theorem wt6 : ∀ p : Pc, okP p -> ∀ t ∈ zh1 p, yb5 t
  | .leaf l, h, t, ht => by
    have e : t = .leaf l := by simpa [zh1] using ht
    subst e; exact h
  | .group r, h, t, ht => by
    simp only [zh1, List.mem_cons, List.mem_append, List.not_mem_nil, or_false] at ht
    rcases ht with rfl | ht | rfl
    . trivial
    . exact yi6 r h t ht
    . trivial
  | .hang n r, h, t, ht => by
    simp only [zh1, List.mem_cons, List.mem_append, List.not_mem_nil, or_false] at ht
    rcases ht with rfl | ht | rfl
    . exact h.1
    . exact yi6 r h.2 t ht
    . trivial
  | .either rs, h, t, ht => by
    simp only [zh1, List.mem_cons, List.mem_append, List.not_mem_nil, or_false] at ht
    rcases ht with rfl | ht | rfl
    . trivial
    . exact wc7 rs h.2 t ht
    . trivial
theorem yi6 : ∀ r : List Pc, okR r -> ∀ t ∈ zc6 r, yb5 t
  | [], _, t, ht => by simp [zc6] at ht
  | p :: r, h, t, ht => by
    simp only [zc6, List.mem_append] at ht
    exact ht.elim (wt6 p h.1 t) (yi6 r h.2 t)
theorem wc7 : ∀ rs : List (List Pc), zz3 rs -> ∀ t ∈ zr0 rs, yb5 t
  | [], _, t, ht => by simp [zr0] at ht
  | r :: rs, h, t, ht => by
    simp only [zr0, List.mem_append] at ht
    exact ht.elim (yi6 r h.1 t) (xe4 rs h.2 t)
theorem xe4 : ∀ rs : List (List Pc), zz3 rs -> ∀ t ∈ ze4 rs, yb5 t
  | [], _, t, ht => by simp [ze4] at ht
  | r :: rs, h, t, ht => by
    simp only [ze4, List.mem_cons, List.mem_append] at ht
    rcases ht with rfl | ht | ht
    . trivial
    . exact yi6 r h.1 t ht
    . exact xe4 rs h.2 t ht
end
local macro_rules
 | `(tactic| simp! [$as,*]) => `(tactic| simp [za9, za7, zb1, za5, fIf, za4, fB, f2, za1, fC, zb3, zb4, zc0, zd2, zb8, ze3, zf3, za0, za2, zc3, zd3, fKs, za3, dEq, dNe, eqB, dB, dIx, zb9, zb6, D.imm, D.imms, zc1, zc2, fT, zc9, za8, zd6, zd9, zd8, dGt, zm1, zl8, $as,*])
noncomputable def yt3 (G : List D -> Option D) : PSt -> Option (Fl × PSt) := (zb1 1 (za5 (f2 zc2 (f2 zc2 (za1 1) (zc3 (za0 (f2 dIx (zc3 (za0 (fC (.str "{")) (za0 (fC (.str "|")) za2))) (za3 zm1 (za0 (f2 dGt (za1 3) (fC (.int 0))) za2))) za2))) (za3 G (za0 (f2 dIx (f2 dIx (za1 2) (fC (.int 1))) (za1 3)) za2)))))
noncomputable def zx8 (G : List D -> Option D) : PSt -> Option (Fl × PSt) :=
   (za9 (fIf (za4 (fB (f2 dEq (f2 dIx (za1 2) (fC (.int 0))) (fC (.str "word")))))
   (zc0 (zd2 1 zb8 (za0 (f2 zc2 (fC (.str "'")) (f2 dIx (za1 2) (fC (.int 1)))) za2) zb6))
   za7)
  (za9 (fIf (za4 (fB (f2 dEq (f2 dIx (za1 2) (fC (.int 0))) (fC (.str "gap")))))
   (zc0 (zd2 1 zb8 (za0 (f2 dIx (zc3 (za0 (fC (.str "_")) (za0 (fC (.str ".")) za2))) (za3 zm1 (za0 (f2 dEq (f2 dIx (za1 2) (fC (.int 1))) (fC (.str ""))) za2))) za2) zb6))
   za7)
  (za9 (fIf (za4 (fB (f2 dEq (f2 dIx (za1 2) (fC (.int 0))) (fC (.str "end")))))
   (zc0 (zd2 1 zb8 (za0 (fC (.str "/")) za2) zb6))
   za7)
  (za9 (fIf (za4 (fB (f2 dEq (f2 dIx (za1 2) (fC (.int 0))) (fC (.str "stop")))))
   (zc0 (zd2 1 zb8 (za0 (f2 zc2 (fC (.str "\x40")) (za3 zl8 (za0 (f2 dIx (za1 2) (fC (.int 1))) za2))) za2) zb6))
   za7)
  (za9 (fIf (za4 (fB (f2 dEq (f2 dIx (za1 2) (fC (.int 0))) (fC (.str "group")))))
   (zb1 1 (za5 (f2 zc2 (f2 zc2 (f2 zc2 (za1 1) (zc3 (za0 (fC (.str "[")) za2))) (za3 G (za0 (f2 dIx (za1 2) (fC (.int 1))) za2))) (zc3 (za0 (fC (.str "]")) za2)))))
   za7)
  (za9 (fIf (za4 (fB (f2 dEq (f2 dIx (za1 2) (fC (.int 0))) (fC (.str "hang")))))
   (zb1 1 (za5 (f2 zc2 (f2 zc2 (f2 zc2 (za1 1) (zc3 (za0 (f2 zc2 (fC (.str ">")) (za3 zl8 (za0 (f2 dIx (za1 2) (fC (.int 1))) za2))) za2))) (za3 G (za0 (f2 dIx (za1 2) (fC (.int 2))) za2))) (zc3 (za0 (fC (.str "<")) za2)))))
   za7)
  (fIf (za4 (fB (f2 dEq (f2 dIx (za1 2) (fC (.int 0))) (fC (.str "either")))))
   (za9 (zl6 3 (zk9 (za0 (za3 zb9 (za0 (f2 dIx (za1 2) (fC (.int 1))) za2)) za2)) (yt3 G))
  (zc0 (zd2 1 zb8 (za0 (fC (.str "}")) za2) zb6)))
   za7)))))))
section
variable {G : List D -> Option D} {x0 x3 : Option D} {acc : List Tk} {F : PSt -> Option (Fl × PSt)}
theorem wc8 {i : Int} (h0 : 0 <= i) (h1 : i <= 40) : i.natAbs.log2 < 1920 := by
  have h2 : i.natAbs < 2 ^ 6 := by omega
  have : i.natAbs.log2 < 6 := by
    by_cases z : i.natAbs = 0
    . rw [z]; decide
    . exact (Nat.log2_lt z).mpr h2
  omega
theorem zi8 {y : Option D} {p : D} {k w : String} (hp : dIx p (.int 0) = some (.str k)) (h : k ≠ w) : fIf (za4 (fB (f2 dEq (f2 dIx (za1 2) (fC (.int 0))) (fC (.str w))))) F za7 [x0, y, some p, x3] = some (.nx, [x0, y, some p, x3]) := by
  refine (zq8 (p' := [x0, y, some p, x3]) ?_).trans rfl
  have e : f2 dEq (f2 dIx (za1 2) (fC (.int 0))) (fC (.str w)) [x0, y, some p, x3] = some (.bl false) := zh5 (x := .str k) (y := .str w) (zh5 rfl rfl hp) rfl (by simp! [h])
  unfold za4 fB
  rw [e]; rfl
theorem yi7 {y : Option D} {p : D} {k : String} (hp : dIx p (.int 0) = some (.str k)) : fIf (za4 (fB (f2 dEq (f2 dIx (za1 2) (fC (.int 0))) (fC (.str k))))) F za7 [x0, y, some p, x3] = F [x0, y, some p, x3] := by
  refine zz8 (p' := [x0, y, some p, x3]) ?_
  have e : f2 dEq (f2 dIx (za1 2) (fC (.int 0))) (fC (.str k)) [x0, y, some p, x3] = some (.bl true) := zh5 (x := .str k) (y := .str k) (zh5 rfl rfl hp) rfl (by simp! [eq_self])
  unfold za4 fB
  rw [e]; rfl
theorem yy6 {f : PSt -> Option D} {p : D} {d : D} {zs : List D} (hf : f [x0, some (.lst true zs), some p, x3] = some d) (hz : zs.length < sizeLine) : zc0 (zd2 1 zb8 (za0 f za2) zb6) [x0, some (.lst true zs), some p, x3] = some (.nx, [x0, some (.lst true (zs ++ [d])), some p, x3]) := by
  simp! [hf, hz]
theorem yy7 (k : String) (d : D) (l : List D) : dIx (.tup (.str k :: d :: l)) (.int 1) = some d := by simp! [eq_self]
theorem yi8 (k : String) (l : List D) : dIx (.tup (.str k :: l)) (.int 0) = some (.str k) := by simp! [eq_self]
theorem wt7 (k : String) (c d : D) (l : List D) : dIx (.tup (.str k :: c :: d :: l)) (.int 2) = some d := by simp! [eq_self]
theorem xc0 {i : Int} (h0 : 0 <= i) (h1 : i <= 40) : zl8 [.int i] = some (.str (iS i)) := by
  rw [zl8, if_pos (wc8 h0 h1)]; rfl
theorem xl2 {a b : Str} (h : a.length + b.length <= 1000) : zc2 (.str a) (.str b) = some (.str (a ++ b)) := by
  rw [zc2]; exact if_pos (sz h)
theorem wc9 (l : Leaf) (hl : zv1 l) (hz : acc.length <= 900) : zx8 G [x0, some (.lst true (zd1 acc)), some (zk4 l), x3] = some (.nx, [x0, some (.lst true (zd1 (acc ++ [.leaf l]))), some (zk4 l), x3]) := by
  have h1 : (zd1 acc).length < sizeLine := by rw [zq0]; exact sz1 (by omega)
  have e : zd1 (acc ++ [Tk.leaf l]) = zd1 acc ++ [.str (zj5 (.leaf l))] := by rw [zw2]; rfl
  rw [e]
  unfold zx8
  cases l with
  | word x =>
    have h' : yf9 x := hl
    have hp := yi8 "word" [.str x]
    refine (zb2 ((yi7 hp).trans (yy6 (d := .str (("'" : Str) ++ x)) (zh5 rfl (zh5 rfl rfl (yy7 "word" _ _)) (xl2 (by have := h'.2.1; show 1 + _ <= 1000; omega))) h1))).trans ?_
    exact (zb2 (zi8 hp (by decide))).trans ((zb2 (zi8 hp (by decide))).trans ((zb2 (zi8 hp (by decide))).trans ((zb2 (zi8 hp (by decide))).trans ((zb2 (zi8 hp (by decide))).trans (zi8 hp (by decide))))))
  | gap x =>
    have hp := yi8 "gap" [.str x]
    have s : f2 dIx (zc3 (za0 (fC (.str "_")) (za0 (fC (.str ".")) za2))) (za3 zm1 (za0 (f2 dEq (f2 dIx (za1 2) (fC (.int 1))) (fC (.str ""))) za2)) [x0, some (.lst true (zd1 acc)), some (.tup [.str "gap", .str x]), x3] = some (.str (zj5 (.leaf (.gap x)))) := by
      by_cases c : x = ""
      . subst c; simp! [zj5]
      . have c' : ¬ (x = Str.ofString "") := c
        simp! [zj5, c']
    refine (zb2 (zi8 hp (by decide))).trans ((zb2 ((yi7 hp).trans (yy6 s h1))).trans ?_)
    exact (zb2 (zi8 hp (by decide))).trans ((zb2 (zi8 hp (by decide))).trans ((zb2 (zi8 hp (by decide))).trans ((zb2 (zi8 hp (by decide))).trans (zi8 hp (by decide)))))
  | stop c =>
    have h' : 0 <= c /\ c <= 40 := hl
    have hp := yi8 "stop" [.int c]
    refine (zb2 (zi8 hp (by decide))).trans ((zb2 (zi8 hp (by decide))).trans ((zb2 (zi8 hp (by decide))).trans ?_))
    refine (zb2 ((yi7 hp).trans (yy6 (d := .str (("\x40" : Str) ++ iS c)) (zh5 rfl (zf8 (ds := [.int c]) (zc8 (zh5 rfl rfl (yy7 "stop" _ _)) rfl) (xc0 h'.1 h'.2)) (xl2 (by have := ym0 h'.1 h'.2; show 1 + _ <= 1000; omega))) h1))).trans ?_
    exact (zb2 (zi8 hp (by decide))).trans ((zb2 (zi8 hp (by decide))).trans (zi8 hp (by decide)))
  | fin =>
    have hp := yi8 "end" []
    refine (zb2 (zi8 hp (by decide))).trans ((zb2 (zi8 hp (by decide))).trans ((zb2 ((yi7 hp).trans (yy6 rfl h1))).trans ?_))
    exact (zb2 (zi8 hp (by decide))).trans ((zb2 (zi8 hp (by decide))).trans ((zb2 (zi8 hp (by decide))).trans (zi8 hp (by decide))))
theorem xl3 {f g : PSt -> Option D} {p : D} {b c : Str} {ts : List Tk} (hf : f [x0, some (.lst true (zd1 acc)), some p, x3] = some (.str b)) (hg : g [x0, some (.lst true (zd1 acc)), some p, x3] = some (.lst true (zd1 ts))) (hz : acc.length + ts.length <= 900) :
    f2 zc2 (f2 zc2 (f2 zc2 (za1 1) (zc3 (za0 f za2))) g) (zc3 (za0 (fC (.str c)) za2)) [x0, some (.lst true (zd1 acc)), some p, x3] = some (.lst true (zd1 acc ++ [.str b] ++ zd1 ts ++ [.str c])) := by
  have e1 : zc3 (za0 f za2) [x0, some (.lst true (zd1 acc)), some p, x3] = some (.lst true [.str b]) := zx0 (zc8 hf rfl) (by simp! [eq_self])
  have i1 : D.imms [D.str b] = true := rfl
  have i2 : D.imms (zd1 acc ++ [.str b]) = true := by rw [yi2, zv6]; rfl
  have i3 : D.imms (zd1 acc ++ [.str b] ++ zd1 ts) = true := by rw [yi2, i2, zv6]; rfl
  refine zh5 (zh5 (zh5 rfl e1 (yi4 (zv6 _) i1 ?_)) hg (yi4 i2 (zv6 _) ?_)) rfl (yi4 i3 rfl ?_)
  . rw [zq0]; simp; omega
  . rw [List.length_append, zq0, zq0]; simp; omega
  . rw [List.length_append, List.length_append, zq0, zq0]; simp; omega
theorem xv4 {r : List Pc} (q : G [.tup (zd4 r)] = some (.lst true (zd1 (zc6 r)))) (hz : acc.length + (zc6 r).length <= 900) : zx8 G [x0, some (.lst true (zd1 acc)), some (pcD (.group r)), x3] = some (.nx, [x0, some (.lst true (zd1 (acc ++ zh1 (.group r)))), some (pcD (.group r)), x3]) := by
  have e : zd1 (acc ++ zh1 (.group r)) = zd1 acc ++ [.str "["] ++ zd1 (zc6 r) ++ [.str "]"] := by rw [zw2, zh1, yf3, zw2]; simp! [zj5, zd1, zu7]
  rw [e]
  unfold zx8
  have hp := yi8 "group" [.tup (zd4 r)]
  refine (zb2 (zi8 hp (by decide))).trans ((zb2 (zi8 hp (by decide))).trans ((zb2 (zi8 hp (by decide))).trans ((zb2 (zi8 hp (by decide))).trans ?_)))
  refine (zb2 ((yi7 hp).trans (zm4 (xl3 rfl (zf8 (ds := [.tup (zd4 r)]) (zc8 (zh5 rfl rfl (yy7 "group" _ _)) rfl) q) hz)))).trans ?_
  exact (zb2 (zi8 hp (by decide))).trans (zi8 hp (by decide))
theorem wd0 {n : Int} {r : List Pc} (hn : 0 <= n /\ n <= 12) (q : G [.tup (zd4 r)] = some (.lst true (zd1 (zc6 r)))) (hz : acc.length + (zc6 r).length <= 900) : zx8 G [x0, some (.lst true (zd1 acc)), some (pcD (.hang n r)), x3] = some (.nx, [x0, some (.lst true (zd1 (acc ++ zh1 (.hang n r)))), some (pcD (.hang n r)), x3]) := by
  have e : zd1 (acc ++ zh1 (.hang n r)) = zd1 acc ++ [.str ((">" : Str) ++ iS n)] ++ zd1 (zc6 r) ++ [.str "<"] := by rw [zw2, zh1, yf3, zw2]; simp! [zj5, zd1, zu7]
  rw [e]
  unfold zx8
  have hp := yi8 "hang" [.int n, .tup (zd4 r)]
  have s1 : f2 zc2 (fC (.str ">")) (za3 zl8 (za0 (f2 dIx (za1 2) (fC (.int 1))) za2)) [x0, some (.lst true (zd1 acc)), some (pcD (.hang n r)), x3] = some (.str ((">" : Str) ++ iS n)) :=
    zh5 rfl (zf8 (ds := [.int n]) (zc8 (zh5 rfl rfl (yy7 "hang" _ _)) rfl) (xc0 hn.1 (by omega))) (xl2 (by have := ym0 hn.1 (by omega : n <= 40); show 1 + _ <= 1000; omega))
  refine (zb2 (zi8 hp (by decide))).trans ((zb2 (zi8 hp (by decide))).trans ((zb2 (zi8 hp (by decide))).trans ((zb2 (zi8 hp (by decide))).trans ((zb2 (zi8 hp (by decide))).trans ?_))))
  refine (zb2 ((yi7 hp).trans (zm4 (xl3 s1 (zf8 (ds := [.tup (zd4 r)]) (zc8 (zh5 rfl rfl (wt7 "hang" _ _ _)) rfl) q) hz)))).trans ?_
  exact zi8 hp (by decide)
theorem xl4 {P0 : D} {rs : List (List Pc)} {r : List Pc} {j : Nat} (hP : dIx P0 (.int 1) = some (.tup (zg0 rs))) (hr : atI (zg0 rs) (j : Int) = some (.tup (zd4 r))) (q : G [.tup (zd4 r)] = some (.lst true (zd1 (zc6 r)))) (hz : acc.length + (zc6 r).length <= 900) :
    yt3 G [x0, some (.lst true (zd1 acc)), some P0, some (.int (j : Int))] = some (.nx, [x0, some (.lst true (zd1 (acc ++ ((if 0 < j then Tk.orr else Tk.eit) :: zc6 r)))), some P0, some (.int (j : Int))]) := by
  have s1 : f2 dIx (zc3 (za0 (fC (.str "{")) (za0 (fC (.str "|")) za2))) (za3 zm1 (za0 (f2 dGt (za1 3) (fC (.int 0))) za2)) [x0, some (.lst true (zd1 acc)), some P0, some (.int (j : Int))] = some (.str (zj5 (if 0 < j then Tk.orr else Tk.eit))) := by
    by_cases c : 0 < j
    . have c' : (0 : Int) < (j : Int) := by omega
      rw [if_pos c]
      have e1 : za3 zm1 (za0 (f2 dGt (za1 3) (fC (.int 0))) za2) [x0, some (.lst true (zd1 acc)), some P0, some (.int (j : Int))] = some (.int 1) := by simp! [c]
      exact zh5 (x := .lst true [.str "{", .str "|"]) rfl e1 (by simp! [zj5])
    . have c' : ¬ ((0 : Int) < (j : Int)) := by omega
      rw [if_neg c]
      have e1 : za3 zm1 (za0 (f2 dGt (za1 3) (fC (.int 0))) za2) [x0, some (.lst true (zd1 acc)), some P0, some (.int (j : Int))] = some (.int 0) := by simp! [c]
      exact zh5 (x := .lst true [.str "{", .str "|"]) rfl e1 (by simp! [zj5])
  generalize (if 0 < j then Tk.orr else Tk.eit) = t at s1 |-
  have e : zd1 (acc ++ (t :: zc6 r)) = zd1 acc ++ [.str (zj5 t)] ++ zd1 (zc6 r) := by rw [zw2, yf3]; simp! [eq_self]
  rw [e]
  have s2 : zc3 (za0 (f2 dIx (zc3 (za0 (fC (.str "{")) (za0 (fC (.str "|")) za2))) (za3 zm1 (za0 (f2 dGt (za1 3) (fC (.int 0))) za2))) za2) [x0, some (.lst true (zd1 acc)), some P0, some (.int (j : Int))] = some (.lst true [.str (zj5 t)]) := zx0 (zc8 s1 rfl) (by simp! [eq_self])
  have i2 : D.imms (zd1 acc ++ [.str (zj5 t)]) = true := by rw [yi2, zv6]; rfl
  refine zm4 (zh5 (zh5 rfl s2 (yi4 (zv6 _) rfl ?_)) (zf8 (ds := [.tup (zd4 r)]) (zc8 (zh5 (zh5 rfl rfl hP) rfl hr) rfl) q) (yi4 i2 (zv6 _) ?_))
  . rw [zq0]; simp; omega
  . rw [List.length_append, zq0, zq0]; simp; omega
theorem xl5 : ∀ (rs : List (List Pc)) (j : Nat) (r : List Pc), rs[j]? = some r -> (zg0 rs)[j]? = some (.tup (zd4 r))
  | [], _, _, h => by simp [za9, za7, zb1, za5, fIf, za4, fB, f2, za1, fC, zb3, zb4, zc0, zd2, zb8, ze3, zf3, za0, za2, zc3, zd3, fKs, za3, dEq, dNe, eqB, dB, dIx, zb9, zb6, D.imm, D.imms, zc1, zc2, fT, zc9, za8, zd6, zd9, zd8, dGt, zm1, zl8] at h
  | q :: rs, 0, r, h => by simp [za9, za7, zb1, za5, fIf, za4, fB, f2, za1, fC, zb3, zb4, zc0, zd2, zb8, ze3, zf3, za0, za2, zc3, zd3, fKs, za3, dEq, dNe, eqB, dB, dIx, zb9, zb6, D.imm, D.imms, zc1, zc2, fT, zc9, za8, zd6, zd9, zd8, dGt, zm1, zl8] at h; subst h; rfl
  | q :: rs, j + 1, r, h => by simpa [zg0] using xl5 rs j r (by simpa using h)
theorem xl6 {P0 : D} {all : List (List Pc)} (hP : dIx P0 (.int 1) = some (.tup (zg0 all))) (q : ∀ r ∈ all, G [.tup (zd4 r)] = some (.lst true (zd1 (zc6 r)))) : ∀ (pre rs : List (List Pc)) (acc : List Tk) (x3 : Option D), all = pre ++ rs -> pre ≠ [] -> acc.length + (ze4 rs).length <= 900 ->
    ∃ y3, zm2 3 (yt3 G) ((List.range' pre.length rs.length).map fun (k : Nat) => D.int (k : Int)) [x0, some (.lst true (zd1 acc)), some P0, x3] = some (.nx, [x0, some (.lst true (zd1 (acc ++ ze4 rs))), some P0, y3])
  | pre, [], acc, x3, _, _, _ => ⟨x3, by simp! [zm2, ze4]⟩
  | pre, r :: rs, acc, x3, e, hp, hl => by
    have e1 : ze4 (r :: rs) = Tk.orr :: (zc6 r ++ ze4 rs) := rfl
    rw [e1] at hl |-
    simp only [List.length_cons, List.length_append] at hl
    have hj : all[pre.length]? = some r := by rw [e]; simp! [eq_self]
    have hpos : 0 < pre.length := by cases pre with | nil => exact absurd rfl hp | cons a l => simp! [eq_self]
    have s1 := xl4 (G := G) (x0 := x0) (acc := acc) (j := pre.length) hP (xa7 (xl5 all _ r hj)) (q r (by rw [e]; simp! [eq_self])) (by omega)
    rw [if_pos hpos] at s1
    obtain ⟨y3, s2⟩ := xl6 hP q (pre ++ [r]) rs (acc ++ (Tk.orr :: zc6 r)) (some (.int (pre.length : Int))) (by rw [e]; simp! [eq_self]) (by simp! [eq_self]) (by simp; omega)
    refine ⟨y3, ?_⟩
    rw [List.length_append] at s2
    rw [List.length_cons, List.range'_succ, List.map_cons, zm2]
    show (yt3 G [x0, some (.lst true (zd1 acc)), some P0, some (.int (pre.length : Int))]).bind _ = _
    rw [s1, Option.bind_some]
    refine Eq.trans s2 ?_
    simp! [eq_self]
theorem yv9 : ∀ rs : List (List Pc), rs.length <= (ze4 rs).length
  | [] => Nat.le_refl _
  | q :: rs => by
    have ih := yv9 rs
    show rs.length + 1 <= (Tk.orr :: (zc6 q ++ ze4 rs)).length
    rw [List.length_cons, List.length_append]; omega
theorem xo4 {rs : List (List Pc)} (hne : rs ≠ []) (q : ∀ r ∈ rs, G [.tup (zd4 r)] = some (.lst true (zd1 (zc6 r)))) (hz : acc.length + (zh1 (.either rs)).length <= 900) : ∃ y3, zx8 G [x0, some (.lst true (zd1 acc)), some (pcD (.either rs)), x3] = some (.nx, [x0, some (.lst true (zd1 (acc ++ zh1 (.either rs)))), some (pcD (.either rs)), y3]) := by
  cases rs with
  | nil => exact absurd rfl hne
  | cons r rs =>
    have e0 : zh1 (.either (r :: rs)) = Tk.eit :: (zc6 r ++ ze4 rs ++ [.don]) := rfl
    rw [e0] at hz |-
    simp only [List.length_cons, List.length_append, List.length_nil] at hz
    have hP : dIx (pcD (.either (r :: rs))) (.int 1) = some (.tup (zg0 (r :: rs))) := by simp! [pcD]
    have s1 := xl4 (G := G) (x0 := x0) (acc := acc) (j := 0) hP (by simp! [zg0]) (q r List.mem_cons_self) (by omega)
    rw [if_neg (by decide)] at s1
    obtain ⟨y3, s2⟩ := xl6 (G := G) (x0 := x0) hP q [r] rs (acc ++ (Tk.eit :: zc6 r)) (some (.int 0)) rfl (by simp! [eq_self]) (by simp; omega)
    refine ⟨y3, ?_⟩
    have er : zk9 (za0 (za3 zb9 (za0 (f2 dIx (za1 2) (fC (.int 1))) za2)) za2) [x0, some (.lst true (zd1 acc)), some (pcD (.either (r :: rs))), x3] = some ((List.range (r :: rs).length).map fun (k : Nat) => D.int (k : Int)) := by
      have e1 : za0 (za3 zb9 (za0 (f2 dIx (za1 2) (fC (.int 1))) za2)) za2 [x0, some (.lst true (zd1 acc)), some (pcD (.either (r :: rs))), x3] = some [.int ((r :: rs).length : Nat)] := by
        refine zc8 (zf8 (ds := [.tup (zg0 (r :: rs))]) (zc8 hP rfl) ?_) rfl
        show some (D.int ((zg0 (r :: rs)).length : Int)) = _
        rw [zp3]
      have hlen : (r :: rs).length <= 1000 := by
        have := yv9 rs
        simp; omega
      unfold zk9
      rw [e1, Option.bind_some, yl8 (by omega) (by omega), yl7, List.map_map]; rfl
    have s3 : zl6 3 (zk9 (za0 (za3 zb9 (za0 (f2 dIx (za1 2) (fC (.int 1))) za2)) za2)) (yt3 G) [x0, some (.lst true (zd1 acc)), some (pcD (.either (r :: rs))), x3] = some (.nx, [x0, some (.lst true (zd1 (acc ++ (Tk.eit :: zc6 r) ++ ze4 rs))), some (pcD (.either (r :: rs))), y3]) := by
      unfold zl6
      rw [er, Option.bind_some, List.range_eq_range', List.length_cons, List.range'_succ, List.map_cons, zm2]
      show (yt3 G [x0, some (.lst true (zd1 acc)), some (pcD (.either (r :: rs))), some (.int ((0 : Nat) : Int))]).bind _ = _
      rw [s1, Option.bind_some]
      exact s2
    have hz4 : (zd1 (acc ++ (Tk.eit :: zc6 r) ++ ze4 rs)).length < sizeLine := by rw [zq0]; exact sz1 (by simp; omega)
    have s4 : zc0 (zd2 1 zb8 (za0 (fC (.str "}")) za2) zb6) [x0, some (.lst true (zd1 (acc ++ (Tk.eit :: zc6 r) ++ ze4 rs))), some (pcD (.either (r :: rs))), y3] = some (.nx, [x0, some (.lst true (zd1 (acc ++ Tk.eit :: (zc6 r ++ ze4 rs ++ [.don])))), some (pcD (.either (r :: rs))), y3]) := by
      have e : zd1 (acc ++ Tk.eit :: (zc6 r ++ ze4 rs ++ [.don])) = zd1 (acc ++ (Tk.eit :: zc6 r) ++ ze4 rs) ++ [.str "}"] := by
        rw [show acc ++ Tk.eit :: (zc6 r ++ ze4 rs ++ [.don]) = (acc ++ (Tk.eit :: zc6 r) ++ ze4 rs) ++ [Tk.don] by simp! [eq_self], zw2]; rfl
      rw [e]
      generalize zd1 (acc ++ (Tk.eit :: zc6 r) ++ ze4 rs) = Z at hz4 |-
      simp! [hz4]
    have hp := yi8 "either" [.tup (zg0 (r :: rs))]
    unfold zx8
    refine (zb2 (zi8 hp (by decide))).trans ((zb2 (zi8 hp (by decide))).trans ((zb2 (zi8 hp (by decide))).trans ((zb2 (zi8 hp (by decide))).trans ((zb2 (zi8 hp (by decide))).trans ((zb2 (zi8 hp (by decide))).trans ?_)))))
    exact (yi7 hp).trans ((zb2 s3).trans s4)
end
theorem xl7 {G : List D -> Option D} {x0 : Option D} : ∀ (r : List Pc) (acc : List Tk) (x2 x3 : Option D), okR r -> (∀ p ∈ r, ∀ r' ∈ zv3 p, G [.tup (zd4 r')] = some (.lst true (zd1 (zc6 r')))) -> acc.length + (zc6 r).length <= 900 ->
    ∃ y2 y3, zm2 2 (zx8 G) (zd4 r) [x0, some (.lst true (zd1 acc)), x2, x3] = some (.nx, [x0, some (.lst true (zd1 (acc ++ zc6 r))), y2, y3])
  | [], acc, x2, x3, _, _, _ => ⟨x2, x3, by simp! [zd4, zm2, zc6]⟩
  | p :: r, acc, x2, x3, hok, h, hl => by
    have e : zc6 (p :: r) = zh1 p ++ zc6 r := rfl
    rw [e] at hl |-
    rw [List.length_append] at hl
    have s1 : ∃ y3, zx8 G [x0, some (.lst true (zd1 acc)), some (pcD p), x3] = some (.nx, [x0, some (.lst true (zd1 (acc ++ zh1 p))), some (pcD p), y3]) := by
      have hp := h p List.mem_cons_self
      cases p with
      | leaf l => exact ⟨_, wc9 l hok.1 (by omega)⟩
      | group r' => exact ⟨_, xv4 (hp r' List.mem_cons_self) (by simp [za9, za7, zb1, za5, fIf, za4, fB, f2, za1, fC, zb3, zb4, zc0, zd2, zb8, ze3, zf3, za0, za2, zc3, zd3, fKs, za3, dEq, dNe, eqB, dB, dIx, zb9, zb6, D.imm, D.imms, zc1, zc2, fT, zc9, za8, zd6, zd9, zd8, dGt, zm1, zl8, zh1] at hl; omega)⟩
      | hang n r' => exact ⟨_, wd0 hok.1.1 (hp r' List.mem_cons_self) (by simp [za9, za7, zb1, za5, fIf, za4, fB, f2, za1, fC, zb3, zb4, zc0, zd2, zb8, ze3, zf3, za0, za2, zc3, zd3, fKs, za3, dEq, dNe, eqB, dB, dIx, zb9, zb6, D.imm, D.imms, zc1, zc2, fT, zc9, za8, zd6, zd9, zd8, dGt, zm1, zl8, zh1] at hl; omega)⟩
      | either rs =>
        have hne : rs ≠ [] := fun z => by have : 2 <= rs.length := hok.1.1.1; rw [z] at this; simp [za9, za7, zb1, za5, fIf, za4, fB, f2, za1, fC, zb3, zb4, zc0, zd2, zb8, ze3, zf3, za0, za2, zc3, zd3, fKs, za3, dEq, dNe, eqB, dB, dIx, zb9, zb6, D.imm, D.imms, zc1, zc2, fT, zc9, za8, zd6, zd9, zd8, dGt, zm1, zl8] at this
        exact xo4 hne hp (by omega)
    obtain ⟨y3, s1⟩ := s1
    obtain ⟨z2, z3, s2⟩ := xl7 r (acc ++ zh1 p) (some (pcD p)) y3 hok.2 (fun p' hp' => h p' (List.mem_cons_of_mem _ hp')) (by rw [List.length_append]; omega)
    refine ⟨z2, z3, ?_⟩
    rw [<- List.append_assoc, <- s2]
    show zm2 2 (zx8 G) (pcD p :: zd4 r) _ = _
    rw [zm2]
    show (zx8 G [x0, some (.lst true (zd1 acc)), some (pcD p), x3]).bind _ = _
    rw [s1]; rfl
noncomputable def yk1 : Nat -> List D -> Option D
  | 0 => fun _ => none
  | n + 1 => gP 1 3 (yk6 (yk1 n))
theorem xl8 : ∀ {rs : List (List Pc)} {r : List Pc}, zz3 rs -> r ∈ rs -> okR r
  | [], _, _, h => by simp [za9, za7, zb1, za5, fIf, za4, fB, f2, za1, fC, zb3, zb4, zc0, zd2, zb8, ze3, zf3, za0, za2, zc3, zd3, fKs, za3, dEq, dNe, eqB, dB, dIx, zb9, zb6, D.imm, D.imms, zc1, zc2, fT, zc9, za8, zd6, zd9, zd8, dGt, zm1, zl8] at h
  | q :: rs, r, h, hr => (List.mem_cons.mp hr).elim (fun e => e ▸ h.1) fun z => xl8 h.2 z
theorem xr5 : ∀ {r : List Pc} {p : Pc}, okR r -> p ∈ r -> okP p
  | [], _, _, h => by simp [za9, za7, zb1, za5, fIf, za4, fB, f2, za1, fC, zb3, zb4, zc0, zd2, zb8, ze3, zf3, za0, za2, zc3, zd3, fKs, za3, dEq, dNe, eqB, dB, dIx, zb9, zb6, D.imm, D.imms, zc1, zc2, fT, zc9, za8, zd6, zd9, zd8, dGt, zm1, zl8] at h
  | q :: rs, r, h, hr => (List.mem_cons.mp hr).elim (fun e => e ▸ h.1) fun z => xr5 h.2 z
theorem xv5 {p : Pc} {r : List Pc} (h : okP p) (hr : r ∈ zv3 p) : okR r := by
  cases p with
  | leaf l => simp [za9, za7, zb1, za5, fIf, za4, fB, f2, za1, fC, zb3, zb4, zc0, zd2, zb8, ze3, zf3, za0, za2, zc3, zd3, fKs, za3, dEq, dNe, eqB, dB, dIx, zb9, zb6, D.imm, D.imms, zc1, zc2, fT, zc9, za8, zd6, zd9, zd8, dGt, zm1, zl8, zv3] at hr
  | group r' => simp [za9, za7, zb1, za5, fIf, za4, fB, f2, za1, fC, zb3, zb4, zc0, zd2, zb8, ze3, zf3, za0, za2, zc3, zd3, fKs, za3, dEq, dNe, eqB, dB, dIx, zb9, zb6, D.imm, D.imms, zc1, zc2, fT, zc9, za8, zd6, zd9, zd8, dGt, zm1, zl8, zv3] at hr; subst hr; exact h
  | hang n r' => simp [za9, za7, zb1, za5, fIf, za4, fB, f2, za1, fC, zb3, zb4, zc0, zd2, zb8, ze3, zf3, za0, za2, zc3, zd3, fKs, za3, dEq, dNe, eqB, dB, dIx, zb9, zb6, D.imm, D.imms, zc1, zc2, fT, zc9, za8, zd6, zd9, zd8, dGt, zm1, zl8, zv3] at hr; subst hr; exact h.2
  | either rs => exact xl8 h.2 hr
theorem xo5 {p : Pc} {r : List Pc} (hr : r ∈ zv3 p) : (zc6 r).length <= (zh1 p).length := by
  cases p with
  | leaf l => simp [za9, za7, zb1, za5, fIf, za4, fB, f2, za1, fC, zb3, zb4, zc0, zd2, zb8, ze3, zf3, za0, za2, zc3, zd3, fKs, za3, dEq, dNe, eqB, dB, dIx, zb9, zb6, D.imm, D.imms, zc1, zc2, fT, zc9, za8, zd6, zd9, zd8, dGt, zm1, zl8, zv3] at hr
  | group r' => simp [za9, za7, zb1, za5, fIf, za4, fB, f2, za1, fC, zb3, zb4, zc0, zd2, zb8, ze3, zf3, za0, za2, zc3, zd3, fKs, za3, dEq, dNe, eqB, dB, dIx, zb9, zb6, D.imm, D.imms, zc1, zc2, fT, zc9, za8, zd6, zd9, zd8, dGt, zm1, zl8, zv3] at hr; subst hr; simp! [zh1]; omega
  | hang n r' => simp [za9, za7, zb1, za5, fIf, za4, fB, f2, za1, fC, zb3, zb4, zc0, zd2, zb8, ze3, zf3, za0, za2, zc3, zd3, fKs, za3, dEq, dNe, eqB, dB, dIx, zb9, zb6, D.imm, D.imms, zc1, zc2, fT, zc9, za8, zd6, zd9, zd8, dGt, zm1, zl8, zv3] at hr; subst hr; simp! [zh1]; omega
  | either rs => have := xo2 (r := r) (rs := rs) hr; simp! [zh1]; omega
theorem xo6 {p : Pc} {r : List Pc} (h : r ∈ zv3 p) : zj3 r < yb4 p := by
  cases p with
  | leaf l => simp [za9, za7, zb1, za5, fIf, za4, fB, f2, za1, fC, zb3, zb4, zc0, zd2, zb8, ze3, zf3, za0, za2, zc3, zd3, fKs, za3, dEq, dNe, eqB, dB, dIx, zb9, zb6, D.imm, D.imms, zc1, zc2, fT, zc9, za8, zd6, zd9, zd8, dGt, zm1, zl8, zv3] at h
  | group r' => simp [za9, za7, zb1, za5, fIf, za4, fB, f2, za1, fC, zb3, zb4, zc0, zd2, zb8, ze3, zf3, za0, za2, zc3, zd3, fKs, za3, dEq, dNe, eqB, dB, dIx, zb9, zb6, D.imm, D.imms, zc1, zc2, fT, zc9, za8, zd6, zd9, zd8, dGt, zm1, zl8, zv3] at h; subst h; show zj3 r < zj3 r + 1; omega
  | hang n r' => simp [za9, za7, zb1, za5, fIf, za4, fB, f2, za1, fC, zb3, zb4, zc0, zd2, zb8, ze3, zf3, za0, za2, zc3, zd3, fKs, za3, dEq, dNe, eqB, dB, dIx, zb9, zb6, D.imm, D.imms, zc1, zc2, fT, zc9, za8, zd6, zd9, zd8, dGt, zm1, zl8, zv3] at h; subst h; show zj3 r < zj3 r + 1; omega
  | either rs => have := xe0 (r := r) (rs := rs) h; show zj3 r < zr6 rs + 1; omega
theorem xr6 : ∀ (n : Nat) (r : List Pc), okR r -> zj3 r < n -> (zc6 r).length <= 900 -> yk1 n [.tup (zd4 r)] = some (.lst true (zd1 (zc6 r)))
  | 0, _, _, h, _ => by omega
  | n + 1, r, hok, hd, hl => by
    obtain ⟨y2, y3, q⟩ := xl7 (G := yk1 n) (x0 := some (.tup (zd4 r))) r [] none none hok (fun p hp r' hr' => by
      have h1 := xj7 hp; have h2 := xo6 hr'; have h3 := xo5 hr'; have h4 := wg8 hp
      exact xr6 n r' (xv5 (xr5 hok hp) hr') (by omega) (by omega)) (by simp; omega)
    have e : yk6 (yk1 n) = za9 (zb1 1 (za5 (zc3 za2))) (za9 (zl6 2 (zw3 (za1 0)) (zx8 (yk1 n))) (zj9 1)) := rfl
    have s2 : zl6 2 (zw3 (za1 0)) (zx8 (yk1 n)) [some (.tup (zd4 r)), some (.lst true []), none, none] = some (.nx, [some (.tup (zd4 r)), some (.lst true (zd1 (zc6 r))), y2, y3]) := by
      unfold zl6; exact q
    have z := (congrFun e [some (.tup (zd4 r)), none, none, none]).trans ((zb2 (zm4 (d := .lst true []) rfl)).trans (zb2 s2))
    exact zo9 rfl (p := [some (.tup (zd4 r)), none, y2, y3]) (z.trans rfl)
end My
namespace My
open PySem PySem.Spec PyProof.Rows L2 L3
theorem wd1 (a b : Nat) : sLt ⟨#[a]⟩ ⟨#[b]⟩ = decide (a < b) := by
  unfold sLt
  by_cases h : a < b
  . rw [decide_eq_true h, decide_eq_true]
    exact List.Lex.rel h
  . rw [decide_eq_false h, decide_eq_false]
    intro z
    cases z with
    | rel z => exact h z
    | cons z => cases z
theorem wz0 : ("!" : Str) = ⟨#[33]⟩ := by decide +kernel
theorem ww8 : ("~" : Str) = ⟨#[126]⟩ := by decide +kernel
theorem xe5 : ∀ l : List Nat, l.all yh1 = true -> zx5 [none] ye5 (zj7 (f2 dLe (fC (.str "!")) (za1 0)) (f2 dLe (za1 0) (fC (.str "~")))) (l.map fun c => D.str ⟨#[c]⟩) = some (l.map fun _ => D.bl true)
  | [], _ => rfl
  | c :: l, h => by
    rw [List.all_cons, Bool.and_eq_true] at h
    have ih := xe5 l h.2
    have hc := h.1
    simp only [yh1, Bool.and_eq_true, decide_eq_true_eq] at hc
    have e1 : dLe (.str "!") (.str ⟨#[c]⟩) = some (.bl true) := by
      rw [dLe, wz0, wd1, decide_eq_false (by omega)]; rfl
    have e2 : dLe (.str ⟨#[c]⟩) (.str "~") = some (.bl true) := by
      rw [dLe, ww8, wd1, decide_eq_false (by omega)]; rfl
    have e3 : zj7 (f2 dLe (fC (.str "!")) (za1 0)) (f2 dLe (za1 0) (fC (.str "~"))) [some (.str ⟨#[c]⟩)] = some (.bl true) := by
      unfold zj7
      rw [zh5 (x := .str "!") (y := .str ⟨#[c]⟩) rfl rfl e1]
      show f2 dLe (za1 0) (fC (.str "~")) [some (.str ⟨#[c]⟩)] = _
      exact zh5 (x := .str ⟨#[c]⟩) (y := .str "~") rfl rfl e2
    rw [List.map_cons, zx5]
    show (ye5 [some (.str ⟨#[c]⟩)]).bind _ = _
    show ((zj7 (f2 dLe (fC (.str "!")) (za1 0)) (f2 dLe (za1 0) (fC (.str "~"))) [some (.str ⟨#[c]⟩)]).bind _) = _
    rw [e3, ih]; rfl
theorem yy8 : ∀ l : List Nat, D.bools (l.map fun _ => D.bl true) = some (l.map fun _ => true)
  | [] => rfl
  | c :: l => by
    show D.bools (.bl true :: l.map fun _ => D.bl true) = _
    rw [D.bools, yy8 l]; rfl
noncomputable abbrev ye8 : List D -> Option D := gP 1 0 yr0
theorem xv6 {x : Str} (h : yf9 x) : ye8 [.str x] = some (.bl true) := by
  obtain ⟨h1, h2, h3⟩ := h
  have hz : x.length <= sizeLine := sz (by omega)
  have s1 : fIf (za4 (zd7 (fT (za3 zj8 (za0 (za1 0) (za0 (fC (.ty "str")) za2)))))) (zb4 (za5 (fC (.bl false)))) za7 [some (.str x)] = some (.nx, [some (.str x)]) := by simp [za7, zb1, za5, fIf, za4, fB, f2, za1, fC, zb3, zb4, za0, za2, zd3, za3, dEq, eqB, dB, D.imm, D.imms, fT, zc9, za8, zh4, zd7, ze5, zj8, dTy, zj4, dLt, dGt, zb9, zj7]
  have s2 : fIf (za4 (zh4 (fB (f2 dLt (za3 zb9 (za0 (za1 0) za2)) (fC (.int 1)))) (fB (f2 dGt (za3 zb9 (za0 (za1 0) za2)) (fC (.int 12)))))) (zb4 (za5 (fC (.bl false)))) za7 [some (.str x)] = some (.nx, [some (.str x)]) := by
    have a1 : ¬ ((x.length : Int) < 1) := by omega
    have a2 : ¬ ((12 : Int) < (x.length : Int)) := by omega
    simp [za7, zb1, za5, fIf, za4, fB, f2, za1, fC, zb3, zb4, za0, za2, zd3, za3, dEq, eqB, dB, D.imm, D.imms, fT, zc9, za8, zh4, zd7, ze5, zj8, dTy, zj4, dLt, dGt, zb9, zj7, hz, a1, a2]
  have s3 : yj6 [none] (ym4 (za1 0)) ye5 (zj7 (f2 dLe (fC (.str "!")) (za1 0)) (f2 dLe (za1 0) (fC (.str "~")))) [some (.str x)] = some (.lst true (x.cps.toList.map fun _ => D.bl true)) := by
    have e1 : ym4 (za1 0) [some (.str x)] = some (x.cps.toList.map fun c => D.str ⟨#[c]⟩) := by
      unfold ym4
      show xn0 (.str x) = _
      unfold xn0
      refine (if_pos ?_).trans rfl
      rw [Array.all_eq_true]
      intro i hi
      have := List.all_eq_true.mp h3 x.cps[i] (by simp [za7, zb1, za5, fIf, za4, fB, f2, za1, fC, zb3, zb4, za0, za2, zd3, za3, dEq, eqB, dB, D.imm, D.imms, fT, zc9, za8, zh4, zd7, ze5, zj8, dTy, zj4, dLt, dGt, zb9, zj7])
      simp [za7, zb1, za5, fIf, za4, fB, f2, za1, fC, zb3, zb4, za0, za2, zd3, za3, dEq, eqB, dB, D.imm, D.imms, fT, zc9, za8, zh4, zd7, ze5, zj8, dTy, zj4, dLt, dGt, zb9, zj7, yh1] at this
      simp; omega
    unfold yj6
    rw [e1, Option.bind_some, if_pos (by rw [List.length_map]; exact hz)]
    show (zx5 [none] ye5 _ _).bind _ = _
    rw [xe5 _ h3]; rfl
  refine zo9 rfl (p := [some (.str x)]) ((zb2 s1).trans ((zb2 s2).trans (zn7 (zf8 (zc8 s3 rfl) ?_))))
  rw [xm9, yy8]
  show some (D.bl ((x.cps.toList.map fun _ => true).all id)) = _
  congr 2
  rw [List.all_map, List.all_eq_true]
  intro c _; rfl
theorem wd2 {i : Int} (h0 : 0 <= i) (h1 : i <= 40) : 1 <= (iS i).length := by
  have h : ∀ n : Fin 41, 1 <= (iS (n.val : Int)).length := by decide +kernel
  have := h ⟨i.toNat, by omega⟩
  rwa [show ((i.toNat : Nat) : Int) = i by omega] at this
theorem wt8 {i j : Int} (hi : 0 <= i /\ i <= 40) (hj : 0 <= j /\ j <= 40) (h : iS i = iS j) : i = j := by
  have key : ∀ a b : Fin 41, iS (a.val : Int) = iS (b.val : Int) -> a = b := by decide +kernel
  have := key ⟨i.toNat, by omega⟩ ⟨j.toNat, by omega⟩ (by
    rw [show ((i.toNat : Nat) : Int) = i by omega, show ((j.toNat : Nat) : Int) = j by omega]; exact h)
  have := congrArg (fun z : Fin 41 => z.val) this
  simp [za7, zb1, za5, fIf, za4, fB, f2, za1, fC, zb3, zb4, za0, za2, zd3, za3, dEq, eqB, dB, D.imm, D.imms, fT, zc9, za8, zh4, zd7, ze5, zj8, dTy, zj4, dLt, dGt, zb9, zj7] at this
  omega
noncomputable abbrev ye9 : List D -> Option D := gP 3 1 yg5
noncomputable def yw0 : PSt -> Option (Fl × PSt) := (fIf (za4 (fB (f2 dEq (za1 1) (za3 zl8 (za0 (za1 3) za2)))))
   (zb4 (za5 (zd3 (za0 (zb3 (za1 0)) (za0 (zb3 (za1 3)) za2)))))
   za7)
theorem xr7 {k : Str} {c : Int} {m : Option D} (hc : 0 <= c /\ c <= 40) : ∀ (l : List Int) (x3 : Option D), (∀ j ∈ l, 0 <= j /\ j <= 40) -> c ∈ l -> ∃ p, zm2 3 yw0 (l.map .int) [some (.str k), some (.str (iS c)), m, x3] = some (.ret (.tup [.str k, .int c]), p)
  | [], _, _, h => by simp [za7, zb1, za5, fIf, za4, fB, f2, za1, fC, zb3, zb4, za0, za2, zd3, za3, dEq, eqB, dB, D.imm, D.imms, fT, zc9, za8, zh4, zd7, ze5, zj8, dTy, zj4, dLt, dGt, zb9, zj7] at h
  | j :: l, x3, hl, h => by
    have hj := hl j List.mem_cons_self
    have e1 : f2 dEq (za1 1) (za3 zl8 (za0 (za1 3) za2)) [some (.str k), some (.str (iS c)), m, some (.int j)] = some (.bl (decide (iS c = iS j))) :=
      zh5 (x := .str (iS c)) (y := .str (iS j)) rfl (zf8 (ds := [.int j]) rfl (xc0 hj.1 hj.2)) rfl
    rw [List.map_cons, zm2]
    show ∃ p, (yw0 [some (.str k), some (.str (iS c)), m, some (.int j)]).bind _ = _
    by_cases hcj : c = j
    . subst hcj
      refine ⟨[some (.str k), some (.str (iS c)), m, some (.int c)], ?_⟩
      have : yw0 [some (.str k), some (.str (iS c)), m, some (.int c)] = some (.ret (.tup [.str k, .int c]), [some (.str k), some (.str (iS c)), m, some (.int c)]) := by
        unfold yw0
        refine (zz8 (p' := [some (.str k), some (.str (iS c)), m, some (.int c)]) ?_).trans (zn7 (by simp [za7, zb1, za5, fIf, za4, fB, f2, za1, fC, zb3, zb4, za0, za2, zd3, za3, dEq, eqB, dB, D.imm, D.imms, fT, zc9, za8, zh4, zd7, ze5, zj8, dTy, zj4, dLt, dGt, zb9, zj7]))
        unfold za4 fB
        rw [e1]; simp [za7, zb1, za5, fIf, za4, fB, f2, za1, fC, zb3, zb4, za0, za2, zd3, za3, dEq, eqB, dB, D.imm, D.imms, fT, zc9, za8, zh4, zd7, ze5, zj8, dTy, zj4, dLt, dGt, zb9, zj7]
      rw [this]; rfl
    . have hne : ¬ iS c = iS j := fun z => hcj (wt8 hc hj z)
      obtain ⟨p, q⟩ := xr7 hc l (some (.int j)) (fun i hi => hl i (List.mem_cons_of_mem _ hi)) ((List.mem_cons.mp h).resolve_left hcj)
      refine ⟨p, ?_⟩
      have : yw0 [some (.str k), some (.str (iS c)), m, some (.int j)] = some (.nx, [some (.str k), some (.str (iS c)), m, some (.int j)]) := by
        unfold yw0
        refine (zq8 (p' := [some (.str k), some (.str (iS c)), m, some (.int j)]) ?_).trans rfl
        unfold za4 fB
        rw [e1, decide_eq_false hne]; rfl
      rw [this]; exact q
theorem wd3 {k : Str} {c m : Int} (hc : 0 <= c /\ c <= m) (hm : m <= 40) : ye9 [.str k, .str (iS c), .int m] = some (.tup [.str k, .int c]) := by
  obtain ⟨p, q⟩ := xr7 (k := k) (c := c) (m := some (.int m)) ⟨hc.1, by omega⟩ ((List.range (m + 1).toNat).map fun (k : Nat) => (k : Int)) none (fun j hj => by
    obtain ⟨i, hi, rfl⟩ := List.mem_map.mp hj
    have := List.mem_range.mp hi
    omega) (List.mem_map.mpr ⟨c.toNat, List.mem_range.mpr (by omega), by omega⟩)
  rw [<- yl7] at q
  have er : zk9 (za0 (f2 zc2 (za1 2) (fC (.int 1))) za2) [some (.str k), some (.str (iS c)), some (.int m), none] = some (zt6 0 (m + 1).toNat) := by
    have e1 : za0 (f2 zc2 (za1 2) (fC (.int 1))) za2 [some (.str k), some (.str (iS c)), some (.int m), none] = some [.int (m + 1)] := rfl
    unfold zk9
    rw [e1, Option.bind_some, yl8 (by omega) (by omega)]
  have s1 : zl6 3 (zk9 (za0 (f2 zc2 (za1 2) (fC (.int 1))) za2)) yw0 [some (.str k), some (.str (iS c)), some (.int m), none] = some (.ret (.tup [.str k, .int c]), p) := by
    unfold zl6; rw [er]; exact q
  exact zo9 rfl (zu2 s1)
theorem wh5 {z : Str} (h : 2 <= z.length) : (zo0.any fun j => decide (j = .inr z)) = false := by
  have ne : ∀ s : String, (Str.ofString s).length = 1 -> decide ((Sum.inr (Str.ofString s) : Key) = .inr z) = false := fun s hs => decide_eq_false fun e => by
    have := Sum.inr.inj e
    rw [<- this] at h; omega
  simp only [zo0, List.any_cons, List.any_nil, Bool.or_false]
  rw [ne "_" rfl, ne "." rfl, ne "/" rfl, ne "[" rfl, ne "]" rfl, ne "<" rfl, ne "{" rfl, ne "|" rfl, ne "}" rfl]; rfl
theorem wh6 {z : Str} {d : D} (h : zt1 (.dic false zo0 yb6) (.str z) = some d) : (zo0.any fun j => decide (j = .inr z)) = true := by
  have go : ∀ (ks : List Key) (ds : List D), zu4 ks ds (.inr z) = some d -> (ks.any fun j => decide (j = .inr z)) = true := fun ks => by
    induction ks with
    | nil => intro ds h; cases ds <;> cases h
    | cons k ks ih =>
      intro ds h
      cases ds with
      | nil => cases h
      | cons e ds =>
        rw [zu4] at h
        rw [List.any_cons]
        by_cases c : k = .inr z
        . rw [decide_eq_true c]; rfl
        . rw [if_neg c] at h
          rw [ih ds h]; simp [za7, zb1, za5, fIf, za4, fB, f2, za1, fC, zb3, zb4, za0, za2, zd3, za3, dEq, eqB, dB, D.imm, D.imms, fT, zc9, za8, zh4, zd7, ze5, zj8, dTy, zj4, dLt, dGt, zb9, zj7]
  exact go _ _ h
noncomputable abbrev yz8 : List D -> Option D := gP 1 0 (zw8 ye9 ye8)
theorem xg0 : ("\x40" : Str) = ⟨#[64]⟩ := by decide +kernel
theorem xv7 : (">" : Str) = ⟨#[62]⟩ := by decide +kernel
theorem wd4 : ("'" : Str) = ⟨#[39]⟩ := by decide +kernel
section
variable {GN GW : List D -> Option D} {z : Str} {F : PSt -> Option (Fl × PSt)}
theorem xv8 (h : 2 <= z.length) : fIf (za4 (zk5 zo0 (za1 0))) F za7 [some (.str z)] = some (.nx, [some (.str z)]) := by
  refine (zq8 (p' := [some (.str z)]) ?_).trans rfl
  show (some (zo0.any fun j => decide (j = .inr z))).bind _ = _
  rw [wh5 h]; rfl
theorem xl9 {y : Str} : fT (fMt zo6 (za1 0) (za0 (fC (.str y)) za2)) [some (.str z)] = some (Txt.startswith z y) := rfl
theorem xv9 {y : Str} (h : Txt.startswith z y = false) : fIf (za4 (fT (fMt zo6 (za1 0) (za0 (fC (.str y)) za2)))) F za7 [some (.str z)] = some (.nx, [some (.str z)]) := by
  refine (zq8 (p' := [some (.str z)]) ?_).trans rfl
  unfold za4
  rw [xl9, h]; rfl
theorem wd5 {y : Str} (h : Txt.startswith z y = true) : fIf (za4 (fT (fMt zo6 (za1 0) (za0 (fC (.str y)) za2)))) F za7 [some (.str z)] = F [some (.str z)] := by
  refine zz8 (p' := [some (.str z)]) ?_
  unfold za4
  rw [xl9, h]; rfl
theorem xw0 {c : Nat} {x : Str} (hz : x.length <= 900) : fSl (za1 0) (ya2 (fC (.int 1))) zs1 [some (.str (⟨#[c]⟩ ++ x))] = some (.str x) := by
  have hl : (⟨#[c]⟩ ++ x : Str).length <= sizeLine := by rw [zj1]; exact sz (by show 1 + _ <= 1000; omega)
  show (if (⟨#[c]⟩ ++ x : Str).length <= sizeLine then some (D.str (Txt.slice (⟨#[c]⟩ ++ x) (some 1) none)) else none) = _
  rw [if_pos hl, wt3]
theorem wh7 {d : D} (h : zt1 (.dic false zo0 yb6) (.str z) = some d) (hi : d.imm = true) : gP 1 0 (zw8 GN GW) [.str z] = some d := by
  refine zo9 rfl (p := [some (.str z)]) (zu2 ((zz8 (p' := [some (.str z)]) ?_).trans (zn7 ?_)))
  . show (some (zo0.any fun j => decide (j = .inr z))).bind _ = _
    rw [wh6 h]; rfl
  . unfold zb3
    rw [zh5 (x := .dic false zo0 yb6) (y := .str z) rfl rfl h]
    show (if d.imm = true then some d else none) = _
    rw [if_pos hi]
end
theorem wd6 {t : Tk} (h : yb5 t) : yz8 [.str (zj5 t)] = some (tkD t) := by
  have hi := yy1 t
  show gP 1 0 (zw8 ye9 ye8) _ = _
  have simple : ∀ d, tkD t = d -> zt1 (.dic false zo0 yb6) (.str (zj5 t)) = some d -> gP 1 0 (zw8 ye9 ye8) [.str (zj5 t)] = some (tkD t) := fun d e q => by
    rw [<- e] at q
    exact wh7 q hi
  cases t with
  | leaf l =>
    cases l with
    | word x =>
      have h' : yf9 x := h
      have e : zj5 (.leaf (.word x)) = ⟨#[39]⟩ ++ x := by show ("'" : Str) ++ x = _; rw [wd4]
      rw [e]
      have hl : 2 <= (⟨#[39]⟩ ++ x : Str).length := by rw [zj1]; have := h'.1; show 2 <= 1 + _; omega
      have n1 : Txt.startswith (⟨#[39]⟩ ++ x) "\x40" = false := by rw [xg0, zz9]; rfl
      have n2 : Txt.startswith (⟨#[39]⟩ ++ x) ">" = false := by rw [xv7, zz9]; rfl
      have n3 : Txt.startswith (⟨#[39]⟩ ++ x) "'" = true := by rw [wd4, zz9]; rfl
      have hs := xw0 (c := 39) (x := x) (by have := h'.2.1; omega)
      have hw := xv6 h'
      generalize ye8 = GW at hw |-
      generalize ye9 = GN
      have c4 : za4 (ze5 (fT (fMt zo6 (za1 0) (za0 (fC (.str "'")) za2))) (fT (za3 GW (za0 (fSl (za1 0) (ya2 (fC (.int 1))) zs1) za2)))) [some (.str (⟨#[39]⟩ ++ x))] = some (true, [some (.str (⟨#[39]⟩ ++ x))]) := by
        unfold za4 ze5
        rw [xl9, n3]
        show (fT (za3 GW (za0 (fSl (za1 0) (ya2 (fC (.int 1))) zs1) za2)) [some (.str (⟨#[39]⟩ ++ x))]).bind _ = _
        unfold fT
        rw [zf8 (zc8 hs rfl) hw]; rfl
      refine zo9 rfl (p := [some (.str (⟨#[39]⟩ ++ x))]) ((zb2 (xv8 hl)).trans ((zb2 (xv9 n1)).trans ((zb2 (xv9 n2)).trans (zu2 ((zz8 c4).trans (zn7 ?_))))))
      unfold zd3
      rw [zc8 (d := .str "word") rfl (zc8 hs rfl)]
      simp [za7, zb1, za5, fIf, za4, fB, f2, za1, fC, zb3, zb4, za0, za2, zd3, za3, dEq, eqB, dB, D.imm, D.imms, fT, zc9, za8, zh4, zd7, ze5, zj8, dTy, zj4, dLt, dGt, zb9, zj7, tkD, zk4]
    | gap x =>
      have h' : x = "" \/ x = " " := h
      rcases h' with rfl | rfl
      . exact simple _ rfl (by simp [za7, zb1, za5, fIf, za4, fB, f2, za1, fC, zb3, zb4, za0, za2, zd3, za3, dEq, eqB, dB, D.imm, D.imms, fT, zc9, za8, zh4, zd7, ze5, zj8, dTy, zj4, dLt, dGt, zb9, zj7, zt1, D.key, zu4, zj5, tkD, zk4])
      . exact simple _ rfl (by simp [za7, zb1, za5, fIf, za4, fB, f2, za1, fC, zb3, zb4, za0, za2, zd3, za3, dEq, eqB, dB, D.imm, D.imms, fT, zc9, za8, zh4, zd7, ze5, zj8, dTy, zj4, dLt, dGt, zb9, zj7, zt1, D.key, zu4, zj5, tkD, zk4])
    | stop c =>
      have h' : 0 <= c /\ c <= 40 := h
      have e : zj5 (.leaf (.stop c)) = ⟨#[64]⟩ ++ iS c := by show ("\x40" : Str) ++ iS c = _; rw [xg0]
      rw [e]
      have h1 : 1 <= (iS c).length := wd2 h'.1 h'.2
      have h2 := ym0 h'.1 h'.2
      have hl : 2 <= (⟨#[64]⟩ ++ iS c : Str).length := by rw [zj1]; show 2 <= 1 + _; omega
      have n1 : Txt.startswith (⟨#[64]⟩ ++ iS c) "\x40" = true := by rw [xg0, zz9]; rfl
      have hs := xw0 (c := 64) (x := iS c) (by omega)
      have hn := wd3 (k := "stop") (c := c) (m := 40) h' (by decide)
      generalize ye8 = GW
      generalize ye9 = GN at hn |-
      exact zo9 rfl ((zb2 (xv8 hl)).trans (zu2 ((wd5 n1).trans (zn7 (zf8 (zc8 rfl (zc8 hs (zc8 rfl rfl))) hn)))))
    | fin => exact simple _ rfl (by simp [za7, zb1, za5, fIf, za4, fB, f2, za1, fC, zb3, zb4, za0, za2, zd3, za3, dEq, eqB, dB, D.imm, D.imms, fT, zc9, za8, zh4, zd7, ze5, zj8, dTy, zj4, dLt, dGt, zb9, zj7, zt1, D.key, zu4, zj5, tkD, zk4])
  | hng n =>
    have h' : 0 <= n /\ n <= 12 := h
    have e : zj5 (.hng n) = ⟨#[62]⟩ ++ iS n := by show (">" : Str) ++ iS n = _; rw [xv7]
    rw [e]
    have h1 : 1 <= (iS n).length := wd2 h'.1 (by omega)
    have h2 := ym0 h'.1 (by omega : n <= 40)
    have hl : 2 <= (⟨#[62]⟩ ++ iS n : Str).length := by rw [zj1]; show 2 <= 1 + _; omega
    have n1 : Txt.startswith (⟨#[62]⟩ ++ iS n) "\x40" = false := by rw [xg0, zz9]; rfl
    have n2 : Txt.startswith (⟨#[62]⟩ ++ iS n) ">" = true := by rw [xv7, zz9]; rfl
    have hs := xw0 (c := 62) (x := iS n) (by omega)
    have hn := wd3 (k := "hang") (c := n) (m := 12) h' (by decide)
    generalize ye8 = GW
    generalize ye9 = GN at hn |-
    exact zo9 rfl ((zb2 (xv8 hl)).trans ((zb2 (xv9 n1)).trans (zu2 ((wd5 n2).trans (zn7 (zf8 (zc8 rfl (zc8 hs (zc8 rfl rfl))) hn))))))
  | _ => exact simple _ rfl (by simp [za7, zb1, za5, fIf, za4, fB, f2, za1, fC, zb3, zb4, za0, za2, zd3, za3, dEq, eqB, dB, D.imm, D.imms, fT, zc9, za8, zh4, zd7, ze5, zj8, dTy, zj4, dLt, dGt, zb9, zj7, zt1, D.key, zu4, zj5, tkD, zk4])
end My
namespace My
open PySem PySem.Spec PyProof.Rows L2 L3
noncomputable def ya7 : List Tk -> Nat -> List Fm -> List Fm -> Prop
  | [], _, fs, fs' => fs' = fs
  | t :: ts, n, fs, fs' => ∃ g, yk7 [zd5 n fs, tkD t] = some (.non, [zd5 (n + 1) g, tkD t]) /\ ya7 ts (n + 1) g fs'
theorem ya7.app : ∀ {a b : List Tk} {n : Nat} {fs g fs' : List Fm}, ya7 a n fs g -> ya7 b (n + a.length) g fs' -> ya7 (a ++ b) n fs fs'
  | [], b, n, fs, g, fs', h1, h2 => by cases h1; simpa using h2
  | t :: a, b, n, fs, g, fs', ⟨k, q, h⟩, h2 => ⟨k, q, ya7.app h (by rw [List.length_cons] at h2; rwa [show n + 1 + a.length = n + (a.length + 1) by omega])⟩
theorem wh8 (f : Fm) : zr7 f [] = f := by unfold zr7; rw [List.append_nil]
theorem wd7 (f : Fm) (p : Pc) (r : List Pc) : zr7 (put f p) r = zr7 f (p :: r) := by unfold zr7 put; simp
mutual
theorem ww9 : ∀ (p : Pc) (f : Fm) (fs : List Fm) (n : Nat), okP p -> n + (zh1 p).length <= 200 -> yb4 p + fs.length <= 12 -> f.parts.length <= n -> ya7 (zh1 p) n (f :: fs) (put f p :: fs)
  | .leaf l, f, fs, n, hok, hn, hd, hp => by
    have hn' : n + 1 <= 200 := hn
    exact ⟨_, wh0 ⟨by omega, .inl ⟨l, rfl⟩⟩ (by omega), rfl⟩
  | .group r, f, fs, n, hok, hn, hd, hp => by
    have e : zh1 (.group r) = .opn :: (zc6 r ++ [.cls]) := rfl
    rw [e] at hn |-
    simp only [List.length_cons, List.length_append, List.length_nil] at hn
    have hd' : zj3 r + 1 + fs.length <= 12 := hd
    refine ⟨_, yv5 (by simp) (.inl rfl) ⟨by omega, .inr (.inl ⟨.inl rfl, by simp; omega⟩)⟩ (by simp; omega), ya7.app (ys5 r ⟨some .opn, [], []⟩ (f :: fs) (n + 1) hok (by omega) (by simp; omega) (by simp)) ⟨_, yv6 (f := zr7 ⟨some .opn, [], []⟩ r) (.inl ⟨rfl, rfl⟩) ⟨by omega, .inr (.inr ⟨_, _, rfl, .inl ⟨rfl, rfl⟩⟩)⟩ (by omega) (by simp [zr7]), rfl⟩⟩
  | .hang k r, f, fs, n, hok, hn, hd, hp => by
    have e : zh1 (.hang k r) = .hng k :: (zc6 r ++ [.bck]) := rfl
    rw [e] at hn |-
    simp only [List.length_cons, List.length_append, List.length_nil] at hn
    have hd' : zj3 r + 1 + fs.length <= 12 := hd
    refine ⟨_, yv5 (by simp) (.inr (.inl ⟨k, rfl⟩)) ⟨by omega, .inr (.inl ⟨.inr (.inl ⟨k, rfl⟩), by simp; omega⟩)⟩ (by simp; omega), ya7.app (ys5 r ⟨some (.hng k), [], []⟩ (f :: fs) (n + 1) hok.2 (by omega) (by simp; omega) (by simp)) ⟨_, yv6 (f := zr7 ⟨some (.hng k), [], []⟩ r) (.inr (.inl ⟨k, rfl, rfl⟩)) ⟨by omega, .inr (.inr ⟨_, _, rfl, .inr (.inl ⟨k, rfl, rfl⟩)⟩)⟩ (by omega) (by simp [zr7]), rfl⟩⟩
  | .either [], f, fs, n, hok, hn, hd, hp => by have : 2 <= ([] : List (List Pc)).length := hok.1.1; simp at this
  | .either (r :: rs), f, fs, n, hok, hn, hd, hp => by
    have e : zh1 (.either (r :: rs)) = .eit :: ((zc6 r ++ ze4 rs) ++ [.don]) := rfl
    rw [e] at hn |-
    simp only [List.length_cons, List.length_append, List.length_nil] at hn
    have hd' : max (zj3 r) (zr6 rs) + 1 + fs.length <= 12 := hd
    have hl : 2 <= rs.length + 1 /\ rs.length + 1 <= 4 := hok.1
    have hok2 : okR r /\ zz3 rs := hok.2
    obtain ⟨F, a1, a2, a3⟩ := xm0 rs (zr7 ⟨some .eit, [], []⟩ r) (f :: fs) (n + 1 + (zc6 r).length) hok2.2 (by omega) (by simp; omega) rfl (by simp [zr7]; omega)
    have a4 : F.full ++ [F.parts] = r :: rs := by rw [a3]; simp [zr7]
    have hfl : F.full.length = rs.length := by have := congrArg List.length a4; simp at this; omega
    have hne : F.full ≠ [] := fun z => by rw [z] at hfl; simp at hfl; omega
    have hpc : zs2 F = .either (r :: rs) := by unfold zs2; rw [a2]; show Pc.either _ = _; rw [a4]
    refine ⟨_, yv5 (by simp) (.inr (.inr rfl)) ⟨by omega, .inr (.inl ⟨.inr (.inr rfl), by simp; omega⟩)⟩ (by simp; omega), ya7.app (ya7.app (ys5 r ⟨some .eit, [], []⟩ (f :: fs) (n + 1) hok2.1 (by omega) (by simp; omega) (by simp)) a1) ⟨_, ?_, rfl⟩⟩
    rw [<- hpc]
    exact yv6 (.inr (.inr ⟨a2, rfl⟩)) ⟨by simp only [List.length_append]; omega, .inr (.inr ⟨_, _, rfl, .inr (.inr (.inr ⟨a2, rfl, hne⟩))⟩)⟩ (by omega) (by omega)
theorem ys5 : ∀ (r : List Pc) (f : Fm) (fs : List Fm) (n : Nat), okR r -> n + (zc6 r).length <= 200 -> zj3 r + fs.length <= 12 -> f.parts.length <= n -> ya7 (zc6 r) n (f :: fs) (zr7 f r :: fs)
  | [], f, fs, n, _, _, _, _ => by show zr7 f [] :: fs = f :: fs; rw [wh8]
  | p :: r, f, fs, n, hok, hn, hd, hp => by
    have e : zc6 (p :: r) = zh1 p ++ zc6 r := rfl
    rw [e] at hn |-
    rw [List.length_append] at hn
    have hd' : max (yb4 p) (zj3 r) + fs.length <= 12 := hd
    have hq := yy3 p
    have h2 := ys5 r (put f p) fs (n + (zh1 p).length) hok.2 (by omega) (by omega) (by show (f.parts ++ [p]).length <= _; simp; omega)
    rw [wd7] at h2
    exact ya7.app (ww9 p f fs n hok.1 (by omega) (by omega) hp) h2
theorem xm0 : ∀ (rs : List (List Pc)) (f : Fm) (fs : List Fm) (n : Nat), zz3 rs -> n + (ze4 rs).length <= 200 -> zr6 rs + fs.length <= 12 -> f.op = some .eit -> f.full.length + rs.length <= 3 -> ∃ F, ya7 (ze4 rs) n (f :: fs) (F :: fs) /\ F.op = some .eit /\ F.full ++ [F.parts] = f.full ++ [f.parts] ++ rs
  | [], f, fs, n, _, _, _, ho, _ => ⟨f, rfl, ho, by simp⟩
  | r :: rs, f, fs, n, hok, hn, hd, ho, hl => by
    have e : ze4 (r :: rs) = .orr :: (zc6 r ++ ze4 rs) := rfl
    rw [e] at hn |-
    simp only [List.length_cons, List.length_append] at hn hl
    have hd' : max (zj3 r) (zr6 rs) + fs.length <= 12 := hd
    obtain ⟨F, a1, a2, a3⟩ := xm0 rs (zr7 { f with full := f.full ++ [f.parts], parts := [] } r) fs (n + 1 + (zc6 r).length) hok.2 (by omega) (by omega) ho (by simp [zr7]; omega)
    refine ⟨F, ⟨_, wt2 ho (by omega) ⟨by omega, .inr (.inr ⟨_, _, rfl, .inr (.inr (.inl ⟨ho, rfl, by omega⟩))⟩)⟩, ya7.app (ys5 r { f with full := f.full ++ [f.parts], parts := [] } fs (n + 1) hok.1 (by omega) (by omega) (by simp)) a1⟩, a2, ?_⟩
    rw [a3]; simp [zr7]
end
noncomputable abbrev gAW : List D -> Option (D × List D) := gE 2 1 (zf2 [true, false]) (zs7 yz8 yk7)
theorem wx0 {n : Nat} {fs g : List Fm} {t : Tk} (h : yb5 t) (q : yk7 [zd5 n fs, tkD t] = some (.non, [zd5 (n + 1) g, tkD t])) : gAW [zd5 n fs, .str (zj5 t)] = some (.non, [zd5 (n + 1) g, .str (zj5 t)]) := by
  have q1 := wd6 h
  have hi := yy1 t
  show gE 2 1 (zf2 [true, false]) (zs7 yz8 yk7) _ = _
  generalize yz8 = GT at q1
  generalize yk7 = GA at q
  have hk := xk5 t
  generalize zj5 t = z at q1 |-
  have hm : zx6 "Builder" "add" GA [tkD t] (zd5 n fs) = some (.non, zd5 (n + 1) g) := by
    have nf : ze1 nsB "add" = none := by simp [za9, za7, zb1, za5, fIf, za4, fB, f2, za1, fC, zb3, zb4, zc0, zd2, zb8, ze3, za0, za2, zc3, za3, dEq, eqB, dB, dIx, zb9, D.imm, D.imms, zc1, dGt, za8, zd6, zd9, zd8, ze1, zi4, zf9, zf0, ze2, zl1, zf2, gE, fIO, zi3, dIs, zp4]
    show (if (("Builder" : Str) = "Builder" /\ ze1 nsB "add" = none) then (GA [zd5 n fs, tkD t]).bind _ else none) = _
    rw [if_pos ⟨rfl, nf⟩, q]; rfl
  have s1 : zb1 2 (za5 (za3 GT (za0 (za1 1) za2))) [some (zd5 n fs), some (.str z), none] = some (.nx, [some (zd5 n fs), some (.str z), some (tkD t)]) := zm4 (zf8 rfl q1)
  have s2 : fIf (za4 (fB (f2 dIs (za1 2) (fC .non)))) yd1 za7 [some (zd5 n fs), some (.str z), some (tkD t)] = some (.nx, [some (zd5 n fs), some (.str z), some (tkD t)]) := by
    rw [hk]; simp [za9, za7, zb1, za5, fIf, za4, fB, f2, za1, fC, zb3, zb4, zc0, zd2, zb8, ze3, za0, za2, zc3, za3, dEq, eqB, dB, dIx, zb9, D.imm, D.imms, zc1, dGt, za8, zd6, zd9, zd8, ze1, zi4, zf9, zf0, ze2, zl1, zf2, gE, fIO, zi3, dIs, zp4]
  have s3 : zc0 (zd2 0 zb8 (ze2 [.im (za1 2)]) (zx6 "Builder" "add" GA)) [some (zd5 n fs), some (.str z), some (tkD t)] = some (.nx, [some (zd5 (n + 1) g), some (.str z), some (tkD t)]) := by
    generalize tkD t = d at hi hm |-
    simp [za9, za7, zb1, za5, fIf, za4, fB, f2, za1, fC, zb3, zb4, zc0, zd2, zb8, ze3, za0, za2, zc3, za3, dEq, eqB, dB, dIx, zb9, D.imm, D.imms, zc1, dGt, za8, zd6, zd9, zd8, ze1, zi4, zf9, zf0, ze2, zl1, zf2, gE, fIO, zi3, dIs, zp4, hi, hm]
  unfold gE
  refine (if_pos rfl).trans ?_
  show (zs7 GT GA [some (zd5 n fs), some (.str z), none]).bind _ = _
  rw [show zs7 GT GA [some (zd5 n fs), some (.str z), none] = some (.nx, [some (zd5 (n + 1) g), some (.str z), some (tkD t)]) from (zb2 s1).trans ((zb2 s2).trans s3)]
  simp [za9, za7, zb1, za5, fIf, za4, fB, f2, za1, fC, zb3, zb4, zc0, zd2, zb8, ze3, za0, za2, zc3, za3, dEq, eqB, dB, dIx, zb9, D.imm, D.imms, zc1, dGt, za8, zd6, zd9, zd8, ze1, zi4, zf9, zf0, ze2, zl1, zf2, gE, fIO, zi3, dIs, zp4]
theorem wn9 {G : List D -> Option (D × List D)} {x0 : Option D} {b b' : D} {z : Str} (q : G [b, .str z] = some (.non, [b', .str z])) : zc0 (fIO [.io 1, .im (za1 2)] G) [x0, some b, some (.str z)] = some (.nx, [x0, some b', some (.str z)]) := by
  simp [za9, za7, zb1, za5, fIf, za4, fB, f2, za1, fC, zb3, zb4, zc0, zd2, zb8, ze3, za0, za2, zc3, za3, dEq, eqB, dB, dIx, zb9, D.imm, D.imms, zc1, dGt, za8, zd6, zd9, zd8, ze1, zi4, zf9, zf0, ze2, zl1, zf2, gE, fIO, zi3, dIs, zp4, q]
theorem xm1 {x0 : Option D} : ∀ (ts : List Tk) (n : Nat) (fs fs' : List Fm) (x2 : Option D), (∀ t ∈ ts, yb5 t) -> ya7 ts n fs fs' -> ∃ y2, zm2 2 (zc0 (fIO [.io 1, .im (za1 2)] gAW)) (zd1 ts) [x0, some (zd5 n fs), x2] = some (.nx, [x0, some (zd5 (n + ts.length) fs'), y2])
  | [], n, fs, fs', x2, _, h => by cases h; exact ⟨x2, rfl⟩
  | t :: ts, n, fs, fs', x2, hk, ⟨g, q, h⟩ => by
    obtain ⟨y2, q2⟩ := xm1 (x0 := x0) ts (n + 1) g fs' (some (.str (zj5 t))) (fun t' ht => hk t' (List.mem_cons_of_mem _ ht)) h
    refine ⟨y2, ?_⟩
    rw [yf3, zm2]
    show (zc0 (fIO [.io 1, .im (za1 2)] gAW) [x0, some (zd5 n fs), some (.str (zj5 t))]).bind _ = _
    rw [wn9 (wx0 (hk t List.mem_cons_self) q), Option.bind_some]
    show zm2 2 _ (zd1 ts) [x0, some (zd5 (n + 1) g), some (.str (zj5 t))] = _
    rw [q2, List.length_cons]
    rw [show n + 1 + ts.length = n + (ts.length + 1) by omega]
noncomputable abbrev yz9 : List D -> Option D := gP 1 0 yb9
noncomputable abbrev xa0 : List D -> Option D := gP 1 0 (zw4 yz9)
theorem wd8 (n : Nat) (f : Fm) : yz9 [zd5 n [f]] = some (.tup (zd4 f.parts)) := by
  refine zo9 rfl (p := [some (zd5 n [f])]) (zn7 (zf8 (ds := [.lst true (zd4 f.parts)]) (zc8 ?_ rfl) (by simp [za9, za7, zb1, za5, fIf, za4, fB, f2, za1, fC, zb3, zb4, zc0, zd2, zb8, ze3, za0, za2, zc3, za3, dEq, eqB, dB, dIx, zb9, D.imm, D.imms, zc1, dGt, za8, zd6, zd9, zd8, ze1, zi4, zf9, zf0, ze2, zl1, zf2, gE, fIO, zi3, dIs, zp4, zn6])))
  simp [za9, za7, zb1, za5, fIf, za4, fB, f2, za1, fC, zb3, zb4, zc0, zd2, zb8, ze3, za0, za2, zc3, za3, dEq, eqB, dB, dIx, zb9, D.imm, D.imms, zc1, dGt, za8, zd6, zd9, zd8, ze1, zi4, zf9, zf0, ze2, zl1, zf2, gE, fIO, zi3, dIs, zp4, zd5, zn8, zi9]
theorem xm2 (n : Nat) (f : Fm) : xa0 [zd5 n [f]] = some (.tup (zd4 f.parts)) := by
  have q := wd8 n f
  show gP 1 0 (zw4 yz9) _ = _
  generalize yz9 = G at q
  have s1 : fIf (za4 (fB (f2 dGt (za3 zb9 (za0 (zf9 "Builder" "nests" (za1 0)) za2)) (fC (.int 1))))) yd1 za7 [some (zd5 n [f])] = some (.nx, [some (zd5 n [f])]) := by
    simp [za9, za7, zb1, za5, fIf, za4, fB, f2, za1, fC, zb3, zb4, zc0, zd2, zb8, ze3, za0, za2, zc3, za3, dEq, eqB, dB, dIx, zb9, D.imm, D.imms, zc1, dGt, za8, zd6, zd9, zd8, ze1, zi4, zf9, zf0, ze2, zl1, zf2, gE, fIO, zi3, dIs, zp4, zd5, zn8]
  exact zo9 rfl ((zb2 s1).trans (zn7 (zf8 (zc8 (d := zd5 n [f]) (by simp [za9, za7, zb1, za5, fIf, za4, fB, f2, za1, fC, zb3, zb4, zc0, zd2, zb8, ze3, za0, za2, zc3, za3, dEq, eqB, dB, dIx, zb9, D.imm, D.imms, zc1, dGt, za8, zd6, zd9, zd8, ze1, zi4, zf9, zf0, ze2, zl1, zf2, gE, fIO, zi3, dIs, zp4, zd5]) rfl) q)))
noncomputable abbrev xa1 : List D -> Option D := gP 1 0 yp0
theorem xw1 {t : Tk} (h : yb5 t) : 32 ∉ (zj5 t).cps.toList := by
  have fixed : ∀ s : String, (Str.ofString s).cps.toList.all (fun c => decide (c ≠ 32)) = true -> 32 ∉ (Str.ofString s).cps.toList := fun s hs hm => by
    have := List.all_eq_true.mp hs 32 hm
    simp [za9, za7, zb1, za5, fIf, za4, fB, f2, za1, fC, zb3, zb4, zc0, zd2, zb8, ze3, za0, za2, zc3, za3, dEq, eqB, dB, dIx, zb9, D.imm, D.imms, zc1, dGt, za8, zd6, zd9, zd8, ze1, zi4, zf9, zf0, ze2, zl1, zf2, gE, fIO, zi3, dIs, zp4] at this
  have num : ∀ i : Int, 0 <= i -> i <= 40 -> 32 ∉ (iS i).cps.toList := fun i h0 h1 => by
    have key : ∀ a : Fin 41, (iS (a.val : Int)).cps.toList.all (fun c => decide (c ≠ 32)) = true := by decide +kernel
    have := key ⟨i.toNat, by omega⟩
    rw [show ((i.toNat : Nat) : Int) = i by omega] at this
    intro hm
    have := List.all_eq_true.mp this 32 hm
    simp [za9, za7, zb1, za5, fIf, za4, fB, f2, za1, fC, zb3, zb4, zc0, zd2, zb8, ze3, za0, za2, zc3, za3, dEq, eqB, dB, dIx, zb9, D.imm, D.imms, zc1, dGt, za8, zd6, zd9, zd8, ze1, zi4, zf9, zf0, ze2, zl1, zf2, gE, fIO, zi3, dIs, zp4] at this
  cases t with
  | leaf l =>
    cases l with
    | word x =>
      have h' : yf9 x := h
      show 32 ∉ (("'" : Str) ++ x).cps.toList
      rw [zt2]
      intro hm
      rcases List.mem_append.mp hm with hm | hm
      . exact fixed "'" (by decide +kernel) hm
      . have := List.all_eq_true.mp h'.2.2 32 hm
        simp [za9, za7, zb1, za5, fIf, za4, fB, f2, za1, fC, zb3, zb4, zc0, zd2, zb8, ze3, za0, za2, zc3, za3, dEq, eqB, dB, dIx, zb9, D.imm, D.imms, zc1, dGt, za8, zd6, zd9, zd8, ze1, zi4, zf9, zf0, ze2, zl1, zf2, gE, fIO, zi3, dIs, zp4, yh1] at this
    | gap x =>
      show 32 ∉ (if x = "" then ("." : Str) else "_").cps.toList
      split
      . exact fixed "." (by decide +kernel)
      . exact fixed "_" (by decide +kernel)
    | stop c =>
      have h' : 0 <= c /\ c <= 40 := h
      show 32 ∉ (("\x40" : Str) ++ iS c).cps.toList
      rw [zt2]
      exact fun hm => (List.mem_append.mp hm).elim (fixed "\x40" (by decide +kernel)) (num c h'.1 h'.2)
    | fin => exact fixed "/" (by decide +kernel)
  | hng n =>
    have h' : 0 <= n /\ n <= 12 := h
    show 32 ∉ ((">" : Str) ++ iS n).cps.toList
    rw [zt2]
    exact fun hm => (List.mem_append.mp hm).elim (fixed ">" (by decide +kernel)) (num n h'.1 (by omega))
  | opn => exact fixed "[" (by decide +kernel)
  | cls => exact fixed "]" (by decide +kernel)
  | bck => exact fixed "<" (by decide +kernel)
  | eit => exact fixed "{" (by decide +kernel)
  | orr => exact fixed "|" (by decide +kernel)
  | don => exact fixed "}" (by decide +kernel)
theorem xm3 {t : Tk} (h : yb5 t) : 1 <= (zj5 t).length := by
  cases t with
  | leaf l =>
    cases l with
    | word x => show 1 <= (("'" : Str) ++ x).length; rw [zj1]; show 1 <= 1 + _; omega
    | gap x => show 1 <= (if x = "" then (".": Str) else "_").length; split <;> decide +kernel
    | stop c => show 1 <= (("\x40" : Str) ++ iS c).length; rw [zj1]; show 1 <= 1 + _; omega
    | fin => decide +kernel
  | hng n => show 1 <= ((">" : Str) ++ iS n).length; rw [zj1]; show 1 <= 1 + _; omega
  | _ => decide +kernel
noncomputable def zn0 (ts : List Tk) : Str := Txt.join " " (ts.map zj5)
theorem xe6 : ∀ ts : List Tk, (∀ t ∈ ts, yb5 t) -> (zn0 ts).length <= 14 * ts.length /\ (ts ≠ [] -> 1 <= (zn0 ts).length)
  | [], _ => ⟨by decide +kernel, fun h => absurd rfl h⟩
  | [t], h => by
    have h1 := yv8 (h t List.mem_cons_self); have h2 := xm3 (h t List.mem_cons_self)
    have e : zn0 [t] = zj5 t := rfl
    rw [e]; exact ⟨by simp; omega, fun _ => h2⟩
  | t :: t2 :: ts, h => by
    obtain ⟨ih, _⟩ := xe6 (t2 :: ts) fun t' ht => h t' (List.mem_cons_of_mem _ ht)
    have h1 := yv8 (h t List.mem_cons_self); have h2 := xm3 (h t List.mem_cons_self)
    have e : zn0 (t :: t2 :: ts) = (zj5 t ++ " ") ++ zn0 (t2 :: ts) := by
      unfold zn0 Txt.join
      rw [StrLaws.glued_eq_join, StrLaws.glued_eq_join]; rfl
    rw [e, zj1, zj1]
    have : ((" " : Str)).length = 1 := rfl
    simp only [List.length_cons] at ih |-
    exact ⟨by omega, fun _ => by omega⟩
theorem wh9 {ts : List Tk} (h : ∀ t ∈ ts, yb5 t) (hl : ts.length <= 900) : xa1 [.str (zn0 ts)] = some (.lst true (zd1 ts)) := by
  obtain ⟨l1, l2⟩ := xe6 ts h
  cases ts with
  | nil =>
    have e : zn0 [] = "" := rfl
    rw [e]
    refine zo9 rfl (p := [some (.str "")]) (zu2 ((zz8 (p' := [some (.str "")]) (by simp [za9, za7, zb1, za5, fIf, za4, fB, f2, za1, fC, zb3, zb4, zc0, zd2, zb8, ze3, za0, za2, zc3, za3, dEq, eqB, dB, dIx, zb9, D.imm, D.imms, zc1, dGt, za8, zd6, zd9, zd8, ze1, zi4, zf9, zf0, ze2, zl1, zf2, gE, fIO, zi3, dIs, zp4])).trans (zn7 ?_)))
    rfl
  | cons t ts =>
    have hne : ¬ zn0 (t :: ts) = Str.ofString "" := fun z => by
      have := l2 (by simp [za9, za7, zb1, za5, fIf, za4, fB, f2, za1, fC, zb3, zb4, zc0, zd2, zb8, ze3, za0, za2, zc3, za3, dEq, eqB, dB, dIx, zb9, D.imm, D.imms, zc1, dGt, za8, zd6, zd9, zd8, ze1, zi4, zf9, zf0, ze2, zl1, zf2, gE, fIO, zi3, dIs, zp4])
      rw [z] at this
      exact absurd this (by decide +kernel)
    have hs : Txt.split (zn0 (t :: ts)) " " = (t :: ts).map zj5 := by
      unfold zn0
      rw [wh1]
      exact xu9 (by simp [za9, za7, zb1, za5, fIf, za4, fB, f2, za1, fC, zb3, zb4, zc0, zd2, zb8, ze3, za0, za2, zc3, za3, dEq, eqB, dB, dIx, zb9, D.imm, D.imms, zc1, dGt, za8, zd6, zd9, zd8, ze1, zi4, zf9, zf0, ze2, zl1, zf2, gE, fIO, zi3, dIs, zp4]) fun p hp => by
        obtain ⟨t', ht', rfl⟩ := List.mem_map.mp hp
        exact xw1 (h t' ht')
    refine zo9 rfl (p := [some (.str (zn0 (t :: ts)))]) ((zb2 ((zq8 (p' := [some (.str (zn0 (t :: ts)))]) (by simp [za9, za7, zb1, za5, fIf, za4, fB, f2, za1, fC, zb3, zb4, zc0, zd2, zb8, ze3, za0, za2, zc3, za3, dEq, eqB, dB, dIx, zb9, D.imm, D.imms, zc1, dGt, za8, zd6, zd9, zd8, ze1, zi4, zf9, zf0, ze2, zl1, zf2, gE, fIO, zi3, dIs, zp4, hne])).trans rfl)).trans (zn7 ?_))
    show (if wk0 (.str (zn0 (t :: ts))) = true then ym3 (.str (zn0 (t :: ts))) [.str " "] else none) = _
    refine (if_pos rfl).trans ?_
    rw [ym3, if_pos ⟨rfl, by simp only [List.length_cons] at l1 hl; omega⟩, hs]
    rfl
noncomputable abbrev wk5 : List D -> Option D := gP 1 2 (yr1 yz5 xa1 gAW xa0)
theorem xr8 {r : List Pc} (hok : okR r) (hn : (zc6 r).length <= 200) (hd : zj3 r <= 12) : wk5 [.str (zn0 (zc6 r))] = some (.tup (zd4 r)) := by
  have hk := yi6 r hok
  have ha := ys5 r yb3 [] 0 hok (by omega) (by simpa using hd) (by simp [za9, za7, zb1, za5, fIf, za4, fB, f2, za1, fC, zb3, zb4, zc0, zd2, zb8, ze3, za0, za2, zc3, za3, dEq, eqB, dB, dIx, zb9, D.imm, D.imms, zc1, dGt, za8, zd6, zd9, zd8, ze1, zi4, zf9, zf0, ze2, zl1, zf2, gE, fIO, zi3, dIs, zp4, yb3])
  obtain ⟨y2, q⟩ := xm1 (x0 := some (.str (zn0 (zc6 r)))) (zc6 r) 0 [yb3] [zr7 yb3 r] none hk ha
  have qp := wh9 hk (by omega)
  have qw := xm2 (0 + (zc6 r).length) (zr7 yb3 r)
  have qb := ws9
  show gP 1 2 (yr1 yz5 xa1 gAW xa0) _ = _
  generalize gAW = GA at q |-
  generalize xa0 = GW at qw
  generalize yz5 = GB at qb
  generalize xa1 = GP at qp
  have s1 : zb1 1 (za5 (zh9 "Builder" za2 GB)) [some (.str (zn0 (zc6 r))), none, none] = some (.nx, [some (.str (zn0 (zc6 r))), some (zd5 0 [yb3]), none]) := by
    refine zm4 ?_
    unfold zh9
    show ((GB [.obj true "Builder" [] []]).bind _) = _
    rw [qb]; rfl
  have s2 : zl6 2 (zw3 (za3 GP (za0 (za1 0) za2))) (zc0 (fIO [.io 1, .im (za1 2)] GA)) [some (.str (zn0 (zc6 r))), some (zd5 0 [yb3]), none] = some (.nx, [some (.str (zn0 (zc6 r))), some (zd5 (0 + (zc6 r).length) [zr7 yb3 r]), y2]) := by
    have e1 : zw3 (za3 GP (za0 (za1 0) za2)) [some (.str (zn0 (zc6 r))), some (zd5 0 [yb3]), none] = some (zd1 (zc6 r)) := by
      unfold zw3
      rw [zf8 (ds := [.str (zn0 (zc6 r))]) rfl qp]
      show (if D.imms (zd1 (zc6 r)) = true then some (zd1 (zc6 r)) else none) = _
      rw [if_pos (zv6 _)]
    unfold zl6
    rw [e1]; exact q
  have s3 : za3 GW (za0 (zf0 "Builder" "whole_row" (za1 1)) za2) [some (.str (zn0 (zc6 r))), some (zd5 (0 + (zc6 r).length) [zr7 yb3 r]), y2] = some (.tup (zd4 r)) := by
    have e : (zr7 yb3 r).parts = r := by simp [za9, za7, zb1, za5, fIf, za4, fB, f2, za1, fC, zb3, zb4, zc0, zd2, zb8, ze3, za0, za2, zc3, za3, dEq, eqB, dB, dIx, zb9, D.imm, D.imms, zc1, dGt, za8, zd6, zd9, zd8, ze1, zi4, zf9, zf0, ze2, zl1, zf2, gE, fIO, zi3, dIs, zp4, zr7, yb3]
    rw [e] at qw
    exact zf8 (zc8 (d := zd5 (0 + (zc6 r).length) [zr7 yb3 r]) (by simp [za9, za7, zb1, za5, fIf, za4, fB, f2, za1, fC, zb3, zb4, zc0, zd2, zb8, ze3, za0, za2, zc3, za3, dEq, eqB, dB, dIx, zb9, D.imm, D.imms, zc1, dGt, za8, zd6, zd9, zd8, ze1, zi4, zf9, zf0, ze2, zl1, zf2, gE, fIO, zi3, dIs, zp4, zd5]) rfl) qw
  exact zo9 rfl ((zb2 s1).trans ((zb2 s2).trans (zn7 s3)))
end My
namespace My
open PySem PySem.Spec PyProof.Rows L2 L3
theorem xm4 {m : Int} : ∀ (l : List Int) (w : Str) (x2 x4 : Option D), (∀ j ∈ l, 0 <= j /\ j < 100) -> w.length + l.length <= 100 -> w.cps.toList.all yh1 = true ->
    ∃ w' x4', zm2 4 (zb1 3 (za5 (f2 zc2 (za1 3) (f2 dIx (za1 1) (f2 zl5 (f2 zc2 (f2 zs5 (za1 0) (fC (.int 12))) (f2 yd0 (za1 4) (f2 zl5 (f2 zs5 (za1 0) (fC (.int 9000))) (fC (.int 93))))) (fC (.int 93))))))) (l.map .int) [some (.int m), some (.str sg), x2, some (.str w), x4]
      = some (.nx, [some (.int m), some (.str sg), x2, some (.str w'), x4']) /\ w'.length = w.length + l.length /\ w'.cps.toList.all yh1 = true
  | [], w, x2, x4, _, _, hw => ⟨w, x4, by simp [gP, za9, za7, zb1, za5, fIf, za4, fB, f2, za1, fC, zb3, zb4, zj9, za0, za2, zc3, zd3, fKs, za3, dEq, dNe, eqB, dB, dIx, zb9, zl6, zm6, D.imm, D.imms, zc1, zc2, yd0, fT, zc9, za8, zd6, zd9, zd8, dLt, dLe, dGt, dGe, zg2, zg3, zk9, ya3, D.flat, zy5, zm2], rfl, hw⟩
  | j :: l, w, x2, x4, hj, hl, hw => by
    rw [List.length_cons] at hl
    have hj0 := hj j List.mem_cons_self
    obtain ⟨c, hc, hg⟩ := ww5 ((m / 12 + j * (m / 9000 % 93)) % 93) (Int.emod_nonneg _ (by decide)) (Int.emod_lt_of_pos _ (by decide))
    have hw1 : (w ++ (⟨#[c]⟩ : Str)).length = w.length + 1 := by rw [zj1]; rfl
    obtain ⟨w', x4', q1, q2, q3⟩ := xm4 (m := m) l (w ++ ⟨#[c]⟩) x2 (some (.int j)) (fun i hi => hj i (List.mem_cons_of_mem _ hi)) (by rw [hw1]; omega) (by rw [zt2, List.all_append, hw]; simp [gP, za9, za7, zb1, za5, fIf, za4, fB, f2, za1, fC, zb3, zb4, zj9, za0, za2, zc3, zd3, fKs, za3, dEq, dNe, eqB, dB, dIx, zb9, zl6, zm6, D.imm, D.imms, zc1, zc2, yd0, fT, zc9, za8, zd6, zd9, zd8, dLt, dLe, dGt, dGe, zg2, zg3, zk9, ya3, D.flat, zy5, hg])
    refine ⟨w', x4', ?_, by rw [q2, hw1, List.length_cons]; omega, q3⟩
    rw [<- q1]
    have hz : w.length + (⟨#[c]⟩ : Str).length <= sizeLine := sz (by show w.length + 1 <= 1000; omega)
    have b1 : (-18446744073709551616 < j /\ j < 18446744073709551616) := by omega
    simp [gP, za9, za7, zb1, za5, fIf, za4, fB, f2, za1, fC, zb3, zb4, zj9, za0, za2, zc3, zd3, fKs, za3, dEq, dNe, eqB, dB, dIx, zb9, zl6, zm6, D.imm, D.imms, zc1, zc2, yd0, fT, zc9, za8, zd6, zd9, zd8, dLt, dLe, dGt, dGe, zg2, zg3, zk9, ya3, D.flat, zy5, zm2, hc, wm9, hz, b1]
noncomputable abbrev xg3 : List D -> Option D := gP 1 4 yr2
theorem wo0 {m : Int} (hm : 0 <= m) : ∃ z, xg3 [.int m] = some (.str z) /\ yf9 z := by
  obtain ⟨s, hs, h1, h2⟩ := wn0 m
  obtain ⟨w, x4, q1, q2, q3⟩ := xm4 (m := m) ((List.range s.toNat).map fun (k : Nat) => (k : Int)) "" (some (.int s)) none
    (fun j hj => by obtain ⟨k, hk, rfl⟩ := List.mem_map.mp hj; have := List.mem_range.mp hk; omega) (by rw [List.length_map, List.length_range]; show 0 + _ <= 100; omega) (by decide +kernel)
  rw [<- yl7] at q1
  rw [List.length_map, List.length_range] at q2
  have q2' : w.length = s.toNat := by rw [q2]; show 0 + _ = _; omega
  refine ⟨w, ?_, by omega, by omega, q3⟩
  have hz : (Str.ofString "abcdefghijklmnopqrstuvwxyzABCDEFGHIJKLMNOPQRSTUVWXYZ0123456789").length + (Str.ofString "!\"#$&'()*+,-./:;<=>?\x40[\\]^_`{|}~").length <= sizeLine := by decide +kernel
  have e1 : Str.ofString "abcdefghijklmnopqrstuvwxyzABCDEFGHIJKLMNOPQRSTUVWXYZ0123456789" ++ Str.ofString "!\"#$&'()*+,-./:;<=>?\x40[\\]^_`{|}~" = sg := rfl
  have b1 : (-4611686018427387904 <= s /\ s < 4611686018427387904) := by omega
  simp [gP, za9, za7, zb1, za5, fIf, za4, fB, f2, za1, fC, zb3, zb4, zj9, za0, za2, zc3, zd3, fKs, za3, dEq, dNe, eqB, dB, dIx, zb9, zl6, zm6, D.imm, D.imms, zc1, zc2, yd0, fT, zc9, za8, zd6, zd9, zd8, dLt, dLe, dGt, dGe, zg2, zg3, zk9, ya3, D.flat, zy5, yr2, hz, e1, hs, q1, b1]
noncomputable abbrev xa2 : List D -> Option D := gP 1 2 (zv7 xg3)
theorem wt9 (k : Int) : ∃ x : Str, atI [D.str (Str.ofString "["), .str (Str.ofString "]"), .str (Str.ofString "{"), .str (Str.ofString "|"), .str (Str.ofString "}"), .str (Str.ofString "<"), .str (Str.ofString ">3"), .str (Str.ofString "\x407"), .str (Str.ofString "_"), .str (Str.ofString "."), .str (Str.ofString "/"), .str (Str.ofString "'"), .str (Str.ofString "''"), .str (Str.ofString "'[")] (k % 14) = some (.str x) /\ yf9 x := by
  have h0 := Int.emod_nonneg k (show (14 : Int) ≠ 0 by decide)
  have h1 := Int.emod_lt_of_pos k (show (0 : Int) < 14 by decide)
  obtain ⟨d, hd, e⟩ := ye1 [D.str (Str.ofString "["), .str (Str.ofString "]"), .str (Str.ofString "{"), .str (Str.ofString "|"), .str (Str.ofString "}"), .str (Str.ofString "<"), .str (Str.ofString ">3"), .str (Str.ofString "\x407"), .str (Str.ofString "_"), .str (Str.ofString "."), .str (Str.ofString "/"), .str (Str.ofString "'"), .str (Str.ofString "''"), .str (Str.ofString "'[")] (k % 14) h0 (by simpa using h1)
  simp only [List.mem_cons, List.not_mem_nil, or_false] at hd
  rcases hd with rfl | rfl | rfl | rfl | rfl | rfl | rfl | rfl | rfl | rfl | rfl | rfl | rfl | rfl <;> exact ⟨_, e, by decide +kernel, by decide +kernel, by decide +kernel⟩
theorem xr9 {m : Int} (hm : 0 <= m) : ∃ l, xa2 [.int m] = some (zk4 l) /\ zv1 l := by
  have hd : 0 <= m / 16 := Int.ediv_nonneg hm (by decide)
  by_cases c0 : m % 16 < 2
  . obtain ⟨x, q, hx⟩ := wt9 (m / 16)
    exact ⟨.word x, by simp [gP, za9, za7, zb1, za5, fIf, za4, fB, f2, za1, fC, zb3, zb4, zj9, za0, za2, zc3, zd3, fKs, za3, dEq, dNe, eqB, dB, dIx, zb9, zl6, zm6, D.imm, D.imms, zc1, zc2, yd0, fT, zc9, za8, zd6, zd9, zd8, dLt, dLe, dGt, dGe, zg2, zg3, zk9, ya3, D.flat, zy5, zv7, c0, q, zk4], hx⟩
  . by_cases c1 : m % 16 < 8
    . obtain ⟨z, q, hz⟩ := wo0 hd
      refine ⟨.word z, ?_, hz⟩
      show gP 1 2 (zv7 xg3) _ = _
      generalize xg3 = G at q
      simp [gP, za9, za7, zb1, za5, fIf, za4, fB, f2, za1, fC, zb3, zb4, zj9, za0, za2, zc3, zd3, fKs, za3, dEq, dNe, eqB, dB, dIx, zb9, zl6, zm6, D.imm, D.imms, zc1, zc2, yd0, fT, zc9, za8, zd6, zd9, zd8, dLt, dLe, dGt, dGe, zg2, zg3, zk9, ya3, D.flat, zy5, zv7, c0, c1, q, zk4]
    . by_cases c2 : m % 16 < 13
      . obtain ⟨x, q, hx⟩ := ws6 (m / 16)
        exact ⟨.gap x, by simp [gP, za9, za7, zb1, za5, fIf, za4, fB, f2, za1, fC, zb3, zb4, zj9, za0, za2, zc3, zd3, fKs, za3, dEq, dNe, eqB, dB, dIx, zb9, zl6, zm6, D.imm, D.imms, zc1, zc2, yd0, fT, zc9, za8, zd6, zd9, zd8, dLt, dLe, dGt, dGe, zg2, zg3, zk9, ya3, D.flat, zy5, zv7, c0, c1, c2, q, zk4], hx⟩
      . by_cases c3 : m % 16 = 13
        . exact ⟨.fin, by simp [gP, za9, za7, zb1, za5, fIf, za4, fB, f2, za1, fC, zb3, zb4, zj9, za0, za2, zc3, zd3, fKs, za3, dEq, dNe, eqB, dB, dIx, zb9, zl6, zm6, D.imm, D.imms, zc1, zc2, yd0, fT, zc9, za8, zd6, zd9, zd8, dLt, dLe, dGt, dGe, zg2, zg3, zk9, ya3, D.flat, zy5, zv7, c0, c1, c2, c3, zk4], trivial⟩
        . have ha := Int.emod_nonneg (m / 16 / 2) (show (10 : Int) ≠ 0 by decide)
          have hb := Int.emod_lt_of_pos (m / 16 / 2) (show (0 : Int) < 10 by decide)
          have hc := Int.emod_nonneg (m / 16 / 2) (show (41 : Int) ≠ 0 by decide)
          have hd := Int.emod_lt_of_pos (m / 16 / 2) (show (0 : Int) < 41 by decide)
          obtain ⟨c, q, h1, h2⟩ := wn1 (m / 16 / 2 % 10) (m / 16 / 2 % 41) (m / 16) (by omega) (by omega)
          exact ⟨.stop c, by simp [gP, za9, za7, zb1, za5, fIf, za4, fB, f2, za1, fC, zb3, zb4, zj9, za0, za2, zc3, zd3, fKs, za3, dEq, dNe, eqB, dB, dIx, zb9, zl6, zm6, D.imm, D.imms, zc1, zc2, yd0, fT, zc9, za8, zd6, zd9, zd8, dLt, dLe, dGt, dGe, zg2, zg3, zk9, ya3, D.flat, zy5, zv7, c0, c1, c2, c3, q, zk4], h1, h2⟩
end My
namespace My
open PySem PySem.Spec PyProof.Rows L2 L3
theorem yt7 {GM GL : List D -> Option D} {S : D} (hL : ∀ m, 0 <= m -> ∃ l, GL [.int m] = some (zk4 l) /\ zv1 l) {s : Int} : ∀ (l : List Int), (∀ j ∈ l, ∃ m, GM [S, .int j, .int s] = some (.int m) /\ 0 <= m) ->
    ∃ ls : List Leaf, zx5 [none, some S] ye5 (za3 GL (za0 (za3 GM (za0 (za1 1) (za0 (za1 0) (za0 (fC (.int s)) za2)))) za2)) (l.map .int) = some (ls.map zk4) /\ ls.length = l.length /\ ∀ x ∈ ls, zv1 x
  | [], _ => ⟨[], rfl, rfl, fun x hx => absurd hx (by simp [za9, za7, zb1, za5, fIf, za4, fB, f2, za1, fC, zb3, zb4, zj9, za0, za2, zc3, zd3, fKs, za3, dEq, dNe, eqB, dB, dIx, zb9, zm6, D.imm, D.imms, zc1, zc2, fT, zc9, za8, zd6, zd9, zd8, zg2, zg3, zn9])⟩
  | j :: l, h => by
    obtain ⟨m, hm, hm0⟩ := h j List.mem_cons_self
    obtain ⟨x, hx, hxk⟩ := hL m hm0
    obtain ⟨ls, q, hl, hk⟩ := yt7 hL l fun i hi => h i (List.mem_cons_of_mem _ hi)
    refine ⟨x :: ls, ?_, by simp [za9, za7, zb1, za5, fIf, za4, fB, f2, za1, fC, zb3, zb4, zj9, za0, za2, zc3, zd3, fKs, za3, dEq, dNe, eqB, dB, dIx, zb9, zm6, D.imm, D.imms, zc1, zc2, fT, zc9, za8, zd6, zd9, zd8, zg2, zg3, zn9, hl], fun y hy => (List.mem_cons.mp hy).elim (fun e => e ▸ hxk) (hk y)⟩
    show zx5 [none, some S] ye5 _ (D.int j :: l.map .int) = _
    rw [zx5]
    simp [za9, za7, zb1, za5, fIf, za4, fB, f2, za1, fC, zb3, zb4, zj9, za0, za2, zc3, zd3, fKs, za3, dEq, dNe, eqB, dB, dIx, zb9, zm6, D.imm, D.imms, zc1, zc2, fT, zc9, za8, zd6, zd9, zd8, zg2, zg3, zn9, ye5, hm, hx, q]
theorem yy9 : ∀ ls : List Leaf, ls.map zk4 = zd4 (ls.map .leaf)
  | [] => rfl
  | l :: ls => by show zk4 l :: ls.map zk4 = zk4 l :: zd4 (ls.map .leaf); rw [yy9 ls]
theorem xe7 : ∀ ls : List Leaf, (∀ x ∈ ls, zv1 x) -> RowOk 0 ls.length (ls.map .leaf)
  | [], _ => ⟨trivial, Nat.le_refl _, Nat.le_refl _⟩
  | l :: ls, h => by
    obtain ⟨h1, h2, h3⟩ := xe7 ls fun x hx => h x (List.mem_cons_of_mem _ hx)
    exact ⟨⟨h l List.mem_cons_self, h1⟩, by show max 0 (zj3 (ls.map .leaf)) <= 0; omega, by show ([Tk.leaf l] ++ zc6 (ls.map .leaf)).length <= ls.length + 1; rw [List.length_append]; simp; omega⟩
theorem wx1 (n : Nat) : ∃ k : Nat, (if (40 : Int) < (n : Int) + 3 then (40 : Int) else (n : Int) + 3) = (k : Int) /\ k <= 40 := by
  by_cases c : (40 : Int) < (n : Int) + 3
  . exact ⟨40, by rw [if_pos c]; rfl, Nat.le_refl _⟩
  . exact ⟨n + 3, by rw [if_neg c]; push_cast; rfl, by omega⟩
noncomputable def yo8 (GM : List D -> Option D) : PSt -> Option (Fl × PSt) :=
   (za9 (zb1 4 (za5 (f2 zl5 (za3 GM (za0 (za1 0) (za0 (za1 3) (za0 (fC (.int 42)) za2)))) (fC (.int 4)))))
  (fIf (za4 (fB (f2 dEq (za1 4) (fC (.int 0)))))
   (zb1 2 (za5 (zd3 (za0 (zd3 (za0 (fC (.str "hang")) (za0 (f2 zl5 (za3 GM (za0 (za1 0) (za0 (za1 3) (za0 (fC (.int 43)) za2)))) (fC (.int 13))) (za0 (zb3 (za1 2)) za2)))) za2))))
   (fIf (za4 (fB (f2 dEq (za1 4) (fC (.int 1)))))
   (zb1 2 (za5 (zd3 (za0 (zd3 (za0 (fC (.str "either")) (za0 (zd3 (za0 (zb3 (za1 2)) (za0 (zd3 (za0 (zd3 (za0 (fC (.str "end")) za2)) za2)) za2))) za2))) za2))))
   (zb1 2 (za5 (zd3 (za0 (zd3 (za0 (fC (.str "group")) (za0 (zb3 (za1 2)) za2))) za2)))))))
section
variable {GM GL GR : List D -> Option D} {S : D} {x1 x4 : Option D}
theorem wo1 {r : List Pc} {j : Int} {d w : Nat} (hM : ∀ s : Int, 0 <= s -> s < 1000 -> ∃ m, GM [S, .int j, .int s] = some (.int m) /\ 0 <= m) (h : RowOk d w r) :
    ∃ r' y4, yo8 GM [some S, x1, some (.tup (zd4 r)), some (.int j), x4] = some (.nx, [some S, x1, some (.tup (zd4 r')), some (.int j), y4]) /\ RowOk (d + 1) (w + 4) r' := by
  obtain ⟨m, hm, hm0⟩ := hM 42 (by decide) (by decide)
  obtain ⟨m3, hm3, hm30⟩ := hM 43 (by decide) (by decide)
  obtain ⟨h1, h2, h3⟩ := h
  by_cases c0 : m % 4 = 0
  . refine ⟨[.hang (m3 % 13) r], some (.int 0), by simp [za9, za7, zb1, za5, fIf, za4, fB, f2, za1, fC, zb3, zb4, zj9, za0, za2, zc3, zd3, fKs, za3, dEq, dNe, eqB, dB, dIx, zb9, zm6, D.imm, D.imms, zc1, zc2, fT, zc9, za8, zd6, zd9, zd8, zg2, zg3, zn9, yo8, hm, hm3, c0, zn6, zd4, pcD], ?_⟩
    have a0 := Int.emod_nonneg m3 (show (13 : Int) ≠ 0 by decide)
    have a1 := Int.emod_lt_of_pos m3 (show (0 : Int) < 13 by decide)
    exact ⟨⟨⟨⟨a0, by omega⟩, h1⟩, trivial⟩, by show max (zj3 r + 1) 0 <= d + 1; omega, by simp [za9, za7, zb1, za5, fIf, za4, fB, f2, za1, fC, zb3, zb4, zj9, za0, za2, zc3, zd3, fKs, za3, dEq, dNe, eqB, dB, dIx, zb9, zm6, D.imm, D.imms, zc1, zc2, fT, zc9, za8, zd6, zd9, zd8, zg2, zg3, zn9, zc6, zh1]; omega⟩
  . by_cases c1 : m % 4 = 1
    . refine ⟨[.either [r, [.leaf .fin]]], some (.int 1), by simp [za9, za7, zb1, za5, fIf, za4, fB, f2, za1, fC, zb3, zb4, zj9, za0, za2, zc3, zd3, fKs, za3, dEq, dNe, eqB, dB, dIx, zb9, zm6, D.imm, D.imms, zc1, zc2, fT, zc9, za8, zd6, zd9, zd8, zg2, zg3, zn9, yo8, hm, c1, zn6, zd4, pcD, zg0, zk4], ?_⟩
      exact ⟨⟨⟨⟨by simp [za9, za7, zb1, za5, fIf, za4, fB, f2, za1, fC, zb3, zb4, zj9, za0, za2, zc3, zd3, fKs, za3, dEq, dNe, eqB, dB, dIx, zb9, zm6, D.imm, D.imms, zc1, zc2, fT, zc9, za8, zd6, zd9, zd8, zg2, zg3, zn9], by simp [za9, za7, zb1, za5, fIf, za4, fB, f2, za1, fC, zb3, zb4, zj9, za0, za2, zc3, zd3, fKs, za3, dEq, dNe, eqB, dB, dIx, zb9, zm6, D.imm, D.imms, zc1, zc2, fT, zc9, za8, zd6, zd9, zd8, zg2, zg3, zn9]⟩, h1, ⟨trivial, trivial⟩, trivial⟩, trivial⟩, by show max (max (zj3 r) (max (max 0 0) 0) + 1) 0 <= d + 1; omega, by simp [za9, za7, zb1, za5, fIf, za4, fB, f2, za1, fC, zb3, zb4, zj9, za0, za2, zc3, zd3, fKs, za3, dEq, dNe, eqB, dB, dIx, zb9, zm6, D.imm, D.imms, zc1, zc2, fT, zc9, za8, zd6, zd9, zd8, zg2, zg3, zn9, zc6, zh1, zr0, ze4]; omega⟩
    . refine ⟨[.group r], some (.int (m % 4)), by simp [za9, za7, zb1, za5, fIf, za4, fB, f2, za1, fC, zb3, zb4, zj9, za0, za2, zc3, zd3, fKs, za3, dEq, dNe, eqB, dB, dIx, zb9, zm6, D.imm, D.imms, zc1, zc2, fT, zc9, za8, zd6, zd9, zd8, zg2, zg3, zn9, yo8, hm, c0, c1, zn6, zd4, pcD], ?_⟩
      exact ⟨⟨h1, trivial⟩, by show max (zj3 r + 1) 0 <= d + 1; omega, by simp [za9, za7, zb1, za5, fIf, za4, fB, f2, za1, fC, zb3, zb4, zj9, za0, za2, zc3, zd3, fKs, za3, dEq, dNe, eqB, dB, dIx, zb9, zm6, D.imm, D.imms, zc1, zc2, fT, zc9, za8, zd6, zd9, zd8, zg2, zg3, zn9, zc6, zh1]; omega⟩
theorem xm5 : ∀ (l : List Int) (r : List Pc) (d w : Nat) (x3 x4 : Option D), (∀ j ∈ l, ∀ s : Int, 0 <= s -> s < 1000 -> ∃ m, GM [S, .int j, .int s] = some (.int m) /\ 0 <= m) -> RowOk d w r ->
    ∃ r' y3 y4, zm2 3 (yo8 GM) (l.map .int) [some S, x1, some (.tup (zd4 r)), x3, x4] = some (.nx, [some S, x1, some (.tup (zd4 r')), y3, y4]) /\ RowOk (d + l.length) (w + 4 * l.length) r'
  | [], r, d, w, x3, x4, _, h => ⟨r, x3, x4, by simp [za9, za7, zb1, za5, fIf, za4, fB, f2, za1, fC, zb3, zb4, zj9, za0, za2, zc3, zd3, fKs, za3, dEq, dNe, eqB, dB, dIx, zb9, zm6, D.imm, D.imms, zc1, zc2, fT, zc9, za8, zd6, zd9, zd8, zg2, zg3, zn9, zm2], h⟩
  | j :: l, r, d, w, x3, x4, hM, h => by
    obtain ⟨r1, y4, q1, h1⟩ := wo1 (x1 := x1) (x4 := x4) (hM j List.mem_cons_self) h
    obtain ⟨r2, z3, z4, q2, h2⟩ := xm5 l r1 (d + 1) (w + 4) (some (.int j)) y4 (fun i hi => hM i (List.mem_cons_of_mem _ hi)) h1
    refine ⟨r2, z3, z4, ?_, ?_⟩
    . rw [<- q2]
      show (yo8 GM [some S, x1, some (.tup (zd4 r)), some (.int j), x4]).bind _ = _
      rw [q1]; rfl
    . rw [List.length_cons]
      exact ⟨h2.ok, by have := h2.dep; omega, by have := h2.len; omega⟩
end
noncomputable abbrev wk6 (GM GL GR : List D -> Option D) : List D -> Option D := gP 1 4 (yg1 GM GL GR)
theorem wo2 {GM GL GR : List D -> Option D} {xs : List D} (hx : xs.length <= 63) (hL : ∀ m, 0 <= m -> ∃ l, GL [.int m] = some (zk4 l) /\ zv1 l) (hM : ∀ k s : Int, 0 <= k -> k < 1000 -> 0 <= s -> s < 1000 -> ∃ m, GM [.con xs, .int k, .int s] = some (.int m) /\ 0 <= m)
    (hR : ∀ many nest : Nat, many <= 40 -> nest <= 4 -> ∃ r, GR [.con xs, .int 0, .int many, .int nest] = some (.tup (zd4 r)) /\ RowOk nest (4 * many) r) :
    ∃ r, wk6 GM GL GR [.con xs] = some (.tup (zd4 r)) /\ RowOk 12 200 r := by
  obtain ⟨m, hm, hm0⟩ := hM 0 40 (by decide) (by decide) (by decide) (by decide)
  obtain ⟨k, hk, hk40⟩ := wx1 xs.length
  have s1 : zb1 1 (za5 (za3 GM (za0 (za1 0) (za0 (fC (.int 0)) (za0 (fC (.int 40)) za2))))) [some (.con xs), none, none, none, none] = some (.nx, [some (.con xs), some (.int m), none, none, none]) := zm4 (zf8 rfl hm)
  by_cases c1 : m % 8 = 1
  . have n0 := Int.emod_nonneg (m / 8) (show (141 : Int) ≠ 0 by decide)
    have n1 := Int.emod_lt_of_pos (m / 8) (show (0 : Int) < 141 by decide)
    obtain ⟨ls, q, hl, hlk⟩ := yt7 (S := .con xs) hL (s := 41) ((List.range (60 + m / 8 % 141).toNat).map fun (k : Nat) => (k : Int)) fun j hj => by
      obtain ⟨i, hi, rfl⟩ := List.mem_map.mp hj
      have := List.mem_range.mp hi
      exact hM _ 41 (by omega) (by omega) (by decide) (by decide)
    rw [<- yl7] at q
    rw [List.length_map, List.length_range] at hl
    have hrow := xe7 ls hlk
    refine ⟨ls.map .leaf, ?_, hrow.ok, by have := hrow.dep; omega, by have := hrow.len; omega⟩
    have er : zk9 (za0 (f2 zc2 (fC (.int 60)) (f2 zl5 (f2 zs5 (za1 1) (fC (.int 8))) (fC (.int 141)))) za2) [some (.con xs), some (.int m), none, none, none] = some (zt6 0 (60 + m / 8 % 141).toNat) := by
      have e1 : za0 (f2 zc2 (fC (.int 60)) (f2 zl5 (f2 zs5 (za1 1) (fC (.int 8))) (fC (.int 141)))) za2 [some (.con xs), some (.int m), none, none, none] = some [.int (60 + m / 8 % 141)] := by simp [za9, za7, zb1, za5, fIf, za4, fB, f2, za1, fC, zb3, zb4, zj9, za0, za2, zc3, zd3, fKs, za3, dEq, dNe, eqB, dB, dIx, zb9, zm6, D.imm, D.imms, zc1, zc2, fT, zc9, za8, zd6, zd9, zd8, zg2, zg3, zn9]
      unfold zk9
      rw [e1, Option.bind_some, yl8 (by omega) (by omega)]
    have ec : yj6 [none, some 0] (zk9 (za0 (f2 zc2 (fC (.int 60)) (f2 zl5 (f2 zs5 (za1 1) (fC (.int 8))) (fC (.int 141)))) za2)) ye5 (za3 GL (za0 (za3 GM (za0 (za1 1) (za0 (za1 0) (za0 (fC (.int 41)) za2)))) za2)) [some (.con xs), some (.int m), none, none, none] = some (.lst true (ls.map zk4)) := by
      unfold yj6
      rw [er, Option.bind_some, if_pos (by unfold zt6; rw [List.length_map, List.length_range]; exact sz (by omega))]
      show (zx5 [none, some (.con xs)] ye5 _ _).bind _ = _
      rw [q]; rfl
    have z : yg1 GM GL GR [some (.con xs), none, none, none, none] = some (.ret (.tup (zd4 (ls.map .leaf))), [some (.con xs), some (.int m), none, none, none]) := by
      refine (zb2 s1).trans (zu2 ((zz8 (p' := [some (.con xs), some (.int m), none, none, none]) (by simp [za9, za7, zb1, za5, fIf, za4, fB, f2, za1, fC, zb3, zb4, zj9, za0, za2, zc3, zd3, fKs, za3, dEq, dNe, eqB, dB, dIx, zb9, zm6, D.imm, D.imms, zc1, zc2, fT, zc9, za8, zd6, zd9, zd8, zg2, zg3, zn9, c1])).trans (zn7 (zf8 (zc8 ec rfl) ?_))))
      rw [yy9]; simp [za9, za7, zb1, za5, fIf, za4, fB, f2, za1, fC, zb3, zb4, zj9, za0, za2, zc3, zd3, fKs, za3, dEq, dNe, eqB, dB, dIx, zb9, zm6, D.imm, D.imms, zc1, zc2, fT, zc9, za8, zd6, zd9, zd8, zg2, zg3, zn9, zn6]
    exact zo9 rfl z
  . obtain ⟨r, qr, hr⟩ := hR k 3 hk40 (by decide)
    have s2 : zb1 2 (za5 (za3 GR (za0 (za1 0) (za0 (fC (.int 0)) (za0 (za3 zn9 (za0 (f2 zc2 (za3 zb9 (za0 (za1 0) za2)) (fC (.int 3))) (za0 (fC (.int 40)) za2))) (za0 (fC (.int 3)) za2)))))) [some (.con xs), some (.int m), none, none, none] = some (.nx, [some (.con xs), some (.int m), some (.tup (zd4 r)), none, none]) := by
      refine zm4 (zf8 (ds := [.con xs, .int 0, .int k, .int 3]) ?_ qr)
      rw [<- hk]; rfl
    by_cases c3 : m % 8 = 3
    . have n0 := Int.emod_nonneg (m / 8) (show (7 : Int) ≠ 0 by decide)
      have n1 := Int.emod_lt_of_pos (m / 8) (show (0 : Int) < 7 by decide)
      obtain ⟨r', y3, y4, q, hr'⟩ := xm5 (GM := GM) (S := .con xs) (x1 := some (.int m)) ((List.range (3 + m / 8 % 7).toNat).map fun (k : Nat) => (k : Int)) r 3 (4 * k) none none (fun j hj s hs hs1 => by
        obtain ⟨i, hi, rfl⟩ := List.mem_map.mp hj
        have := List.mem_range.mp hi
        exact hM _ s (by omega) (by omega) hs hs1) hr
      rw [<- yl7] at q
      rw [List.length_map, List.length_range] at hr'
      refine ⟨r', ?_, hr'.ok, by have := hr'.dep; omega, by have := hr'.len; omega⟩
      have er : zk9 (za0 (f2 zc2 (fC (.int 3)) (f2 zl5 (f2 zs5 (za1 1) (fC (.int 8))) (fC (.int 7)))) za2) [some (.con xs), some (.int m), some (.tup (zd4 r)), none, none] = some (zt6 0 (3 + m / 8 % 7).toNat) := by
        have e1 : za0 (f2 zc2 (fC (.int 3)) (f2 zl5 (f2 zs5 (za1 1) (fC (.int 8))) (fC (.int 7)))) za2 [some (.con xs), some (.int m), some (.tup (zd4 r)), none, none] = some [.int (3 + m / 8 % 7)] := by simp [za9, za7, zb1, za5, fIf, za4, fB, f2, za1, fC, zb3, zb4, zj9, za0, za2, zc3, zd3, fKs, za3, dEq, dNe, eqB, dB, dIx, zb9, zm6, D.imm, D.imms, zc1, zc2, fT, zc9, za8, zd6, zd9, zd8, zg2, zg3, zn9]
        unfold zk9
        rw [e1, Option.bind_some, yl8 (by omega) (by omega)]
      have s3 : zl6 3 (zk9 (za0 (f2 zc2 (fC (.int 3)) (f2 zl5 (f2 zs5 (za1 1) (fC (.int 8))) (fC (.int 7)))) za2)) (yo8 GM) [some (.con xs), some (.int m), some (.tup (zd4 r)), none, none] = some (.nx, [some (.con xs), some (.int m), some (.tup (zd4 r')), y3, y4]) := by
        unfold zl6; rw [er]; exact q
      have z : yg1 GM GL GR [some (.con xs), none, none, none, none] = some (.ret (.tup (zd4 r')), [some (.con xs), some (.int m), none, y3, y4]) := by
        refine (zb2 s1).trans ((zb2 ((zq8 (p' := [some (.con xs), some (.int m), none, none, none]) (by simp [za9, za7, zb1, za5, fIf, za4, fB, f2, za1, fC, zb3, zb4, zj9, za0, za2, zc3, zd3, fKs, za3, dEq, dNe, eqB, dB, dIx, zb9, zm6, D.imm, D.imms, zc1, zc2, fT, zc9, za8, zd6, zd9, zd8, zg2, zg3, zn9, c1])).trans rfl)).trans ((zb2 s2).trans ?_))
        exact (zb2 ((zz8 (p' := [some (.con xs), some (.int m), some (.tup (zd4 r)), none, none]) (by simp [za9, za7, zb1, za5, fIf, za4, fB, f2, za1, fC, zb3, zb4, zj9, za0, za2, zc3, zd3, fKs, za3, dEq, dNe, eqB, dB, dIx, zb9, zm6, D.imm, D.imms, zc1, zc2, fT, zc9, za8, zd6, zd9, zd8, zg2, zg3, zn9, c3])).trans s3)).trans rfl
      exact zo9 rfl z
    . refine ⟨r, ?_, hr.ok, by have := hr.dep; omega, by have := hr.len; omega⟩
      have z : yg1 GM GL GR [some (.con xs), none, none, none, none] = some (.ret (.tup (zd4 r)), [some (.con xs), some (.int m), none, none, none]) := by
        refine (zb2 s1).trans ((zb2 ((zq8 (p' := [some (.con xs), some (.int m), none, none, none]) (by simp [za9, za7, zb1, za5, fIf, za4, fB, f2, za1, fC, zb3, zb4, zj9, za0, za2, zc3, zd3, fKs, za3, dEq, dNe, eqB, dB, dIx, zb9, zm6, D.imm, D.imms, zc1, zc2, fT, zc9, za8, zd6, zd9, zd8, zg2, zg3, zn9, c1])).trans rfl)).trans ((zb2 s2).trans ?_))
        exact (zb2 ((zq8 (p' := [some (.con xs), some (.int m), some (.tup (zd4 r)), none, none]) (by simp [za9, za7, zb1, za5, fIf, za4, fB, f2, za1, fC, zb3, zb4, zj9, za0, za2, zc3, zd3, fKs, za3, dEq, dNe, eqB, dB, dIx, zb9, zm6, D.imm, D.imms, zc1, zc2, fT, zc9, za8, zd6, zd9, zd8, zg2, zg3, zn9, c3])).trans rfl)).trans rfl
      exact zo9 rfl z
end My
namespace My
open PySem PySem.Spec PyProof.Rows L2 L3
noncomputable def xa3 (G : List D -> Option D) : PSt -> Option (Fl × PSt) :=
   (fIf (za4 (zd7 (fT (za3 G (za0 (f2 dIx (za1 0) (za1 2)) (za0 (f2 dIx (za1 1) (za1 2)) za2))))))
   (zb4 (za5 (fC (.bl false))))
   za7)
theorem xm6 {G : List D -> Option D} {xs : List D} (hx : ∀ x ∈ xs, G [x, x] = some (.bl true)) : ∀ (l : List Int), (∀ j ∈ l, 0 <= j /\ j < xs.length) -> ∀ y, ∃ y',
    zm2 2 (xa3 G) (l.map .int) [some (.tup xs), some (.tup xs), y] = some (.nx, [some (.tup xs), some (.tup xs), y'])
  | [], _, y => ⟨y, rfl⟩
  | j :: l, h, y => by
    obtain ⟨h0, h1⟩ := h j List.mem_cons_self
    obtain ⟨x, hm, hv⟩ := ye1 xs j h0 h1
    obtain ⟨y', q⟩ := xm6 hx l (fun i hi => h i (List.mem_cons_of_mem _ hi)) (some (.int j))
    refine ⟨y', ?_⟩
    show (xa3 G [some (.tup xs), some (.tup xs), some (.int j)]).bind _ = _
    have s : xa3 G [some (.tup xs), some (.tup xs), some (.int j)] = some (.nx, [some (.tup xs), some (.tup xs), some (.int j)]) := by
      simp [za9, za7, zb1, za5, fIf, za4, fB, f2, za1, fC, zb4, za0, za2, za3, dEq, dNe, eqB, dB, dIx, zb9, fT, zc9, za8, ze5, zh4, zd7, zj8, dTy, zj4, zj7, zq3, xa3, hv, hx x hm]
    rw [s]
    exact q
noncomputable def zt9 : Nat -> List D -> Option D
  | 0 => fun _ => none
  | n + 1 => gP 2 1 (zz1 (zt9 n))
theorem yo1 (z : Str) (n : Nat) : zt9 (n + 1) [.str z, .str z] = some (.bl true) := by
  show gP 2 1 (zz1 (zt9 n)) _ = _
  generalize zt9 n = G
  simp [za9, za7, zb1, za5, fIf, za4, fB, f2, za1, fC, zb4, za0, za2, za3, dEq, dNe, eqB, dB, dIx, zb9, fT, zc9, za8, ze5, zh4, zd7, zj8, dTy, zj4, zj7, zq3, gP, zz1]
theorem xm7 (i : Int) (n : Nat) : zt9 (n + 1) [.int i, .int i] = some (.bl true) := by
  show gP 2 1 (zz1 (zt9 n)) _ = _
  generalize zt9 n = G
  simp [za9, za7, zb1, za5, fIf, za4, fB, f2, za1, fC, zb4, za0, za2, za3, dEq, dNe, eqB, dB, dIx, zb9, fT, zc9, za8, ze5, zh4, zd7, zj8, dTy, zj4, zj7, zq3, gP, zz1]
theorem zu3 {xs : List D} {n : Nat} (hx : ∀ x ∈ xs, zt9 n [x, x] = some (.bl true)) (hl : xs.length <= 1000) : zt9 (n + 1) [.tup xs, .tup xs] = some (.bl true) := by
  show gP 2 1 (zz1 (zt9 n)) _ = _
  generalize zt9 n = G at hx
  obtain ⟨y', q⟩ := xm6 hx ((List.range xs.length).map fun (k : Nat) => (k : Int)) (fun j hj => by obtain ⟨k, hk, rfl⟩ := List.mem_map.mp hj; have := List.mem_range.mp hk; omega) none
  rw [<- yl7] at q
  have c0 : za4 (fT (za3 zj8 (za0 (za1 1) (za0 (fC (.ty "tuple")) za2)))) [some (.tup xs), some (.tup xs), none] = some (true, [some (.tup xs), some (.tup xs), none]) := by simp [za9, za7, zb1, za5, fIf, za4, fB, f2, za1, fC, zb4, za0, za2, za3, dEq, dNe, eqB, dB, dIx, zb9, fT, zc9, za8, ze5, zh4, zd7, zj8, dTy, zj4, zj7, zq3]
  have s1 : fIf (za4 (zh4 (zd7 (fT (za3 zj8 (za0 (za1 0) (za0 (fC (.ty "tuple")) za2))))) (fB (f2 dNe (za3 zb9 (za0 (za1 0) za2)) (za3 zb9 (za0 (za1 1) za2)))))) (zb4 (za5 (fC (.bl false)))) za7 [some (.tup xs), some (.tup xs), none] = some (.nx, [some (.tup xs), some (.tup xs), none]) := by simp [za9, za7, zb1, za5, fIf, za4, fB, f2, za1, fC, zb4, za0, za2, za3, dEq, dNe, eqB, dB, dIx, zb9, fT, zc9, za8, ze5, zh4, zd7, zj8, dTy, zj4, zj7, zq3]
  have er : zk9 (za0 (za3 zb9 (za0 (za1 1) za2)) za2) [some (.tup xs), some (.tup xs), none] = some (zt6 0 xs.length) := by
    have e1 : za0 (za3 zb9 (za0 (za1 1) za2)) za2 [some (.tup xs), some (.tup xs), none] = some [.int xs.length] := by simp [za9, za7, zb1, za5, fIf, za4, fB, f2, za1, fC, zb4, za0, za2, za3, dEq, dNe, eqB, dB, dIx, zb9, fT, zc9, za8, ze5, zh4, zd7, zj8, dTy, zj4, zj7, zq3]
    unfold zk9
    rw [e1, Option.bind_some, yl8 (by omega) (by omega)]; rfl
  have s2 : zl6 2 (zk9 (za0 (za3 zb9 (za0 (za1 1) za2)) za2)) (xa3 G) [some (.tup xs), some (.tup xs), none] = some (.nx, [some (.tup xs), some (.tup xs), y']) := by
    unfold zl6; rw [er]; exact q
  exact zo9 rfl (zu2 ((zz8 c0).trans ((zb2 s1).trans ((zb2 s2).trans (zn7 rfl)))))
theorem wd9 (l : Leaf) (n : Nat) : zt9 (n + 2) [zk4 l, zk4 l] = some (.bl true) := by
  cases l <;> refine zu3 (fun x hx => ?_) (by simp [za9, za7, zb1, za5, fIf, za4, fB, f2, za1, fC, zb4, za0, za2, za3, dEq, dNe, eqB, dB, dIx, zb9, fT, zc9, za8, ze5, zh4, zd7, zj8, dTy, zj4, zj7, zq3]) <;> simp [za9, za7, zb1, za5, fIf, za4, fB, f2, za1, fC, zb4, za0, za2, za3, dEq, dNe, eqB, dB, dIx, zb9, fT, zc9, za8, ze5, zh4, zd7, zj8, dTy, zj4, zj7, zq3] at hx <;> (try rcases hx with rfl | rfl) <;> (try subst hx) <;> first | exact yo1 _ n | exact xm7 _ n
theorem ys6 {r : List Pc} (h : (zc6 r).length <= 900) : (zd4 r).length <= 1000 := by rw [ye0]; have := yo0 r; omega
mutual
theorem wu0 : ∀ (p : Pc) (n : Nat), 3 * yb4 p + 2 <= n -> (zh1 p).length <= 900 -> zt9 n [pcD p, pcD p] = some (.bl true)
  | .leaf l, n, h, _ => by
    obtain ⟨m, rfl⟩ : ∃ m, n = m + 2 := ⟨n - 2, by have : 3 * 0 + 2 <= n := h; omega⟩
    exact wd9 l m
  | .group r, n, h, hl => by
    have h' : 3 * (zj3 r + 1) + 2 <= n := h
    obtain ⟨m, rfl⟩ : ∃ m, n = m + 2 := ⟨n - 2, by omega⟩
    have e : (zh1 (.group r)).length = (zc6 r).length + 2 := by simp [za9, za7, zb1, za5, fIf, za4, fB, f2, za1, fC, zb4, za0, za2, za3, dEq, dNe, eqB, dB, dIx, zb9, fT, zc9, za8, ze5, zh4, zd7, zj8, dTy, zj4, zj7, zq3, zh1]
    refine zu3 (fun x hx => ?_) (by simp [za9, za7, zb1, za5, fIf, za4, fB, f2, za1, fC, zb4, za0, za2, za3, dEq, dNe, eqB, dB, dIx, zb9, fT, zc9, za8, ze5, zh4, zd7, zj8, dTy, zj4, zj7, zq3])
    simp [za9, za7, zb1, za5, fIf, za4, fB, f2, za1, fC, zb4, za0, za2, za3, dEq, dNe, eqB, dB, dIx, zb9, fT, zc9, za8, ze5, zh4, zd7, zj8, dTy, zj4, zj7, zq3] at hx
    rcases hx with rfl | rfl
    . exact yo1 _ m
    . exact zu3 (yq8 r m (by omega) (by omega)) (ys6 (by omega))
  | .hang k r, n, h, hl => by
    have h' : 3 * (zj3 r + 1) + 2 <= n := h
    obtain ⟨m, rfl⟩ : ∃ m, n = m + 2 := ⟨n - 2, by omega⟩
    have e : (zh1 (.hang k r)).length = (zc6 r).length + 2 := by simp [za9, za7, zb1, za5, fIf, za4, fB, f2, za1, fC, zb4, za0, za2, za3, dEq, dNe, eqB, dB, dIx, zb9, fT, zc9, za8, ze5, zh4, zd7, zj8, dTy, zj4, zj7, zq3, zh1]
    refine zu3 (fun x hx => ?_) (by simp [za9, za7, zb1, za5, fIf, za4, fB, f2, za1, fC, zb4, za0, za2, za3, dEq, dNe, eqB, dB, dIx, zb9, fT, zc9, za8, ze5, zh4, zd7, zj8, dTy, zj4, zj7, zq3])
    simp [za9, za7, zb1, za5, fIf, za4, fB, f2, za1, fC, zb4, za0, za2, za3, dEq, dNe, eqB, dB, dIx, zb9, fT, zc9, za8, ze5, zh4, zd7, zj8, dTy, zj4, zj7, zq3] at hx
    rcases hx with rfl | rfl | rfl
    . exact yo1 _ m
    . exact xm7 _ m
    . exact zu3 (yq8 r m (by omega) (by omega)) (ys6 (by omega))
  | .either rs, n, h, hl => by
    have h' : 3 * (zr6 rs + 1) + 2 <= n := h
    obtain ⟨m, rfl⟩ : ∃ m, n = m + 3 := ⟨n - 3, by omega⟩
    have e : (zh1 (.either rs)).length = (zr0 rs).length + 2 := by simp [za9, za7, zb1, za5, fIf, za4, fB, f2, za1, fC, zb4, za0, za2, za3, dEq, dNe, eqB, dB, dIx, zb9, fT, zc9, za8, ze5, zh4, zd7, zj8, dTy, zj4, zj7, zq3, zh1]
    refine zu3 (fun x hx => ?_) (by simp [za9, za7, zb1, za5, fIf, za4, fB, f2, za1, fC, zb4, za0, za2, za3, dEq, dNe, eqB, dB, dIx, zb9, fT, zc9, za8, ze5, zh4, zd7, zj8, dTy, zj4, zj7, zq3])
    simp [za9, za7, zb1, za5, fIf, za4, fB, f2, za1, fC, zb4, za0, za2, za3, dEq, dNe, eqB, dB, dIx, zb9, fT, zc9, za8, ze5, zh4, zd7, zj8, dTy, zj4, zj7, zq3] at hx
    rcases hx with rfl | rfl
    . exact yo1 _ (m + 1)
    . refine zu3 (xs0 rs m (by omega) (by omega)) ?_
      rw [zp3]
      cases rs with
      | nil => simp [za9, za7, zb1, za5, fIf, za4, fB, f2, za1, fC, zb4, za0, za2, za3, dEq, dNe, eqB, dB, dIx, zb9, fT, zc9, za8, ze5, zh4, zd7, zj8, dTy, zj4, zj7, zq3]
      | cons r rs =>
        have := yv9 rs
        have e2 : (zr0 (r :: rs)).length = (zc6 r).length + (ze4 rs).length := by show (zc6 r ++ ze4 rs).length = _; rw [List.length_append]
        simp; omega
theorem yq8 : ∀ (r : List Pc) (n : Nat), 3 * zj3 r + 2 <= n -> (zc6 r).length <= 900 -> ∀ x ∈ zd4 r, zt9 n [x, x] = some (.bl true)
  | [], _, _, _, x, hx => by simp [za9, za7, zb1, za5, fIf, za4, fB, f2, za1, fC, zb4, za0, za2, za3, dEq, dNe, eqB, dB, dIx, zb9, fT, zc9, za8, ze5, zh4, zd7, zj8, dTy, zj4, zj7, zq3, zd4] at hx
  | p :: r, n, h, hl, x, hx => by
    have h' : 3 * max (yb4 p) (zj3 r) + 2 <= n := h
    have e : (zc6 (p :: r)).length = (zh1 p).length + (zc6 r).length := by show (zh1 p ++ zc6 r).length = _; rw [List.length_append]
    have hx' : x ∈ pcD p :: zd4 r := hx
    rcases List.mem_cons.mp hx' with rfl | hx'
    . exact wu0 p n (by omega) (by omega)
    . exact yq8 r n (by omega) (by omega) x hx'
theorem xs0 : ∀ (rs : List (List Pc)) (n : Nat), 3 * zr6 rs + 2 <= n -> (zr0 rs).length <= 900 -> ∀ x ∈ zg0 rs, zt9 (n + 1) [x, x] = some (.bl true)
  | [], _, _, _, x, hx => by simp [za9, za7, zb1, za5, fIf, za4, fB, f2, za1, fC, zb4, za0, za2, za3, dEq, dNe, eqB, dB, dIx, zb9, fT, zc9, za8, ze5, zh4, zd7, zj8, dTy, zj4, zj7, zq3, zg0] at hx
  | r :: rs, n, h, hl, x, hx => by
    have h' : 3 * max (zj3 r) (zr6 rs) + 2 <= n := h
    have e : (zr0 (r :: rs)).length = (zc6 r).length + (ze4 rs).length := by show (zc6 r ++ ze4 rs).length = _; rw [List.length_append]
    have e2 : (zr0 rs).length <= (ze4 rs).length := by
      cases rs with
      | nil => exact Nat.le_refl _
      | cons q rs => show (zc6 q ++ ze4 rs).length <= (Tk.orr :: (zc6 q ++ ze4 rs)).length; rw [List.length_cons]; omega
    have hx' : x ∈ D.tup (zd4 r) :: zg0 rs := hx
    rcases List.mem_cons.mp hx' with rfl | hx'
    . exact zu3 (yq8 r n (by omega) (by omega)) (ys6 (by omega))
    . exact xs0 rs n (by omega) (by omega) x hx'
end
theorem yz0 : ∀ ys : List Str, D.strs (zu7 ys) = some ys
  | [] => rfl
  | y :: ys => by
    show D.strs (.str y :: zu7 ys) = _
    rw [D.strs, yz0 ys]; rfl
theorem xe8 : ∀ ts : List Tk, (∀ t ∈ ts, yb5 t) -> ((ts.map zj5).map (·.length)).sum <= 13 * ts.length
  | [], _ => Nat.le_refl _
  | t :: ts, h => by
    have ih := xe8 ts fun t' ht => h t' (List.mem_cons_of_mem _ ht)
    have h1 := yv8 (h t List.mem_cons_self)
    show (zj5 t).length + ((ts.map zj5).map (·.length)).sum <= 13 * (ts.length + 1)
    omega
theorem wo3 {o : Bool} {ts : List Tk} (h : ∀ t ∈ ts, yb5 t) (hl : ts.length <= 900) : yj5 (.str " ") [.lst o (zd1 ts)] = some (.str (zn0 ts)) := by
  have h1 := xe8 ts h
  rw [yj5, zd1, yz0, Option.bind_some]
  exact if_pos ⟨by decide +kernel, by rw [List.length_map]; omega⟩
theorem xw2 {GSm GS GR GL : List D -> Option D} {xs : List D} {r : List Pc} (h0 : GSm [.con xs] = some (.tup (zd4 r))) (hk : ∀ t ∈ zc6 r, yb5 t) (hl : (zc6 r).length <= 900)
    (h1 : GL [.tup (zd4 r)] = some (.lst true (zd1 (zc6 r)))) (h2 : GR [.str (zn0 (zc6 r))] = some (.tup (zd4 r))) (h3 : GR [.str ""] = some (.tup [])) (h4 : GS [.tup (zd4 r), .tup (zd4 r)] = some (.bl true)) (h5 : GS [.tup [], .tup []] = some (.bl true)) :
    gP 1 1 (xn3 GSm GS GR GL) [.con xs] = some (.bl true) := by
  have s1 : zb1 1 (za5 (za3 GSm (za0 (za1 0) za2))) [some (.con xs), none] = some (.nx, [some (.con xs), some (.tup (zd4 r))]) := zm4 (zf8 rfl h0)
  have s2 : fMt yj5 (fC (.str " ")) (za0 (za3 GL (za0 (za1 1) za2)) za2) [some (.con xs), some (.tup (zd4 r))] = some (.str (zn0 (zc6 r))) := by
    unfold fMt
    rw [show fC (.str " ") [some (.con xs), some (.tup (zd4 r))] = some (.str " ") from rfl, Option.bind_some, zc8 (zf8 (ds := [.tup (zd4 r)]) rfl h1) rfl, Option.bind_some]
    exact (if_pos rfl).trans (wo3 hk hl)
  have s3 : za3 GS (za0 (za3 GR (za0 (fMt yj5 (fC (.str " ")) (za0 (za3 GL (za0 (za1 1) za2)) za2)) za2)) (za0 (za1 1) za2)) [some (.con xs), some (.tup (zd4 r))] = some (.bl true) :=
    zf8 (zc8 (zf8 (zc8 s2 rfl) h2) (zc8 rfl rfl)) h4
  have s4 : za3 GS (za0 (za3 GR (za0 (fC (.str "")) za2)) (za0 (zd3 za2) za2)) [some (.con xs), some (.tup (zd4 r))] = some (.bl true) :=
    zf8 (zc8 (zf8 (zc8 rfl rfl) h3) (zc8 (d := .tup []) rfl rfl)) h5
  refine zo9 rfl (p := [some (.con xs), some (.tup (zd4 r))]) ((zb2 s1).trans (zn7 ?_))
  unfold zj7
  rw [s3]
  exact s4
theorem xw3 {GM : List D -> Option D} {xs : List D} (hx : xs.length <= 63) (hM : ∀ k s : Int, 0 <= k -> k < 1000 -> 0 <= s -> s < 1000 -> ∃ m, GM [.con xs, .int k, .int s] = some (.int m) /\ 0 <= m) :
    gP 1 1 (xn3 (wk6 GM xa2 (wi7 GM xa2)) (zt9 50) wk5 (yk1 50)) [.con xs] = some (.bl true) := by
  obtain ⟨r, q, hr⟩ := wo2 (GL := xa2) (GR := wi7 GM xa2) hx (fun m hm => xr9 hm) hM (fun many nest h1 h2 => wt5 (a := 0) (fun m hm => xr9 hm) (fun j s hj hs => hM j s (by omega) (by omega) (by omega) (by omega)) (by omega) (by omega) (by omega))
  have hl := hr.len
  have hd := hr.dep
  have h3 := xr8 (r := []) trivial (Nat.zero_le _) (Nat.zero_le _)
  exact xw2 q (yi6 r hr.ok) (by omega) (xr6 50 r hr.ok (by omega) (by omega)) (xr8 hr.ok hl hd) h3 (zu3 (n := 49) (yq8 r 49 (by omega) (by omega)) (ys6 (by omega))) (zu3 (n := 49) (fun x hx => absurd hx (by simp [za9, za7, zb1, za5, fIf, za4, fB, f2, za1, fC, zb4, za0, za2, za3, dEq, dNe, eqB, dB, dIx, zb9, fT, zc9, za8, ze5, zh4, zd7, zj8, dTy, zj4, zj7, zq3])) (by simp [za9, za7, zb1, za5, fIf, za4, fB, f2, za1, fC, zb4, za0, za2, za3, dEq, dNe, eqB, dB, dIx, zb9, fT, zc9, za8, ze5, zh4, zd7, zj8, dTy, zj4, zj7, zq3]))
end My
namespace My
open PySem PySem.Spec PyProof.Rows L2 L3
variable {P : Program} {w : World} {K : PySem.W.Frag} {mg : Str -> Option Value} {base : Heap} {κ : Str -> Addr}
noncomputable abbrev xn5 : List D -> Option (List Int) := D.ints
theorem yz1 : ∀ ns : List Int, xn5 (ns.map .int) = some ns
  | [] => rfl
  | n :: ns => by show (D.ints (ns.map .int)).map (n :: ·) = _; rw [show D.ints (ns.map .int) = some ns from yz1 ns]; rfl
noncomputable def wi8 : List D -> Option D
  | [.con xs, .int k, .int s] => match xn5 xs with
    | some ns => if ns.length <= 63 /\ (0 <= k /\ k < 1000000) /\ (0 <= s /\ s < 1000000) then some (.int (yo6 ns k s)) else none
    | none => none
  | _ => none
theorem wi0 {ns : List Int} (h : ns.length <= 63) (k s : Int) (hk : 0 <= k) (hk1 : k < 1000) (hs : 0 <= s) (hs1 : s < 1000) : ∃ m, wi8 [.con (ns.map .int), .int k, .int s] = some (.int m) /\ 0 <= m := by
  refine ⟨yo6 ns k s, ?_, (xn9 ns k s).1⟩
  show (match xn5 (ns.map .int) with | some ns => if ns.length <= 63 /\ (0 <= k /\ k < 1000000) /\ (0 <= s /\ s < 1000000) then some (D.int (yo6 ns k s)) else none | none => none) = _
  rw [yz1]
  exact if_pos ⟨h, ⟨hk, by omega⟩, hs, by omega⟩
theorem wz1 {k : Nat} {f : Addr} {fd : FuncData} {ps : List Str} (F : FnOk P w K mg base CX0 k f fd ps (xs1 K)) : FnOk P w K mg base CX0 k f fd ps (SpP 3 K κ wi8) := by
  refine F.imp fun vs H Q E ⟨_, ds, fp, d, r, e, q⟩ => ?_
  unfold wi8 at e
  split at e
  . rename_i xs k s
    split at e
    . rename_i ns hns
      obtain ⟨hc, e⟩ := zh8 e
      cases e
      obtain ⟨v1, us, f, g, rfl, r1, r2, rfl⟩ := r.split
      obtain ⟨v2, us2, f2, g2, rfl, r3, r4, rfl⟩ := r2.split
      obtain ⟨v3, rfl, r5⟩ := r4.one_inv
      rw [r3.is_int, r5.is_int]
      obtain ⟨a, vs, rfl, hS, hs⟩ := r1.con_inv
      rw [xp8 hs hns] at hS
      exact ⟨a, ns, k, s, rfl, hS.l, hc.1, hc.2.1, hc.2.2, q _ H [] (SameK.refl H) (fun _ ha => absurd ha (by simp)) List.nodup_nil (.int _)⟩
    . cases e
  . cases e
noncomputable def xg4 (K : PySem.W.Frag) : Sp := fun vs H Q _ => ∃ (a : Addr) (ns : List Int), vs = [.ref a] /\ SqF K H a (ns.map V.int) /\ ns.length <= 63 /\ ∀ H', Q (.bl true) H'
theorem xe9 {H : Hp} : ∀ ns : List Int, Reps K κ H (ns.map V.int) (ns.map .int) []
  | [] => .nil
  | n :: ns => .cons (f := []) (g := []) (.int n) (xe9 ns)
theorem wz2 {k : Nat} {f : Addr} {fd : FuncData} {ps : List Str} {g : List D -> Option D} (F : FnOk P w K mg base CX0 k f fd ps (SpP 1 K κ g)) (h : ∀ ns : List Int, ns.length <= 63 -> g [.con (ns.map .int)] = some (.bl true)) : FnOk P w K mg base CX0 k f fd ps (xg4 K) :=
  F.imp fun vs H Q E ⟨a, ns, e, hS, hl, q⟩ => e ▸ ⟨rfl, [.con (ns.map .int)], [], .bl true, .cons (f := []) (g := []) (.con hS (xe9 ns)) .nil, h ns hl, fun v H' fv _ _ _ r => by cases r; exact q H'⟩
noncomputable def Cur : Nat -> (List Value -> Prop) -> Prop
  | 0, P => P []
  | n + 1, P => ∀ a, Cur n fun us => P (a :: us)
theorem zk7 {n : Nat} : ∀ {P : List Value -> Prop}, Cur n P -> ∀ us : List Value, us.length = n -> P us := by
  induction n with
  | zero => intro P h us hl; cases List.eq_nil_of_length_eq_zero hl; exact h
  | succ n ih =>
    intro P h us hl
    cases us with
    | nil => cases hl
    | cons a us => exact ih (h a) us (Nat.succ.inj hl)
theorem zu6 {h : Heap} (X : K.In h) (G : h.Ns mainGlobals mg) {x : Str} {st : Stmt} {f : Addr} {od an : Option Addr} {sl : Array (Option Value)} {oc kV dc pm cd ct : Value} {ps : List Str}
    (a : PySem.W.nsIn K mainGlobals x = some (some (.ref f))) (l : K.lookup f = some ⟨oc, od, .func (PySem.W.fnOf x x (zi2 st) (zh3 st) (zc7 st) .none kV dc pm an cd ct), sl⟩) (c : PySem.W.codeIn K cd x = true) (k : PySem.W.keepIn K (.ref f) = true)
    (hb : ∀ (kV doc pm : Value) (an : Option Addr) (cdv ct : Value) (us : List Value), us.length = ps.length -> bindArgs (PySem.W.fnOf x x (zi2 st) (zh3 st) (zc7 st) .none kV doc pm an cdv ct) ⟨us, []⟩ = pure (ps.zip us)) :
    Dn K mg x st ps f (PySem.W.fnOf x x (zi2 st) (zh3 st) (zc7 st) .none kV dc pm an cd ct) :=
  ⟨zo3 l c k, (zo3 l c k).binds hb, PySem.W.mg_of X G a⟩
theorem wz3 {l : PySem.W.OpenLaw} {q : Program} {loose : List Str} {XP : (Str -> Option Value) -> Heap -> Prop} {YP : World -> Heap -> Prop} {d : DefRec} {K : Params -> PySem.W.Frag} {lev : Nat} (hn : l.most = some 63) (hdf : d.params.defaults = []) (hr : Room lev callerA)
    (hY : ∀ (w : World) (h : Heap), YP w h -> (K w.params).In h)
    (F : ∀ (w : World) (mg : Str -> Option Value) (fa : Addr) (h : Heap), (K w.params).In h -> h.Ns mainGlobals mg -> mg d.name = some (.ref fa) ->
      ∃ fd : FuncData, (∀ (s : Shared) (u : Value), BindsTo s fd ⟨[u], []⟩ [("_law_script", u)]) /\ ∀ base : Heap, (K w.params).In base -> base.Ns mainGlobals mg -> FnOk l.prog w (K w.params) mg base CX0 lev fa fd ["_law_script"] (xg4 (K w.params))) :
    PySem.W.WalkO q loose XP YP l.row.toRowW d [] (fun f vs => PySem.call f vs) :=
  L2.wl7 (n := 63) (k := lev) (x := "_law_script") (CX := fun _ => CX0) (sp := fun w => xg4 (K w.params)) hn (by decide) hdf hr hY F (fun _ H a ns hl hO hS => ⟨a, ns, rfl, by
    rcases hS with (h | h) | h
    . rcases hO a with z | ⟨o, xs, z⟩ <;> rw [h] at z <;> cases z
    . exact .inl h
    . exact .inr h, hl, fun _ => rfl⟩) fun _ _ _ _ _ z => z
end My
namespace My
open PySem PySem.Spec PyProof.Rows L2 L3
theorem wu1 {l : PySem.W.OpenLaw} {w : World} {K : PySem.W.Frag} {h : Heap} {mg : Str -> Option Value} {fa f0 f1 f2 f3 f4 f5 f6 f7 f8 f9 f10 f11 f12 f13 f14 f15 : Addr} (X : K.In h) (G : h.Ns mainGlobals mg) (hfa : mg "law" = some (.ref fa))
    {od0 an0 od1 an1 od2 an2 od3 an3 od4 an4 od5 an5 od6 an6 od7 an7 od8 an8 od9 an9 od10 an10 od11 an11 od12 an12 od13 an13 od14 an14 od15 an15 : Option Addr} {sl0 sl1 sl2 sl3 sl4 sl5 sl6 sl7 sl8 sl9 sl10 sl11 sl12 sl13 sl14 sl15 : Array (Option Value)} {oc0 kV0 dc0 pm0 cd0 ct0 oc1 kV1 dc1 pm1 cd1 ct1 oc2 kV2 dc2 pm2 cd2 ct2 oc3 kV3 dc3 pm3 cd3 ct3 oc4 kV4 dc4 pm4 cd4 ct4 oc5 kV5 dc5 pm5 cd5 ct5 oc6 kV6 dc6 pm6 cd6 ct6 oc7 kV7 dc7 pm7 cd7 ct7 oc8 kV8 dc8 pm8 cd8 ct8 oc9 kV9 dc9 pm9 cd9 ct9 oc10 kV10 dc10 pm10 cd10 ct10 oc11 kV11 dc11 pm11 cd11 ct11 oc12 kV12 dc12 pm12 cd12 ct12 oc13 kV13 dc13 pm13 cd13 ct13 oc14 kV14 dc14 pm14 cd14 ct14 oc15 kV15 dc15 pm15 cd15 ct15 : Value}
    {v0 v1 v2 v3 v4 v5 v6 v10 v11 v12 : Value}
    (a0 : PySem.W.nsIn K mainGlobals "is_word" = some (some (.ref f0))) (l0 : K.lookup f0 = some ⟨oc0, od0, .func (PySem.W.fnOf "is_word" "is_word" (zi2 zq5) (zh3 zq5) (zc7 zq5) .none kV0 dc0 pm0 an0 cd0 ct0), sl0⟩) (c0 : PySem.W.codeIn K cd0 "is_word" = true) (k0 : PySem.W.keepIn K (.ref f0) = true)
    (a1 : PySem.W.nsIn K mainGlobals "number_token" = some (some (.ref f1))) (l1 : K.lookup f1 = some ⟨oc1, od1, .func (PySem.W.fnOf "number_token" "number_token" (zi2 zn1) (zh3 zn1) (zc7 zn1) .none kV1 dc1 pm1 an1 cd1 ct1), sl1⟩) (c1 : PySem.W.codeIn K cd1 "number_token" = true) (k1 : PySem.W.keepIn K (.ref f1) = true)
    (a2 : PySem.W.nsIn K mainGlobals "token_of" = some (some (.ref f2))) (l2 : K.lookup f2 = some ⟨oc2, od2, .func (PySem.W.fnOf "token_of" "token_of" (zi2 zr1) (zh3 zr1) (zc7 zr1) .none kV2 dc2 pm2 an2 cd2 ct2), sl2⟩) (c2 : PySem.W.codeIn K cd2 "token_of" = true) (k2 : PySem.W.keepIn K (.ref f2) = true)
    (a3 : PySem.W.nsIn K mainGlobals "parts_of" = some (some (.ref f3))) (l3 : K.lookup f3 = some ⟨oc3, od3, .func (PySem.W.fnOf "parts_of" "parts_of" (zi2 zr2) (zh3 zr2) (zc7 zr2) .none kV3 dc3 pm3 an3 cd3 ct3), sl3⟩) (c3 : PySem.W.codeIn K cd3 "parts_of" = true) (k3 : PySem.W.keepIn K (.ref f3) = true)
    (a4 : PySem.W.nsIn K mainGlobals "add_written" = some (some (.ref f4))) (l4 : K.lookup f4 = some ⟨oc4, od4, .func (PySem.W.fnOf "add_written" "add_written" (zi2 zo1) (zh3 zo1) (zc7 zo1) .none kV4 dc4 pm4 an4 cd4 ct4), sl4⟩) (c4 : PySem.W.codeIn K cd4 "add_written" = true) (k4 : PySem.W.keepIn K (.ref f4) = true)
    (a5 : PySem.W.nsIn K mainGlobals "read" = some (some (.ref f5))) (l5 : K.lookup f5 = some ⟨oc5, od5, .func (PySem.W.fnOf "read" "read" (zi2 zy8) (zh3 zy8) (zc7 zy8) .none kV5 dc5 pm5 an5 cd5 ct5), sl5⟩) (c5 : PySem.W.codeIn K cd5 "read" = true) (k5 : PySem.W.keepIn K (.ref f5) = true)
    (a6 : PySem.W.nsIn K mainGlobals "_law_cell_at" = some (some (.ref f6))) (l6 : K.lookup f6 = some ⟨oc6, od6, .func (PySem.W.fnOf "_law_cell_at" "_law_cell_at" (zi2 zs6) (zh3 zs6) (zc7 zs6) .none kV6 dc6 pm6 an6 cd6 ct6), sl6⟩) (c6 : PySem.W.codeIn K cd6 "_law_cell_at" = true) (k6 : PySem.W.keepIn K (.ref f6) = true)
    (a7 : PySem.W.nsIn K mainGlobals "_law_mixed" = some (some (.ref f7))) (l7 : K.lookup f7 = some ⟨oc7, od7, .func (PySem.W.fnOf "_law_mixed" "_law_mixed" (zi2 zt8) (zh3 zt8) (zc7 zt8) .none kV7 dc7 pm7 an7 cd7 ct7), sl7⟩) (c7 : PySem.W.codeIn K cd7 "_law_mixed" = true) (k7 : PySem.W.keepIn K (.ref f7) = true)
    (a8 : PySem.W.nsIn K mainGlobals "_law_word" = some (some (.ref f8))) (l8 : K.lookup f8 = some ⟨oc8, od8, .func (PySem.W.fnOf "_law_word" "_law_word" (zi2 zy9) (zh3 zy9) (zc7 zy9) .none kV8 dc8 pm8 an8 cd8 ct8), sl8⟩) (c8 : PySem.W.codeIn K cd8 "_law_word" = true) (k8 : PySem.W.keepIn K (.ref f8) = true)
    (a9 : PySem.W.nsIn K mainGlobals "_law_leaf" = some (some (.ref f9))) (l9 : K.lookup f9 = some ⟨oc9, od9, .func (PySem.W.fnOf "_law_leaf" "_law_leaf" (zi2 zv8) (zh3 zv8) (zc7 zv8) .none kV9 dc9 pm9 an9 cd9 ct9), sl9⟩) (c9 : PySem.W.codeIn K cd9 "_law_leaf" = true) (k9 : PySem.W.keepIn K (.ref f9) = true)
    (a10 : PySem.W.nsIn K mainGlobals "_law_shut" = some (some (.ref f10))) (l10 : K.lookup f10 = some ⟨oc10, od10, .func (PySem.W.fnOf "_law_shut" "_law_shut" (zi2 zz0) (zh3 zz0) (zc7 zz0) .none kV10 dc10 pm10 an10 cd10 ct10), sl10⟩) (c10 : PySem.W.codeIn K cd10 "_law_shut" = true) (k10 : PySem.W.keepIn K (.ref f10) = true)
    (a11 : PySem.W.nsIn K mainGlobals "_law_row" = some (some (.ref f11))) (l11 : K.lookup f11 = some ⟨oc11, od11, .func (PySem.W.fnOf "_law_row" "_law_row" (zi2 yb7) (zh3 yb7) (zc7 yb7) .none kV11 dc11 pm11 an11 cd11 ct11), sl11⟩) (c11 : PySem.W.codeIn K cd11 "_law_row" = true) (k11 : PySem.W.keepIn K (.ref f11) = true)
    (a12 : PySem.W.nsIn K mainGlobals "_law_listed" = some (some (.ref f12))) (l12 : K.lookup f12 = some ⟨oc12, od12, .func (PySem.W.fnOf "_law_listed" "_law_listed" (zi2 zu5) (zh3 zu5) (zc7 zu5) .none kV12 dc12 pm12 an12 cd12 ct12), sl12⟩) (c12 : PySem.W.codeIn K cd12 "_law_listed" = true) (k12 : PySem.W.keepIn K (.ref f12) = true)
    (a13 : PySem.W.nsIn K mainGlobals "_law_some" = some (some (.ref f13))) (l13 : K.lookup f13 = some ⟨oc13, od13, .func (PySem.W.fnOf "_law_some" "_law_some" (zi2 zv9) (zh3 zv9) (zc7 zv9) .none kV13 dc13 pm13 an13 cd13 ct13), sl13⟩) (c13 : PySem.W.codeIn K cd13 "_law_some" = true) (k13 : PySem.W.keepIn K (.ref f13) = true)
    (a14 : PySem.W.nsIn K mainGlobals "_law_same" = some (some (.ref f14))) (l14 : K.lookup f14 = some ⟨oc14, od14, .func (PySem.W.fnOf "_law_same" "_law_same" (zi2 zz2) (zh3 zz2) (zc7 zz2) .none kV14 dc14 pm14 an14 cd14 ct14), sl14⟩) (c14 : PySem.W.codeIn K cd14 "_law_same" = true) (k14 : PySem.W.keepIn K (.ref f14) = true)
    (a15 : PySem.W.nsIn K mainGlobals "law" = some (some (.ref f15))) (l15 : K.lookup f15 = some ⟨oc15, od15, .func (PySem.W.fnOf "law" "law" (zi2 yd2) (zh3 yd2) (zc7 yd2) .none kV15 dc15 pm15 an15 cd15 ct15), sl15⟩) (c15 : PySem.W.codeIn K cd15 "law" = true) (k15 : PySem.W.keepIn K (.ref f15) = true)
    (z0 : PySem.W.nsIn K mainGlobals "all" = some none)
    (z1 : PySem.W.nsIn K mainGlobals "isinstance" = some none)
    (z2 : PySem.W.nsIn K mainGlobals "str" = some none)
    (z3 : PySem.W.nsIn K mainGlobals "len" = some none)
    (z4 : PySem.W.nsIn K mainGlobals "range" = some none)
    (z5 : PySem.W.nsIn K mainGlobals "max" = some none)
    (z6 : PySem.W.nsIn K mainGlobals "tuple" = some none)
    (z7 : PySem.W.nsIn K mainGlobals "int" = some none)
    (z8 : PySem.W.nsIn K mainGlobals "min" = some none)
    (z9 : PySem.W.nsIn K mainGlobals "bool" = some none)
    (g0 : PySem.W.nsIn K mainGlobals "LONGEST_WORD" = some (some v0))
    (gi0 : ∃ t, v0 = .int 12 t)
    (g1 : PySem.W.nsIn K mainGlobals "FURTHEST_STOP" = some (some v1))
    (gi1 : ∃ t, v1 = .int 40 t)
    (g2 : PySem.W.nsIn K mainGlobals "WIDEST_HANG" = some (some v2))
    (gi2 : ∃ t, v2 = .int 12 t)
    (g3 : PySem.W.nsIn K mainGlobals "FEWEST_ROWS" = some (some v3))
    (gi3 : ∃ t, v3 = .int 2 t)
    (g4 : PySem.W.nsIn K mainGlobals "MOST_ROWS" = some (some v4))
    (gi4 : ∃ t, v4 = .int 4 t)
    (g5 : PySem.W.nsIn K mainGlobals "DEEPEST" = some (some v5))
    (gi5 : ∃ t, v5 = .int 12 t)
    (g6 : PySem.W.nsIn K mainGlobals "MOST_TOKENS" = some (some v6))
    (gi6 : ∃ t, v6 = .int 200 t)
    {aOPENERS : Addr} {odOPENERS : Option Addr} {nOPENERS : Nat} {slOPENERS : Array (Option Value)} {uOPENERS_0 uOPENERS_1 uOPENERS_2 : Tok}
    (g7 : PySem.W.nsIn K mainGlobals "OPENERS" = some (some (.ref aOPENERS)))
    (dtOPENERS : K.lookup aOPENERS = some ⟨.type "tuple", odOPENERS, .seq #[.str "open" uOPENERS_0, .str "hang" uOPENERS_1, .str "either" uOPENERS_2] nOPENERS, slOPENERS⟩)
    {aOPENER_OF : Addr} {esOPENER_OF : Array DictEntry} {epOPENER_OF : Nat} {tOPENER_OF0 tOPENER_OF1 tOPENER_OF2 tOPENER_OF3 : Tok}
    {bOPENER_OF0 : Tok}
    {bOPENER_OF1 : Tok}
    {bOPENER_OF2 : Tok}
    {bOPENER_OF3 : Tok}
    (g8 : PySem.W.nsIn K mainGlobals "OPENER_OF" = some (some (.ref aOPENER_OF)))
    (dlOPENER_OF : K.lookup aOPENER_OF = some ⟨.type "dict", none, .dict esOPENER_OF epOPENER_OF, #[]⟩)
    (deOPENER_OF : esOPENER_OF = #[⟨hashStr w "close", .str "close" tOPENER_OF0, .str "open" bOPENER_OF0⟩, ⟨hashStr w "back", .str "back" tOPENER_OF1, .str "hang" bOPENER_OF1⟩, ⟨hashStr w "or", .str "or" tOPENER_OF2, .str "either" bOPENER_OF2⟩, ⟨hashStr w "done", .str "done" tOPENER_OF3, .str "either" bOPENER_OF3⟩])
    (dsOPENER_OF : (aOPENER_OF == sysModules) = false)
    {aSIGNS : Addr} {esSIGNS : Array DictEntry} {epSIGNS : Nat} {tSIGNS0 tSIGNS1 tSIGNS2 tSIGNS3 tSIGNS4 tSIGNS5 tSIGNS6 tSIGNS7 tSIGNS8 : Tok}
    {bSIGNS0 : Addr}
    {bSIGNS1 : Addr}
    {bSIGNS2 : Addr}
    {bSIGNS3 : Addr}
    {bSIGNS4 : Addr}
    {bSIGNS5 : Addr}
    {bSIGNS6 : Addr}
    {bSIGNS7 : Addr}
    {bSIGNS8 : Addr}
    (g9 : PySem.W.nsIn K mainGlobals "SIGNS" = some (some (.ref aSIGNS)))
    (dlSIGNS : K.lookup aSIGNS = some ⟨.type "dict", none, .dict esSIGNS epSIGNS, #[]⟩)
    (deSIGNS : esSIGNS = #[⟨hashStr w "_", .str "_" tSIGNS0, .ref bSIGNS0⟩, ⟨hashStr w ".", .str "." tSIGNS1, .ref bSIGNS1⟩, ⟨hashStr w "/", .str "/" tSIGNS2, .ref bSIGNS2⟩, ⟨hashStr w "[", .str "[" tSIGNS3, .ref bSIGNS3⟩, ⟨hashStr w "]", .str "]" tSIGNS4, .ref bSIGNS4⟩, ⟨hashStr w "<", .str "<" tSIGNS5, .ref bSIGNS5⟩, ⟨hashStr w "{", .str "{" tSIGNS6, .ref bSIGNS6⟩, ⟨hashStr w "|", .str "|" tSIGNS7, .ref bSIGNS7⟩, ⟨hashStr w "}", .str "}" tSIGNS8, .ref bSIGNS8⟩])
    (dsSIGNS : (aSIGNS == sysModules) = false)
    {odSIGNS0 : Option Addr} {nSIGNS0 : Nat} {slSIGNS0 : Array (Option Value)} {uSIGNS0_0 uSIGNS0_1 : Tok}
    (dbSIGNS0 : K.lookup bSIGNS0 = some ⟨.type "tuple", odSIGNS0, .seq #[.str "gap" uSIGNS0_0, .str " " uSIGNS0_1] nSIGNS0, slSIGNS0⟩)
    {odSIGNS1 : Option Addr} {nSIGNS1 : Nat} {slSIGNS1 : Array (Option Value)} {uSIGNS1_0 uSIGNS1_1 : Tok}
    (dbSIGNS1 : K.lookup bSIGNS1 = some ⟨.type "tuple", odSIGNS1, .seq #[.str "gap" uSIGNS1_0, .str "" uSIGNS1_1] nSIGNS1, slSIGNS1⟩)
    {odSIGNS2 : Option Addr} {nSIGNS2 : Nat} {slSIGNS2 : Array (Option Value)} {uSIGNS2_0 : Tok}
    (dbSIGNS2 : K.lookup bSIGNS2 = some ⟨.type "tuple", odSIGNS2, .seq #[.str "end" uSIGNS2_0] nSIGNS2, slSIGNS2⟩)
    {odSIGNS3 : Option Addr} {nSIGNS3 : Nat} {slSIGNS3 : Array (Option Value)} {uSIGNS3_0 : Tok}
    (dbSIGNS3 : K.lookup bSIGNS3 = some ⟨.type "tuple", odSIGNS3, .seq #[.str "open" uSIGNS3_0] nSIGNS3, slSIGNS3⟩)
    {odSIGNS4 : Option Addr} {nSIGNS4 : Nat} {slSIGNS4 : Array (Option Value)} {uSIGNS4_0 : Tok}
    (dbSIGNS4 : K.lookup bSIGNS4 = some ⟨.type "tuple", odSIGNS4, .seq #[.str "close" uSIGNS4_0] nSIGNS4, slSIGNS4⟩)
    {odSIGNS5 : Option Addr} {nSIGNS5 : Nat} {slSIGNS5 : Array (Option Value)} {uSIGNS5_0 : Tok}
    (dbSIGNS5 : K.lookup bSIGNS5 = some ⟨.type "tuple", odSIGNS5, .seq #[.str "back" uSIGNS5_0] nSIGNS5, slSIGNS5⟩)
    {odSIGNS6 : Option Addr} {nSIGNS6 : Nat} {slSIGNS6 : Array (Option Value)} {uSIGNS6_0 : Tok}
    (dbSIGNS6 : K.lookup bSIGNS6 = some ⟨.type "tuple", odSIGNS6, .seq #[.str "either" uSIGNS6_0] nSIGNS6, slSIGNS6⟩)
    {odSIGNS7 : Option Addr} {nSIGNS7 : Nat} {slSIGNS7 : Array (Option Value)} {uSIGNS7_0 : Tok}
    (dbSIGNS7 : K.lookup bSIGNS7 = some ⟨.type "tuple", odSIGNS7, .seq #[.str "or" uSIGNS7_0] nSIGNS7, slSIGNS7⟩)
    {odSIGNS8 : Option Addr} {nSIGNS8 : Nat} {slSIGNS8 : Array (Option Value)} {uSIGNS8_0 : Tok}
    (dbSIGNS8 : K.lookup bSIGNS8 = some ⟨.type "tuple", odSIGNS8, .seq #[.str "done" uSIGNS8_0] nSIGNS8, slSIGNS8⟩)
    (g10 : PySem.W.nsIn K mainGlobals "WORD_SIGN" = some (some v10))
    (gi10 : ∃ t, v10 = .str "'" t)
    (g11 : PySem.W.nsIn K mainGlobals "STOP_SIGN" = some (some v11))
    (gi11 : ∃ t, v11 = .str "\x40" t)
    (g12 : PySem.W.nsIn K mainGlobals "HANG_SIGN" = some (some v12))
    (gi12 : ∃ t, v12 = .str ">" t)
    {C_Nest : Addr} {f_Nest_init f_Nest_end_row f_Nest_can_end_by f_Nest_as_piece : Addr} {od_Nest_init an_Nest_init od_Nest_end_row an_Nest_end_row od_Nest_can_end_by an_Nest_can_end_by od_Nest_as_piece an_Nest_as_piece : Option Addr} {sl_Nest_init sl_Nest_end_row sl_Nest_can_end_by sl_Nest_as_piece : Array (Option Value)} {oc_Nest_init kV_Nest_init dc_Nest_init pm_Nest_init cd_Nest_init ct_Nest_init oc_Nest_end_row kV_Nest_end_row dc_Nest_end_row pm_Nest_end_row cd_Nest_end_row ct_Nest_end_row oc_Nest_can_end_by kV_Nest_can_end_by dc_Nest_can_end_by pm_Nest_can_end_by cd_Nest_can_end_by ct_Nest_can_end_by oc_Nest_as_piece kV_Nest_as_piece dc_Nest_as_piece pm_Nest_as_piece cd_Nest_as_piece ct_Nest_as_piece : Value}
    (gC_Nest : PySem.W.nsIn K mainGlobals "Nest" = some (some (.ref C_Nest)))
    (pg_Nest : PySem.W.plainGet K C_Nest Str.empty = true)
    (hd_Nest : PySem.W.hasDictIn K C_Nest = true)
    (po_Nest : PySem.W.plainOver K C_Nest = true)
    (sa_Nest : PySem.W.findIn K (.ref C_Nest) "__setattr__" = some (some (.builtin "object.__setattr__")))
    (mk_Nest : PySem.W.makesIn K C_Nest = true)
    (kc_Nest : PySem.W.keepIn K (.ref C_Nest) = true)
    (fi_Nest_init : PySem.W.findIn K (.ref C_Nest) "__init__" = some (some (.ref f_Nest_init)))
    (is_Nest_init : PySem.W.isFn K (.ref f_Nest_init) = true)
    (lo_Nest_init : K.lookup f_Nest_init = some ⟨oc_Nest_init, od_Nest_init, .func (PySem.W.fnOf "__init__" "Nest.__init__" (zi2 zq6) (zh3 zq6) (zc7 zq6) .none kV_Nest_init dc_Nest_init pm_Nest_init an_Nest_init cd_Nest_init ct_Nest_init), sl_Nest_init⟩)
    (co_Nest_init : PySem.W.codeIn K cd_Nest_init "Nest.__init__" = true)
    (ke_Nest_init : PySem.W.keepIn K (.ref f_Nest_init) = true)
    (fi_Nest_end_row : PySem.W.findIn K (.ref C_Nest) "end_row" = some (some (.ref f_Nest_end_row)))
    (is_Nest_end_row : PySem.W.isFn K (.ref f_Nest_end_row) = true)
    (lo_Nest_end_row : K.lookup f_Nest_end_row = some ⟨oc_Nest_end_row, od_Nest_end_row, .func (PySem.W.fnOf "end_row" "Nest.end_row" (zi2 zp1) (zh3 zp1) (zc7 zp1) .none kV_Nest_end_row dc_Nest_end_row pm_Nest_end_row an_Nest_end_row cd_Nest_end_row ct_Nest_end_row), sl_Nest_end_row⟩)
    (co_Nest_end_row : PySem.W.codeIn K cd_Nest_end_row "Nest.end_row" = true)
    (ke_Nest_end_row : PySem.W.keepIn K (.ref f_Nest_end_row) = true)
    (fi_Nest_can_end_by : PySem.W.findIn K (.ref C_Nest) "can_end_by" = some (some (.ref f_Nest_can_end_by)))
    (is_Nest_can_end_by : PySem.W.isFn K (.ref f_Nest_can_end_by) = true)
    (lo_Nest_can_end_by : K.lookup f_Nest_can_end_by = some ⟨oc_Nest_can_end_by, od_Nest_can_end_by, .func (PySem.W.fnOf "can_end_by" "Nest.can_end_by" (zi2 zm7) (zh3 zm7) (zc7 zm7) .none kV_Nest_can_end_by dc_Nest_can_end_by pm_Nest_can_end_by an_Nest_can_end_by cd_Nest_can_end_by ct_Nest_can_end_by), sl_Nest_can_end_by⟩)
    (co_Nest_can_end_by : PySem.W.codeIn K cd_Nest_can_end_by "Nest.can_end_by" = true)
    (ke_Nest_can_end_by : PySem.W.keepIn K (.ref f_Nest_can_end_by) = true)
    (fi_Nest_as_piece : PySem.W.findIn K (.ref C_Nest) "as_piece" = some (some (.ref f_Nest_as_piece)))
    (is_Nest_as_piece : PySem.W.isFn K (.ref f_Nest_as_piece) = true)
    (lo_Nest_as_piece : K.lookup f_Nest_as_piece = some ⟨oc_Nest_as_piece, od_Nest_as_piece, .func (PySem.W.fnOf "as_piece" "Nest.as_piece" (zi2 zo2) (zh3 zo2) (zc7 zo2) .none kV_Nest_as_piece dc_Nest_as_piece pm_Nest_as_piece an_Nest_as_piece cd_Nest_as_piece ct_Nest_as_piece), sl_Nest_as_piece⟩)
    (co_Nest_as_piece : PySem.W.codeIn K cd_Nest_as_piece "Nest.as_piece" = true)
    (ke_Nest_as_piece : PySem.W.keepIn K (.ref f_Nest_as_piece) = true)
    (nf_opener : PySem.W.findIn K (.ref C_Nest) "opener" = some none)
    (nf_ended : PySem.W.findIn K (.ref C_Nest) "ended" = some none)
    (nf_pieces : PySem.W.findIn K (.ref C_Nest) "pieces" = some none)
    {C_Builder : Addr} {f_Builder_init f_Builder_can_stand f_Builder_add f_Builder_row_so_far f_Builder_whole_row : Addr} {od_Builder_init an_Builder_init od_Builder_can_stand an_Builder_can_stand od_Builder_add an_Builder_add od_Builder_row_so_far an_Builder_row_so_far od_Builder_whole_row an_Builder_whole_row : Option Addr} {sl_Builder_init sl_Builder_can_stand sl_Builder_add sl_Builder_row_so_far sl_Builder_whole_row : Array (Option Value)} {oc_Builder_init kV_Builder_init dc_Builder_init pm_Builder_init cd_Builder_init ct_Builder_init oc_Builder_can_stand kV_Builder_can_stand dc_Builder_can_stand pm_Builder_can_stand cd_Builder_can_stand ct_Builder_can_stand oc_Builder_add kV_Builder_add dc_Builder_add pm_Builder_add cd_Builder_add ct_Builder_add oc_Builder_row_so_far kV_Builder_row_so_far dc_Builder_row_so_far pm_Builder_row_so_far cd_Builder_row_so_far ct_Builder_row_so_far oc_Builder_whole_row kV_Builder_whole_row dc_Builder_whole_row pm_Builder_whole_row cd_Builder_whole_row ct_Builder_whole_row : Value}
    (gC_Builder : PySem.W.nsIn K mainGlobals "Builder" = some (some (.ref C_Builder)))
    (pg_Builder : PySem.W.plainGet K C_Builder Str.empty = true)
    (hd_Builder : PySem.W.hasDictIn K C_Builder = true)
    (po_Builder : PySem.W.plainOver K C_Builder = true)
    (sa_Builder : PySem.W.findIn K (.ref C_Builder) "__setattr__" = some (some (.builtin "object.__setattr__")))
    (mk_Builder : PySem.W.makesIn K C_Builder = true)
    (kc_Builder : PySem.W.keepIn K (.ref C_Builder) = true)
    (fi_Builder_init : PySem.W.findIn K (.ref C_Builder) "__init__" = some (some (.ref f_Builder_init)))
    (is_Builder_init : PySem.W.isFn K (.ref f_Builder_init) = true)
    (lo_Builder_init : K.lookup f_Builder_init = some ⟨oc_Builder_init, od_Builder_init, .func (PySem.W.fnOf "__init__" "Builder.__init__" (zi2 zp2) (zh3 zp2) (zc7 zp2) .none kV_Builder_init dc_Builder_init pm_Builder_init an_Builder_init cd_Builder_init ct_Builder_init), sl_Builder_init⟩)
    (co_Builder_init : PySem.W.codeIn K cd_Builder_init "Builder.__init__" = true)
    (ke_Builder_init : PySem.W.keepIn K (.ref f_Builder_init) = true)
    (fi_Builder_can_stand : PySem.W.findIn K (.ref C_Builder) "can_stand" = some (some (.ref f_Builder_can_stand)))
    (is_Builder_can_stand : PySem.W.isFn K (.ref f_Builder_can_stand) = true)
    (lo_Builder_can_stand : K.lookup f_Builder_can_stand = some ⟨oc_Builder_can_stand, od_Builder_can_stand, .func (PySem.W.fnOf "can_stand" "Builder.can_stand" (zi2 zl3) (zh3 zl3) (zc7 zl3) .none kV_Builder_can_stand dc_Builder_can_stand pm_Builder_can_stand an_Builder_can_stand cd_Builder_can_stand ct_Builder_can_stand), sl_Builder_can_stand⟩)
    (co_Builder_can_stand : PySem.W.codeIn K cd_Builder_can_stand "Builder.can_stand" = true)
    (ke_Builder_can_stand : PySem.W.keepIn K (.ref f_Builder_can_stand) = true)
    (fi_Builder_add : PySem.W.findIn K (.ref C_Builder) "add" = some (some (.ref f_Builder_add)))
    (is_Builder_add : PySem.W.isFn K (.ref f_Builder_add) = true)
    (lo_Builder_add : K.lookup f_Builder_add = some ⟨oc_Builder_add, od_Builder_add, .func (PySem.W.fnOf "add" "Builder.add" (zi2 zp7) (zh3 zp7) (zc7 zp7) .none kV_Builder_add dc_Builder_add pm_Builder_add an_Builder_add cd_Builder_add ct_Builder_add), sl_Builder_add⟩)
    (co_Builder_add : PySem.W.codeIn K cd_Builder_add "Builder.add" = true)
    (ke_Builder_add : PySem.W.keepIn K (.ref f_Builder_add) = true)
    (fi_Builder_row_so_far : PySem.W.findIn K (.ref C_Builder) "row_so_far" = some (some (.ref f_Builder_row_so_far)))
    (is_Builder_row_so_far : PySem.W.isFn K (.ref f_Builder_row_so_far) = true)
    (lo_Builder_row_so_far : K.lookup f_Builder_row_so_far = some ⟨oc_Builder_row_so_far, od_Builder_row_so_far, .func (PySem.W.fnOf "row_so_far" "Builder.row_so_far" (zi2 zl0) (zh3 zl0) (zc7 zl0) .none kV_Builder_row_so_far dc_Builder_row_so_far pm_Builder_row_so_far an_Builder_row_so_far cd_Builder_row_so_far ct_Builder_row_so_far), sl_Builder_row_so_far⟩)
    (co_Builder_row_so_far : PySem.W.codeIn K cd_Builder_row_so_far "Builder.row_so_far" = true)
    (ke_Builder_row_so_far : PySem.W.keepIn K (.ref f_Builder_row_so_far) = true)
    (fi_Builder_whole_row : PySem.W.findIn K (.ref C_Builder) "whole_row" = some (some (.ref f_Builder_whole_row)))
    (is_Builder_whole_row : PySem.W.isFn K (.ref f_Builder_whole_row) = true)
    (lo_Builder_whole_row : K.lookup f_Builder_whole_row = some ⟨oc_Builder_whole_row, od_Builder_whole_row, .func (PySem.W.fnOf "whole_row" "Builder.whole_row" (zi2 zl4) (zh3 zl4) (zc7 zl4) .none kV_Builder_whole_row dc_Builder_whole_row pm_Builder_whole_row an_Builder_whole_row cd_Builder_whole_row ct_Builder_whole_row), sl_Builder_whole_row⟩)
    (co_Builder_whole_row : PySem.W.codeIn K cd_Builder_whole_row "Builder.whole_row" = true)
    (ke_Builder_whole_row : PySem.W.keepIn K (.ref f_Builder_whole_row) = true)
    (nf_taken : PySem.W.findIn K (.ref C_Builder) "taken" = some none)
    (nf_nests : PySem.W.findIn K (.ref C_Builder) "nests" = some none)
    : ∃ fd : FuncData, (∀ (s : Shared) (v : Value), BindsTo s fd ⟨[v], []⟩ [("_law_script", v)]) /\ ∀ base : Heap, K.In base -> base.Ns mainGlobals mg -> FnOk l.prog w K mg base CX0 51 fa fd ["_law_script"] (xg4 K) := by
  have e := hfa.symm.trans (PySem.W.mg_of X G a15)
  cases e
  have D_p_is_word := zu6 (st := zq5) (ps := ["thing"]) X G a0 l0 c0 k0 fun _ _ _ _ _ _ => zk7 (fun _ => rfl)
  have D_p_number_token := zu6 (st := zn1) (ps := ["kind", "figures", "most"]) X G a1 l1 c1 k1 fun _ _ _ _ _ _ => zk7 (fun _ _ _ => rfl)
  have D_p_token_of := zu6 (st := zr1) (ps := ["part"]) X G a2 l2 c2 k2 fun _ _ _ _ _ _ => zk7 (fun _ => rfl)
  have D_p_parts_of := zu6 (st := zr2) (ps := ["text"]) X G a3 l3 c3 k3 fun _ _ _ _ _ _ => zk7 (fun _ => rfl)
  have D_p_add_written := zu6 (st := zo1) (ps := ["builder", "part"]) X G a4 l4 c4 k4 fun _ _ _ _ _ _ => zk7 (fun _ _ => rfl)
  have D_p_read := zu6 (st := zy8) (ps := ["text"]) X G a5 l5 c5 k5 fun _ _ _ _ _ _ => zk7 (fun _ => rfl)
  have D_l_cell_at := zu6 (st := zs6) (ps := ["_law_script", "_law_k"]) X G a6 l6 c6 k6 fun _ _ _ _ _ _ => zk7 (fun _ _ => rfl)
  have D_l_mixed := zu6 (st := zt8) (ps := ["_law_script", "_law_k", "_law_salt"]) X G a7 l7 c7 k7 fun _ _ _ _ _ _ => zk7 (fun _ _ _ => rfl)
  have D_l_word := zu6 (st := zy9) (ps := ["_law_number"]) X G a8 l8 c8 k8 fun _ _ _ _ _ _ => zk7 (fun _ => rfl)
  have D_l_leaf := zu6 (st := zv8) (ps := ["_law_number"]) X G a9 l9 c9 k9 fun _ _ _ _ _ _ => zk7 (fun _ => rfl)
  have D_l_shut := zu6 (st := zz0) (ps := ["_law_frames"]) X G a10 l10 c10 k10 fun _ _ _ _ _ _ => zk7 (fun _ => rfl)
  have D_l_row := zu6 (st := yb7) (ps := ["_law_script", "_law_at", "_law_many", "_law_nest"]) X G a11 l11 c11 k11 fun _ _ _ _ _ _ => zk7 (fun _ _ _ _ => rfl)
  have D_l_listed := zu6 (st := zu5) (ps := ["_law_row_here"]) X G a12 l12 c12 k12 fun _ _ _ _ _ _ => zk7 (fun _ => rfl)
  have D_l_some := zu6 (st := zv9) (ps := ["_law_script"]) X G a13 l13 c13 k13 fun _ _ _ _ _ _ => zk7 (fun _ => rfl)
  have D_l_same := zu6 (st := zz2) (ps := ["_law_found", "_law_due"]) X G a14 l14 c14 k14 fun _ _ _ _ _ _ => zk7 (fun _ _ => rfl)
  have D_law := zu6 (st := yd2) (ps := ["_law_script"]) X G a15 l15 c15 k15 fun _ _ _ _ _ _ => zk7 (fun _ => rfl)
  obtain ⟨κ, hκ⟩ : ∃ κ, κ = (kap [("Nest", C_Nest), ("Builder", C_Builder)]) := ⟨_, rfl⟩
  have eK_Nest : κ "Nest" = C_Nest := by rw [hκ]; simp [kap, za8]
  have cl_Nest : Cls K (κ "Nest") := by rw [eK_Nest]; exact ⟨pg_Nest, hd_Nest, po_Nest, sa_Nest⟩
  have K_Nest : Kn K mg κ "Nest" "Nest.__init__" zq6 ["self", "opener"] f_Nest_init _ := ⟨(zo3 lo_Nest_init co_Nest_init ke_Nest_init), ((zo3 lo_Nest_init co_Nest_init ke_Nest_init).binds fun _ _ _ _ _ _ => zk7 (fun _ _ => rfl)), (by rw [eK_Nest]; exact ⟨mk_Nest, fi_Nest_init, is_Nest_init, kc_Nest⟩), (by rw [eK_Nest]; exact PySem.W.mg_of X G gC_Nest)⟩
  have M_Nest_end_row : Mn K κ "Nest" "end_row" "Nest.end_row" zp1 ["self"] f_Nest_end_row _ := ⟨(zo3 lo_Nest_end_row co_Nest_end_row ke_Nest_end_row), ((zo3 lo_Nest_end_row co_Nest_end_row ke_Nest_end_row).binds fun _ _ _ _ _ _ => zk7 (fun _ => rfl)), cl_Nest, (by rw [eK_Nest]; exact ⟨fi_Nest_end_row, is_Nest_end_row, ke_Nest_end_row⟩)⟩
  have M_Nest_can_end_by : Mn K κ "Nest" "can_end_by" "Nest.can_end_by" zm7 ["self", "kind"] f_Nest_can_end_by _ := ⟨(zo3 lo_Nest_can_end_by co_Nest_can_end_by ke_Nest_can_end_by), ((zo3 lo_Nest_can_end_by co_Nest_can_end_by ke_Nest_can_end_by).binds fun _ _ _ _ _ _ => zk7 (fun _ _ => rfl)), cl_Nest, (by rw [eK_Nest]; exact ⟨fi_Nest_can_end_by, is_Nest_can_end_by, ke_Nest_can_end_by⟩)⟩
  have M_Nest_as_piece : Mn K κ "Nest" "as_piece" "Nest.as_piece" zo2 ["self"] f_Nest_as_piece _ := ⟨(zo3 lo_Nest_as_piece co_Nest_as_piece ke_Nest_as_piece), ((zo3 lo_Nest_as_piece co_Nest_as_piece ke_Nest_as_piece).binds fun _ _ _ _ _ _ => zk7 (fun _ => rfl)), cl_Nest, (by rw [eK_Nest]; exact ⟨fi_Nest_as_piece, is_Nest_as_piece, ke_Nest_as_piece⟩)⟩
  have na_opener : zi1 K (κ "Nest") "opener" := by rw [eK_Nest]; exact nf_opener
  have na_ended : zi1 K (κ "Nest") "ended" := by rw [eK_Nest]; exact nf_ended
  have na_pieces : zi1 K (κ "Nest") "pieces" := by rw [eK_Nest]; exact nf_pieces
  have eK_Builder : κ "Builder" = C_Builder := by rw [hκ]; simp [kap, za8]
  have cl_Builder : Cls K (κ "Builder") := by rw [eK_Builder]; exact ⟨pg_Builder, hd_Builder, po_Builder, sa_Builder⟩
  have K_Builder : Kn K mg κ "Builder" "Builder.__init__" zp2 ["self"] f_Builder_init _ := ⟨(zo3 lo_Builder_init co_Builder_init ke_Builder_init), ((zo3 lo_Builder_init co_Builder_init ke_Builder_init).binds fun _ _ _ _ _ _ => zk7 (fun _ => rfl)), (by rw [eK_Builder]; exact ⟨mk_Builder, fi_Builder_init, is_Builder_init, kc_Builder⟩), (by rw [eK_Builder]; exact PySem.W.mg_of X G gC_Builder)⟩
  have M_Builder_can_stand : Mn K κ "Builder" "can_stand" "Builder.can_stand" zl3 ["self", "kind"] f_Builder_can_stand _ := ⟨(zo3 lo_Builder_can_stand co_Builder_can_stand ke_Builder_can_stand), ((zo3 lo_Builder_can_stand co_Builder_can_stand ke_Builder_can_stand).binds fun _ _ _ _ _ _ => zk7 (fun _ _ => rfl)), cl_Builder, (by rw [eK_Builder]; exact ⟨fi_Builder_can_stand, is_Builder_can_stand, ke_Builder_can_stand⟩)⟩
  have M_Builder_add : Mn K κ "Builder" "add" "Builder.add" zp7 ["self", "token"] f_Builder_add _ := ⟨(zo3 lo_Builder_add co_Builder_add ke_Builder_add), ((zo3 lo_Builder_add co_Builder_add ke_Builder_add).binds fun _ _ _ _ _ _ => zk7 (fun _ _ => rfl)), cl_Builder, (by rw [eK_Builder]; exact ⟨fi_Builder_add, is_Builder_add, ke_Builder_add⟩)⟩
  have M_Builder_row_so_far : Mn K κ "Builder" "row_so_far" "Builder.row_so_far" zl0 ["self"] f_Builder_row_so_far _ := ⟨(zo3 lo_Builder_row_so_far co_Builder_row_so_far ke_Builder_row_so_far), ((zo3 lo_Builder_row_so_far co_Builder_row_so_far ke_Builder_row_so_far).binds fun _ _ _ _ _ _ => zk7 (fun _ => rfl)), cl_Builder, (by rw [eK_Builder]; exact ⟨fi_Builder_row_so_far, is_Builder_row_so_far, ke_Builder_row_so_far⟩)⟩
  have M_Builder_whole_row : Mn K κ "Builder" "whole_row" "Builder.whole_row" zl4 ["self"] f_Builder_whole_row _ := ⟨(zo3 lo_Builder_whole_row co_Builder_whole_row ke_Builder_whole_row), ((zo3 lo_Builder_whole_row co_Builder_whole_row ke_Builder_whole_row).binds fun _ _ _ _ _ _ => zk7 (fun _ => rfl)), cl_Builder, (by rw [eK_Builder]; exact ⟨fi_Builder_whole_row, is_Builder_whole_row, ke_Builder_whole_row⟩)⟩
  have na_taken : zi1 K (κ "Builder") "taken" := by rw [eK_Builder]; exact nf_taken
  have na_nests : zi1 K (κ "Builder") "nests" := by rw [eK_Builder]; exact nf_nests
  have z_all := PySem.W.mg_none_of X G z0
  have z_isinstance := PySem.W.mg_none_of X G z1
  have z_str := PySem.W.mg_none_of X G z2
  have z_len := PySem.W.mg_none_of X G z3
  have z_range := PySem.W.mg_none_of X G z4
  have z_max := PySem.W.mg_none_of X G z5
  have z_tuple := PySem.W.mg_none_of X G z6
  have z_int := PySem.W.mg_none_of X G z7
  have z_min := PySem.W.mg_none_of X G z8
  have z_bool := PySem.W.mg_none_of X G z9
  have g_LONGEST_WORD := PySem.W.mg_of X G g0
  obtain ⟨t0, ei0⟩ := gi0
  subst ei0
  have g_FURTHEST_STOP := PySem.W.mg_of X G g1
  obtain ⟨t1, ei1⟩ := gi1
  subst ei1
  have g_WIDEST_HANG := PySem.W.mg_of X G g2
  obtain ⟨t2, ei2⟩ := gi2
  subst ei2
  have g_FEWEST_ROWS := PySem.W.mg_of X G g3
  obtain ⟨t3, ei3⟩ := gi3
  subst ei3
  have g_MOST_ROWS := PySem.W.mg_of X G g4
  obtain ⟨t4, ei4⟩ := gi4
  subst ei4
  have g_DEEPEST := PySem.W.mg_of X G g5
  obtain ⟨t5, ei5⟩ := gi5
  subst ei5
  have g_MOST_TOKENS := PySem.W.mg_of X G g6
  obtain ⟨t6, ei6⟩ := gi6
  subst ei6
  have g_OPENERS := PySem.W.mg_of X G g7
  have k_OPENERS : ∀ H, Rep K κ H (.ref aOPENERS) (.tup [(.str "open"), (.str "hang"), (.str "either")]) [] := fun H => zu0 (ys := [("open", uOPENERS_0), ("hang", uOPENERS_1), ("either", uOPENERS_2)]) dtOPENERS (Nat.le_of_ble_eq_true rfl) H
  have g_OPENER_OF := PySem.W.mg_of X G g8
  have k_OPENER_OF : yk5 l.prog w K κ aOPENER_OF zl7 zy7 := ⟨[(.inr "close", .str "open"), (.inr "back", .str "hang"), (.inr "or", .str "either"), (.inr "done", .str "either")], ⟨dsOPENER_OF, _, esOPENER_OF, epOPENER_OF, [(.inr "close", .str "open" bOPENER_OF0), (.inr "back", .str "hang" bOPENER_OF1), (.inr "or", .str "either" bOPENER_OF2), (.inr "done", .str "either" bOPENER_OF3)], dlOPENER_OF, ⟨rfl, rfl, rfl⟩, rfl, (.cons ⟨rfl, ⟨_, rfl⟩⟩ (.cons ⟨rfl, ⟨_, rfl⟩⟩ (.cons ⟨rfl, ⟨_, rfl⟩⟩ (.cons ⟨rfl, ⟨_, rfl⟩⟩ .nil)))), (by subst deOPENER_OF; intro e he; simp only [List.mem_toArray, List.mem_cons, List.not_mem_nil, or_false] at he; rcases he with rfl | rfl | rfl | rfl <;> exact ⟨_, zk6 _ _ _ _, rfl⟩), (by subst deOPENER_OF; exact (.cons (zk6 _ _ _ _) rfl (.cons (zk6 _ _ _ _) rfl (.cons (zk6 _ _ _ _) rfl (.cons (zk6 _ _ _ _) rfl .nil))))), (show (zl7 : List Key).Nodup by decide +kernel)⟩, rfl, fun _ => (.cons (f := []) (g := []) (.str _) (.cons (f := []) (g := []) (.str _) (.cons (f := []) (g := []) (.str _) (.cons (f := []) (g := []) (.str _) .nil))))⟩
  have g_SIGNS := PySem.W.mg_of X G g9
  have k_SIGNS : yk5 l.prog w K κ aSIGNS zo0 yb6 := ⟨[(.inr "_", .ref bSIGNS0), (.inr ".", .ref bSIGNS1), (.inr "/", .ref bSIGNS2), (.inr "[", .ref bSIGNS3), (.inr "]", .ref bSIGNS4), (.inr "<", .ref bSIGNS5), (.inr "{", .ref bSIGNS6), (.inr "|", .ref bSIGNS7), (.inr "}", .ref bSIGNS8)], ⟨dsSIGNS, _, esSIGNS, epSIGNS, [(.inr "_", .ref bSIGNS0), (.inr ".", .ref bSIGNS1), (.inr "/", .ref bSIGNS2), (.inr "[", .ref bSIGNS3), (.inr "]", .ref bSIGNS4), (.inr "<", .ref bSIGNS5), (.inr "{", .ref bSIGNS6), (.inr "|", .ref bSIGNS7), (.inr "}", .ref bSIGNS8)], dlSIGNS, ⟨rfl, rfl, rfl⟩, rfl, (.cons ⟨rfl, rfl⟩ (.cons ⟨rfl, rfl⟩ (.cons ⟨rfl, rfl⟩ (.cons ⟨rfl, rfl⟩ (.cons ⟨rfl, rfl⟩ (.cons ⟨rfl, rfl⟩ (.cons ⟨rfl, rfl⟩ (.cons ⟨rfl, rfl⟩ (.cons ⟨rfl, rfl⟩ .nil))))))))), (by subst deSIGNS; intro e he; simp only [List.mem_toArray, List.mem_cons, List.not_mem_nil, or_false] at he; rcases he with rfl | rfl | rfl | rfl | rfl | rfl | rfl | rfl | rfl <;> exact ⟨_, zk6 _ _ _ _, rfl⟩), (by subst deSIGNS; exact (.cons (zk6 _ _ _ _) rfl (.cons (zk6 _ _ _ _) rfl (.cons (zk6 _ _ _ _) rfl (.cons (zk6 _ _ _ _) rfl (.cons (zk6 _ _ _ _) rfl (.cons (zk6 _ _ _ _) rfl (.cons (zk6 _ _ _ _) rfl (.cons (zk6 _ _ _ _) rfl (.cons (zk6 _ _ _ _) rfl .nil)))))))))), (show (zo0 : List Key).Nodup by decide +kernel)⟩, rfl, fun _ => (.cons (f := []) (g := []) (zu0 (ys := [("gap", uSIGNS0_0), (" ", uSIGNS0_1)]) dbSIGNS0 (Nat.le_of_ble_eq_true rfl) _) (.cons (f := []) (g := []) (zu0 (ys := [("gap", uSIGNS1_0), ("", uSIGNS1_1)]) dbSIGNS1 (Nat.le_of_ble_eq_true rfl) _) (.cons (f := []) (g := []) (zu0 (ys := [("end", uSIGNS2_0)]) dbSIGNS2 (Nat.le_of_ble_eq_true rfl) _) (.cons (f := []) (g := []) (zu0 (ys := [("open", uSIGNS3_0)]) dbSIGNS3 (Nat.le_of_ble_eq_true rfl) _) (.cons (f := []) (g := []) (zu0 (ys := [("close", uSIGNS4_0)]) dbSIGNS4 (Nat.le_of_ble_eq_true rfl) _) (.cons (f := []) (g := []) (zu0 (ys := [("back", uSIGNS5_0)]) dbSIGNS5 (Nat.le_of_ble_eq_true rfl) _) (.cons (f := []) (g := []) (zu0 (ys := [("either", uSIGNS6_0)]) dbSIGNS6 (Nat.le_of_ble_eq_true rfl) _) (.cons (f := []) (g := []) (zu0 (ys := [("or", uSIGNS7_0)]) dbSIGNS7 (Nat.le_of_ble_eq_true rfl) _) (.cons (f := []) (g := []) (zu0 (ys := [("done", uSIGNS8_0)]) dbSIGNS8 (Nat.le_of_ble_eq_true rfl) _) .nil)))))))))⟩
  have g_WORD_SIGN := PySem.W.mg_of X G g10
  obtain ⟨t10, ei10⟩ := gi10
  subst ei10
  have g_STOP_SIGN := PySem.W.mg_of X G g11
  obtain ⟨t11, ei11⟩ := gi11
  subst ei11
  have g_HANG_SIGN := PySem.W.mg_of X G g12
  obtain ⟨t12, ei12⟩ := gi12
  subst ei12
  refine ⟨PySem.W.fnOf "law" "law" (zi2 yd2) (zh3 yd2) (zc7 yd2) .none kV15 dc15 pm15 an15 cd15 ct15, fun s v => .of_eq rfl, fun base _ _ => ?_⟩
  have H1 := xj9 (P := l.prog) (w := w) (base := base) (n := 0) D_l_cell_at z_len
  have H2 := xu6 (n := 1) D_l_mixed D_l_cell_at H1 z_len z_max
  have G_l_mixed := wz1 (κ := κ) H2
  have G_l_word := wb0 (P := l.prog) (w := w) (base := base) (κ := κ) (n := 0) D_l_word z_range
  have G_l_leaf := wb1 (P := l.prog) (w := w) (base := base) (κ := κ) (n := 1) D_l_leaf D_l_word (G_l_word.mono (by decide))
  have G_l_shut := wb2 (P := l.prog) (w := w) (base := base) (κ := κ) (n := 0) D_l_shut z_tuple z_len
  have G_l_row := wg7 (P := l.prog) (w := w) (base := base) (κ := κ) (n := 2) D_l_row D_l_mixed (G_l_mixed.mono (by decide)) D_l_shut (G_l_shut.mono (by decide)) D_l_leaf (G_l_leaf.mono (by decide)) z_range z_tuple z_len
  have G_l_some := wb3 (P := l.prog) (w := w) (base := base) (κ := κ) (n := 3) D_l_some D_l_mixed (G_l_mixed.mono (by decide)) D_l_leaf (G_l_leaf.mono (by decide)) D_l_row (G_l_row.mono (by decide)) z_tuple z_min z_range z_len
  have L_l_same : ∀ n, FnOk l.prog w K mg base CX0 (n + 0) _ _ ["_law_found", "_law_due"] (SpP 2 K κ (zt9 n)) := fun n => by
    induction n with
    | zero => exact FnOk.noneP (ps := ["_law_found", "_law_due"])
    | succ n ih => exact wb4 D_l_same ih z_isinstance z_tuple z_str z_range z_int z_len z_bool
  have G_l_same := L_l_same 50
  have G_Nest_init := xk3 (P := l.prog) (w := w) (base := base) (κ := κ) (n := 0) K_Nest cl_Nest na_opener na_ended na_pieces
  have G_Builder_init := yy0 (P := l.prog) (w := w) (base := base) (κ := κ) (n := 1) K_Builder K_Nest (G_Nest_init.mono (by decide)) cl_Builder na_taken na_nests
  have G_p_parts_of := xf3 (P := l.prog) (w := w) (base := base) (κ := κ) (n := 0) D_p_parts_of
  have G_p_number_token := yt4 (P := l.prog) (w := w) (base := base) (κ := κ) (n := 0) D_p_number_token z_range z_str
  have G_p_is_word := xk1 (P := l.prog) (w := w) (base := base) (κ := κ) (n := 0) D_p_is_word z_all z_isinstance z_str z_len g_LONGEST_WORD
  have G_p_token_of := xf1 (P := l.prog) (w := w) (base := base) (κ := κ) (n := 1) D_p_token_of D_p_number_token (G_p_number_token.mono (by decide)) D_p_is_word (G_p_is_word.mono (by decide)) g_FURTHEST_STOP g_WIDEST_HANG g_SIGNS k_SIGNS g_WORD_SIGN g_STOP_SIGN g_HANG_SIGN
  have G_Nest_can_end_by := yq6 (P := l.prog) (w := w) (base := base) (κ := κ) (n := 0) M_Nest_can_end_by cl_Nest na_opener na_ended z_len g_FEWEST_ROWS g_MOST_ROWS g_OPENER_OF k_OPENER_OF
  have G_Builder_can_stand := yn5 (P := l.prog) (w := w) (base := base) (κ := κ) (n := 1) M_Builder_can_stand M_Nest_can_end_by (G_Nest_can_end_by.mono (by decide)) cl_Builder na_taken na_nests z_len g_DEEPEST g_MOST_TOKENS g_OPENERS k_OPENERS g_OPENER_OF k_OPENER_OF
  have G_Nest_end_row := yx8 (P := l.prog) (w := w) (base := base) (κ := κ) (n := 0) M_Nest_end_row cl_Nest na_pieces na_ended z_tuple
  have G_Nest_as_piece := yv2 (P := l.prog) (w := w) (base := base) (κ := κ) (n := 0) M_Nest_as_piece cl_Nest na_opener na_pieces na_ended z_tuple
  have G_Builder_add := xb7 (P := l.prog) (w := w) (base := base) (κ := κ) (n := 1) M_Builder_add M_Builder_can_stand (G_Builder_can_stand.mono (by decide)) K_Nest (G_Nest_init.mono (by decide)) M_Nest_end_row (G_Nest_end_row.mono (by decide)) M_Nest_as_piece (G_Nest_as_piece.mono (by decide)) cl_Builder cl_Nest na_taken na_nests na_pieces g_OPENERS k_OPENERS g_OPENER_OF k_OPENER_OF
  have G_p_add_written := yv1 (P := l.prog) (w := w) (base := base) (κ := κ) (n := 3) D_p_add_written D_p_token_of (G_p_token_of.mono (by decide)) M_Builder_add (G_Builder_add.mono (by decide))
  have G_Builder_row_so_far := yl6 (P := l.prog) (w := w) (base := base) (κ := κ) (n := 0) M_Builder_row_so_far cl_Builder cl_Nest na_pieces na_nests z_tuple
  have G_Builder_whole_row := yn7 (P := l.prog) (w := w) (base := base) (κ := κ) (n := 1) M_Builder_whole_row M_Builder_row_so_far (G_Builder_row_so_far.mono (by decide)) cl_Builder na_nests z_len
  have G_p_read := wa9 (P := l.prog) (w := w) (base := base) (κ := κ) (n := 3) D_p_read K_Builder (G_Builder_init.mono (by decide)) D_p_parts_of (G_p_parts_of.mono (by decide)) D_p_add_written (G_p_add_written.mono (by decide)) M_Builder_whole_row (G_Builder_whole_row.mono (by decide))
  have L_l_listed : ∀ n, FnOk l.prog w K mg base CX0 (n + 0) _ _ ["_law_row_here"] (SpP 1 K κ (yk1 n)) := fun n => by
    induction n with
    | zero => exact FnOk.noneP (ps := ["_law_row_here"])
    | succ n ih => exact xo0 D_l_listed ih z_range z_len z_int z_str
  have G_l_listed := L_l_listed 50
  have G_law := ws5 (P := l.prog) (w := w) (base := base) (κ := κ) (n := 50) D_law D_l_some (G_l_some.mono (by decide)) D_l_same (G_l_same.mono (by decide)) D_p_read (G_p_read.mono (by decide)) D_l_listed (G_l_listed.mono (by decide))
  exact wz2 G_law fun ns hl => xw3 (by rw [List.length_map]; exact hl) (wi0 hl)
end My
open PySem PySem.W PyProof.Rows
set_option maxRecDepth 100000 in
set_option maxHeartbeats 0 in
theorem PySem.Challenge.cw_linepress_k16_read_back_holds : PySem.Challenge.rw_linepress_k16_read_back.Holds := by
  w_on; o_law; k_head; (case hw => w_witness2)
  k_fill
  refine My.wz3 (lev := 51) (l := PySem.Challenge.rw_linepress_k16_read_back) rfl rfl ⟨rfl, by decide, by decide⟩ (fun w h Y => PySem.W.kIn_of Y) ?F
  case F =>
    intro w mg fa h KX G hmg
    refine' My.wu1 KX G hmg ?my_a0 ?my_l0 ?my_c0 ?my_k0 ?my_a1 ?my_l1 ?my_c1 ?my_k1 ?my_a2 ?my_l2 ?my_c2 ?my_k2 ?my_a3 ?my_l3 ?my_c3 ?my_k3 ?my_a4 ?my_l4 ?my_c4 ?my_k4 ?my_a5 ?my_l5 ?my_c5 ?my_k5 ?my_a6 ?my_l6 ?my_c6 ?my_k6 ?my_a7 ?my_l7 ?my_c7 ?my_k7 ?my_a8 ?my_l8 ?my_c8 ?my_k8 ?my_a9 ?my_l9 ?my_c9 ?my_k9 ?my_a10 ?my_l10 ?my_c10 ?my_k10 ?my_a11 ?my_l11 ?my_c11 ?my_k11 ?my_a12 ?my_l12 ?my_c12 ?my_k12 ?my_a13 ?my_l13 ?my_c13 ?my_k13 ?my_a14 ?my_l14 ?my_c14 ?my_k14 ?my_a15 ?my_l15 ?my_c15 ?my_k15 ?my_z0 ?my_z1 ?my_z2 ?my_z3 ?my_z4 ?my_z5 ?my_z6 ?my_z7 ?my_z8 ?my_z9 ?my_g0 ?my_gi0 ?my_g1 ?my_gi1 ?my_g2 ?my_gi2 ?my_g3 ?my_gi3 ?my_g4 ?my_gi4 ?my_g5 ?my_gi5 ?my_g6 ?my_gi6 ?my_g7 ?my_dtOPENERS ?my_g8 ?my_dlOPENER_OF ?my_deOPENER_OF ?my_dsOPENER_OF ?my_g9 ?my_dlSIGNS ?my_deSIGNS ?my_dsSIGNS ?my_dbSIGNS0 ?my_dbSIGNS1 ?my_dbSIGNS2 ?my_dbSIGNS3 ?my_dbSIGNS4 ?my_dbSIGNS5 ?my_dbSIGNS6 ?my_dbSIGNS7 ?my_dbSIGNS8 ?my_g10 ?my_gi10 ?my_g11 ?my_gi11 ?my_g12 ?my_gi12 ?my_gC_Nest ?my_pg_Nest ?my_hd_Nest ?my_po_Nest ?my_sa_Nest ?my_mk_Nest ?my_kc_Nest ?my_fi_Nest_init ?my_is_Nest_init ?my_lo_Nest_init ?my_co_Nest_init ?my_ke_Nest_init ?my_fi_Nest_end_row ?my_is_Nest_end_row ?my_lo_Nest_end_row ?my_co_Nest_end_row ?my_ke_Nest_end_row ?my_fi_Nest_can_end_by ?my_is_Nest_can_end_by ?my_lo_Nest_can_end_by ?my_co_Nest_can_end_by ?my_ke_Nest_can_end_by ?my_fi_Nest_as_piece ?my_is_Nest_as_piece ?my_lo_Nest_as_piece ?my_co_Nest_as_piece ?my_ke_Nest_as_piece ?my_nf_opener ?my_nf_ended ?my_nf_pieces ?my_gC_Builder ?my_pg_Builder ?my_hd_Builder ?my_po_Builder ?my_sa_Builder ?my_mk_Builder ?my_kc_Builder ?my_fi_Builder_init ?my_is_Builder_init ?my_lo_Builder_init ?my_co_Builder_init ?my_ke_Builder_init ?my_fi_Builder_can_stand ?my_is_Builder_can_stand ?my_lo_Builder_can_stand ?my_co_Builder_can_stand ?my_ke_Builder_can_stand ?my_fi_Builder_add ?my_is_Builder_add ?my_lo_Builder_add ?my_co_Builder_add ?my_ke_Builder_add ?my_fi_Builder_row_so_far ?my_is_Builder_row_so_far ?my_lo_Builder_row_so_far ?my_co_Builder_row_so_far ?my_ke_Builder_row_so_far ?my_fi_Builder_whole_row ?my_is_Builder_whole_row ?my_lo_Builder_whole_row ?my_co_Builder_whole_row ?my_ke_Builder_whole_row ?my_nf_taken ?my_nf_nests
    (case my_a0 => k_is)
    (case my_l0 => k_is)
    (case my_c0 => k_is)
    (case my_k0 => k_is)
    (case my_a1 => k_is)
    (case my_l1 => k_is)
    (case my_c1 => k_is)
    (case my_k1 => k_is)
    (case my_a2 => k_is)
    (case my_l2 => k_is)
    (case my_c2 => k_is)
    (case my_k2 => k_is)
    (case my_a3 => k_is)
    (case my_l3 => k_is)
    (case my_c3 => k_is)
    (case my_k3 => k_is)
    (case my_a4 => k_is)
    (case my_l4 => k_is)
    (case my_c4 => k_is)
    (case my_k4 => k_is)
    (case my_a5 => k_is)
    (case my_l5 => k_is)
    (case my_c5 => k_is)
    (case my_k5 => k_is)
    (case my_a6 => k_is)
    (case my_l6 => k_is)
    (case my_c6 => k_is)
    (case my_k6 => k_is)
    (case my_a7 => k_is)
    (case my_l7 => k_is)
    (case my_c7 => k_is)
    (case my_k7 => k_is)
    (case my_a8 => k_is)
    (case my_l8 => k_is)
    (case my_c8 => k_is)
    (case my_k8 => k_is)
    (case my_a9 => k_is)
    (case my_l9 => k_is)
    (case my_c9 => k_is)
    (case my_k9 => k_is)
    (case my_a10 => k_is)
    (case my_l10 => k_is)
    (case my_c10 => k_is)
    (case my_k10 => k_is)
    (case my_a11 => k_is)
    (case my_l11 => k_is)
    (case my_c11 => k_is)
    (case my_k11 => k_is)
    (case my_a12 => k_is)
    (case my_l12 => k_is)
    (case my_c12 => k_is)
    (case my_k12 => k_is)
    (case my_a13 => k_is)
    (case my_l13 => k_is)
    (case my_c13 => k_is)
    (case my_k13 => k_is)
    (case my_a14 => k_is)
    (case my_l14 => k_is)
    (case my_c14 => k_is)
    (case my_k14 => k_is)
    (case my_a15 => k_is)
    (case my_l15 => k_is)
    (case my_c15 => k_is)
    (case my_k15 => k_is)
    (case my_z0 => k_is)
    (case my_z1 => k_is)
    (case my_z2 => k_is)
    (case my_z3 => k_is)
    (case my_z4 => k_is)
    (case my_z5 => k_is)
    (case my_z6 => k_is)
    (case my_z7 => k_is)
    (case my_z8 => k_is)
    (case my_z9 => k_is)
    (case my_g0 => k_is)
    (case my_gi0 => exact ⟨_, rfl⟩)
    (case my_g1 => k_is)
    (case my_gi1 => exact ⟨_, rfl⟩)
    (case my_g2 => k_is)
    (case my_gi2 => exact ⟨_, rfl⟩)
    (case my_g3 => k_is)
    (case my_gi3 => exact ⟨_, rfl⟩)
    (case my_g4 => k_is)
    (case my_gi4 => exact ⟨_, rfl⟩)
    (case my_g5 => k_is)
    (case my_gi5 => exact ⟨_, rfl⟩)
    (case my_g6 => k_is)
    (case my_gi6 => exact ⟨_, rfl⟩)
    (case my_g7 => k_is)
    (case my_dtOPENERS => k_is)
    (case my_g8 => k_is)
    (case my_dlOPENER_OF => k_is)
    (case my_deOPENER_OF => rfl)
    (case my_dsOPENER_OF => rfl)
    (case my_g9 => k_is)
    (case my_dlSIGNS => k_is)
    (case my_deSIGNS => rfl)
    (case my_dsSIGNS => rfl)
    (case my_dbSIGNS0 => k_is)
    (case my_dbSIGNS1 => k_is)
    (case my_dbSIGNS2 => k_is)
    (case my_dbSIGNS3 => k_is)
    (case my_dbSIGNS4 => k_is)
    (case my_dbSIGNS5 => k_is)
    (case my_dbSIGNS6 => k_is)
    (case my_dbSIGNS7 => k_is)
    (case my_dbSIGNS8 => k_is)
    (case my_g10 => k_is)
    (case my_gi10 => exact ⟨_, rfl⟩)
    (case my_g11 => k_is)
    (case my_gi11 => exact ⟨_, rfl⟩)
    (case my_g12 => k_is)
    (case my_gi12 => exact ⟨_, rfl⟩)
    (case my_gC_Nest => k_is)
    (case my_pg_Nest => k_is)
    (case my_hd_Nest => k_is)
    (case my_po_Nest => k_is)
    (case my_sa_Nest => k_is)
    (case my_mk_Nest => k_is)
    (case my_kc_Nest => k_is)
    (case my_fi_Nest_init => k_is)
    (case my_is_Nest_init => k_is)
    (case my_lo_Nest_init => k_is)
    (case my_co_Nest_init => k_is)
    (case my_ke_Nest_init => k_is)
    (case my_fi_Nest_end_row => k_is)
    (case my_is_Nest_end_row => k_is)
    (case my_lo_Nest_end_row => k_is)
    (case my_co_Nest_end_row => k_is)
    (case my_ke_Nest_end_row => k_is)
    (case my_fi_Nest_can_end_by => k_is)
    (case my_is_Nest_can_end_by => k_is)
    (case my_lo_Nest_can_end_by => k_is)
    (case my_co_Nest_can_end_by => k_is)
    (case my_ke_Nest_can_end_by => k_is)
    (case my_fi_Nest_as_piece => k_is)
    (case my_is_Nest_as_piece => k_is)
    (case my_lo_Nest_as_piece => k_is)
    (case my_co_Nest_as_piece => k_is)
    (case my_ke_Nest_as_piece => k_is)
    (case my_nf_opener => k_is)
    (case my_nf_ended => k_is)
    (case my_nf_pieces => k_is)
    (case my_gC_Builder => k_is)
    (case my_pg_Builder => k_is)
    (case my_hd_Builder => k_is)
    (case my_po_Builder => k_is)
    (case my_sa_Builder => k_is)
    (case my_mk_Builder => k_is)
    (case my_kc_Builder => k_is)
    (case my_fi_Builder_init => k_is)
    (case my_is_Builder_init => k_is)
    (case my_lo_Builder_init => k_is)
    (case my_co_Builder_init => k_is)
    (case my_ke_Builder_init => k_is)
    (case my_fi_Builder_can_stand => k_is)
    (case my_is_Builder_can_stand => k_is)
    (case my_lo_Builder_can_stand => k_is)
    (case my_co_Builder_can_stand => k_is)
    (case my_ke_Builder_can_stand => k_is)
    (case my_fi_Builder_add => k_is)
    (case my_is_Builder_add => k_is)
    (case my_lo_Builder_add => k_is)
    (case my_co_Builder_add => k_is)
    (case my_ke_Builder_add => k_is)
    (case my_fi_Builder_row_so_far => k_is)
    (case my_is_Builder_row_so_far => k_is)
    (case my_lo_Builder_row_so_far => k_is)
    (case my_co_Builder_row_so_far => k_is)
    (case my_ke_Builder_row_so_far => k_is)
    (case my_fi_Builder_whole_row => k_is)
    (case my_is_Builder_whole_row => k_is)
    (case my_lo_Builder_whole_row => k_is)
    (case my_co_Builder_whole_row => k_is)
    (case my_ke_Builder_whole_row => k_is)
    (case my_nf_taken => k_is)
    (case my_nf_nests => k_is)
#print axioms PySem.Challenge.cw_linepress_k16_read_back_holds

