import PyProof.Rows.All
import Wide.All
import OpenK.AllK
import Wide.FinOn
import Lean
import PyProof.EqAt
import PyProof.EqKinds
import PyProof.TupleCall
import PySem.Challenge.RW_linepress_k13_earlier
set_option Elab.async false
set_option bootstrap.genMatcherCode false
set_option genSizeOfSpec false
set_option genInjectivity false
set_option linter.all false
set_option maxRecDepth 100000
set_option maxHeartbeats 1000000
namespace L2
open PySem PySem.Spec PyProof.Rows
noncomputable abbrev Key := Sum Int Str
noncomputable def wn9 : Key -> Value -> Bool
  | .inl k, v => Value.isInt k v
  | .inr x, v => Value.isStrOf x v
noncomputable def kc9 (w : World) : Key -> Int
  | .inl k => hashInt k
  | .inr x => hashStr w x
theorem zo7 : ∀ {k : Key} {v : Value}, wn9 k v = true -> (∃ i t, k = Sum.inl i /\ v = Value.int i t) \/ (∃ x t, k = Sum.inr x /\ v = Value.str x t)
  | .inl i, v, h => by
    obtain ⟨t, e⟩ := Value.isInt_shape (k := i) (v := v) h
    exact .inl ⟨i, t, rfl, e⟩
  | .inr x, v, h => by
    obtain ⟨t, e⟩ := Value.isStrOf_shape (x := x) (v := v) h
    exact .inr ⟨x, t, rfl, e⟩
theorem ws6 (a b : Int) : decide ((Sum.inl a : Key) = Sum.inl b) = (a == b) := by
  by_cases e : a = b
  . subst e; simp
  . have h : ¬ (Sum.inl a : Key) = Sum.inl b := fun q => e (Sum.inl.inj q)
    rw [decide_eq_false h]
    exact (beq_eq_false_iff_ne.mpr e).symm
theorem ws7 (a b : Str) : decide ((Sum.inr a : Key) = Sum.inr b) = decide (a = b) := by
  by_cases e : a = b
  . subst e; simp
  . have h : ¬ (Sum.inr a : Key) = Sum.inr b := fun q => e (Sum.inr.inj q)
    rw [decide_eq_false h, decide_eq_false e]
theorem ws8 (a : Int) (b : Str) : decide ((Sum.inl a : Key) = Sum.inr b) = false := decide_eq_false (fun q => nomatch q)
theorem ws9 (a : Str) (b : Int) : decide ((Sum.inr a : Key) = Sum.inl b) = false := decide_eq_false (fun q => nomatch q)
noncomputable def xg4 (prog : Program) (w : World) : PySem.KeyKind prog w Key where
  is := wn9
  hash := kc9 w
  inj := fun v a b ha hb => by
    rcases zo7 ha with ⟨i, t, rfl, rfl⟩ | ⟨x, t, rfl, rfl⟩
    . rcases zo7 hb with ⟨j, u, rfl, e⟩ | ⟨y, u, rfl, e⟩
      . injection e with e1 _; rw [e1]
      . exact nomatch e
    . rcases zo7 hb with ⟨j, u, rfl, e⟩ | ⟨y, u, rfl, e⟩
      . exact nomatch e
      . injection e with e1 _; rw [e1]
  byValue := fun k v h => by
    rcases zo7 h with ⟨i, t, rfl, rfl⟩ | ⟨x, t, rfl, rfl⟩ <;> rfl
  pyHash := fun hv h => by
    rcases zo7 hv with ⟨i, t, rfl, rfl⟩ | ⟨x, t, rfl, rfl⟩
    . exact wpAny_pyHash_int h
    . exact wpAny_pyHash_str h
  eqBool := fun hu hv h => by
    rcases zo7 hu with ⟨i, t, rfl, rfl⟩ | ⟨x, t, rfl, rfl⟩
    . rcases zo7 hv with ⟨j, u, rfl, rfl⟩ | ⟨y, u, rfl, rfl⟩
      . rw [ws6] at h; exact wpAny_eqBool_int h
      . rw [ws8] at h; exact SeqAt.EqAt.int_str i t y u _ _ _ _ h
    . rcases zo7 hv with ⟨j, u, rfl, rfl⟩ | ⟨y, u, rfl, rfl⟩
      . rw [ws9] at h; exact SeqAt.EqAt.str_int x t j u _ _ _ _ h
      . rw [ws7] at h; exact wpAny_eqBool_str h
  «strs» := fun k x t v h => by
    rcases zo7 h with ⟨i, u, rfl, e⟩ | ⟨y, u, rfl, e⟩
    . exact nomatch e
    . injection e with e1 _
      subst e1
      cases v <;> rfl
end L2
namespace L2
open PySem PySem.Spec PyProof.Rows
set_option genInjectivity true in
inductive V where
  | non | bl (b : Bool) | int (i : Int) | str (x : Str) | byt (b : Array UInt8) | flt (b : UInt64) | ref (a : Addr) | ty (n : String)
  deriving DecidableEq
noncomputable def zh6 : V -> Value -> Prop
  | .non, u => u = Value.none
  | .bl b, u => u = Value.bool b
  | .int i, u => ∃ t, u = Value.int i t
  | .str x, u => ∃ t, u = Value.str x t
  | .byt b, u => ∃ t, u = Value.bytes b t
  | .flt b, u => ∃ t, u = Value.float b t
  | .ref a, u => u = Value.ref a
  | .ty n, u => u = Value.type n
noncomputable abbrev ze5 : List V -> List Value -> Prop := Paired zh6
theorem ze5.length {xs : List V} {us : List Value} (r : ze5 xs us) : xs.length = us.length := Paired.length r
theorem ze5.get : ∀ {xs : List V} {us : List Value} {i : Nat} {x : V}, ze5 xs us -> xs[i]? = some x -> ∃ u, us[i]? = some u /\ zh6 x u
  | _, _, _, _, .nil, e => by simp at e
  | _, _, 0, _, .cons r _, e => by simp at e; subst e; exact ⟨_, rfl, r⟩
  | _, _, i + 1, x, .cons _ t, e => by
    obtain ⟨u, h1, h2⟩ := ze5.get (i := i) (x := x) t (by simpa using e)
    exact ⟨u, by simpa using h1, h2⟩
theorem ze5.set {x : V} {u : Value} (r : zh6 x u) : ∀ {xs : List V} {us : List Value} (i : Nat), ze5 xs us -> ze5 (xs.set i x) (us.set i u)
  | _, _, _, .nil => .nil
  | _, _, 0, .cons _ t => .cons r t
  | _, _, i + 1, .cons q t => .cons q (ze5.set r i t)
theorem ze5.append : ∀ {xs ys : List V} {us ws : List Value}, ze5 xs us -> ze5 ys ws -> ze5 (xs ++ ys) (us ++ ws)
  | _, _, _, _, .nil, s => s
  | _, _, _, _, .cons r t, s => .cons r (ze5.append t s)
theorem ze5.take : ∀ {xs : List V} {us : List Value} (n : Nat), ze5 xs us -> ze5 (xs.take n) (us.take n)
  | _, _, 0, _ => .nil
  | _, _, _ + 1, .nil => .nil
  | _, _, n + 1, .cons r t => .cons r (ze5.take n t)
theorem ze5.drop : ∀ {xs : List V} {us : List Value} (n : Nat), ze5 xs us -> ze5 (xs.drop n) (us.drop n)
  | _, _, 0, r => r
  | _, _, _ + 1, .nil => .nil
  | _, _, n + 1, .cons _ t => ze5.drop n t
noncomputable def yf8 : Option V -> Option Value -> Prop
  | some v, some u => zh6 v u
  | none, none => True
  | _, _ => False
noncomputable def KV {κ : Type} : List (κ × V) -> List (κ × Value) -> Prop := Paired fun (p : κ × V) (q : κ × Value) => p.1 = q.1 /\ zh6 p.2 q.2
noncomputable def kV : Key -> V
  | .inl i => .int i
  | .inr x => .str x
inductive HO where
  | lst (xs : List V)
  | tup (xs : List V)
  | dK (kvs : List (Key × V)) | dT (kvs : List (List Key × V))
  | set (S : Int -> Bool) (n : Nat)
  | ins (C dx : Addr) (fs : List (Str × V))
  | own (x : Addr)
  | xd (fs : List (Str × V))
  | met (f x : Addr)
  | rng (lo hi : Int)
  | frz (o : Obj) (u : HO)
  | tbl (ps : Array Value)
  | ext (φ : Heap -> Prop)
noncomputable abbrev Hp := Addr -> Option HO
noncomputable def upd (H : Hp) (a : Addr) (o : HO) : Hp := fun b => if b = a then some o else H b
theorem zj5 {H : Hp} {a : Addr} {o : HO} : upd H a o a = some o := by unfold upd; rw [if_pos rfl]
theorem zg5 {H : Hp} {a b : Addr} {o : HO} (h : b ≠ a) : upd H a o b = H b := by unfold upd; rw [if_neg h]
theorem zy6 {H : Hp} {a b : Addr} {o : HO} (h : H a = some o) (h' : H b = none) : a ≠ b := by
  intro e; subst e; rw [h] at h'; cases h'
section
variable (P : Program) (w : World)
noncomputable def zs5 (H : Hp) (h : Heap) (a : Addr) : HO -> Prop
  | .lst xs => xs.length <= sizeLine /\ ∃ (its : List Value) (n : Nat), ze5 xs its /\ h.get? a = some { cls := .type "list", data := .seq its.toArray n }
  | .tup xs => xs.length <= sizeLine /\ ∃ its : List Value, ze5 xs its /\ IsTup h a its.toArray
  | .dK kvs => kvs.length <= sizeLine /\ (a == sysModules) = false /\ ∃ vs, KV kvs vs /\ h.DictOf (xg4 P w) a vs
  | .dT kvs => kvs.length <= sizeLine /\ (a == sysModules) = false /\ ∃ xs : List (List Key × Addr × Value),
      Paired (fun (p : List Key × V) (q : List Key × Addr × Value) => p.1 = q.1 /\ H q.2.1 = some (.tup (p.1.map kV)) /\ zh6 p.2 q.2.2) kvs xs /\
      ∃ o es ep, h.get? a = some o /\ o.ExactDict /\ o.data = .dict es ep /\ es.toList = xs.map (entryOfKey (tupleKind (xg4 P w))) /\ (xs.map (·.1)).Nodup
  | .set S n => h.SetOf (intKind P w) a S n
  | .ins C dx fs => H dx = some (.own a) /\ fs.length <= 1000 /\ dx ≠ a /\ h.get? a = some (PySem.W.instObj C dx) /\
      ∃ mA, h.Ns1 dx mA /\ (∀ f, yf8 (fs.lookup f) (mA f)) /\ PySem.Within mA (fs.map (·.1))
  | .own _ => ∃ o, h.get? a = some o
  | .xd fs => ∃ mA, h.Ns1 a mA /\ ∀ f, yf8 (fs.lookup f) (mA f)
  | .rng lo hi => ∃ t u v, h.get? a = some { cls := .type "range", data := .fields #[.int lo t, .int hi u, .int 1 v] }
  | .frz o u => h.get? a = some o /\ zs5 H h a u
  | .tbl ps => h.get? a = some { cls := .none, data := .fields ps }
  | .met f x => h.get? a = some (PySem.W.methodObj (.ref f) (.ref x))
  | .ext φ => φ h /\ (∃ o, h.get? a = some o) /\ ∀ h1 h2 : Heap, φ h1 -> (∀ o, h1.get? a = some o -> h2.get? a = some o) -> φ h2
noncomputable def HOk (H : Hp) (h : Heap) : Prop := ∀ a o, H a = some o -> zs5 P w H h a o
end
section
variable {P : Program} {w : World} {H H' : Hp} {h h' : Heap} {a : Addr} {o : HO}
theorem zs5.lt (x : zs5 P w H h a o) : a < h.objs.size := by
  cases o with
  | lst xs => obtain ⟨_, _, _, _, e⟩ := x; exact Heap.lt_size e
  | tup xs => obtain ⟨_, _, _, p⟩ := x; exact p.lt
  | dK kvs => obtain ⟨_, _, _, _, o, _, _, e, _⟩ := x; exact Heap.lt_size e
  | dT kvs => obtain ⟨_, _, _, _, o, _, _, e, _⟩ := x; exact Heap.lt_size e
  | set S n => obtain ⟨o, _, _, _, e, _⟩ := x; exact Heap.lt_size e
  | ins C dx fs => obtain ⟨_, _, _, e, _⟩ := x; exact Heap.lt_size e
  | own y => obtain ⟨_, e⟩ := x; exact Heap.lt_size e
  | xd fs => obtain ⟨_, ⟨_, _, _, e, _⟩, _⟩ := x; exact Heap.lt_size e
  | rng lo hi => obtain ⟨_, _, _, e⟩ := x; exact Heap.lt_size e
  | frz ob u => obtain ⟨e, _⟩ := x; exact Heap.lt_size e
  | tbl ps => exact Heap.lt_size (show h.get? a = some _ from x)
  | met f y => exact Heap.lt_size (show h.get? a = some _ from x)
  | ext φ => obtain ⟨_, ⟨_, e⟩, _⟩ := x; exact Heap.lt_size e
theorem Paired.mapP {α β : Type} {F G : α -> β -> Prop} : ∀ {l₁ : List α} {l₂ : List β}, Paired F l₁ l₂ -> (∀ a b, F a b -> G a b) -> Paired G l₁ l₂
  | _, _, .nil, _ => .nil
  | _, _, .cons r t, f => .cons (f _ _ r) (Paired.mapP t f)
theorem zs5.stay (x : zs5 P w H h a o) (k : ∀ b u, (b = a \/ H b = some (.own a)) -> h.get? b = some u -> h'.get? b = some u)
    (ho : ∀ b, H b = some (.own a) -> H' b = some (.own a)) (ht : ∀ b xs, H b = some (.tup xs) -> H' b = some (.tup xs)) : zs5 P w H' h' a o := by
  induction o with
  | lst xs => obtain ⟨z, its, n, r, e⟩ := x; exact ⟨z, its, n, r, k _ _ (.inl rfl) e⟩
  | tup xs => obtain ⟨z, its, r, ob, e, c⟩ := x; exact ⟨z, its, r, ob, k _ _ (.inl rfl) e, c⟩
  | dK kvs => obtain ⟨z, y, vs, r, ob, es, ep, e, c⟩ := x; exact ⟨z, y, vs, r, ob, es, ep, k _ _ (.inl rfl) e, c⟩
  | dT kvs =>
    obtain ⟨z, y, xs, r, ob, es, ep, e, c⟩ := x
    exact ⟨z, y, xs, Paired.mapP r fun p q z => ⟨z.1, ht _ _ z.2.1, z.2.2⟩, ob, es, ep, k _ _ (.inl rfl) e, c⟩
  | set S n => obtain ⟨ob, es, ep, t, e, c⟩ := x; exact ⟨ob, es, ep, t, k _ _ (.inl rfl) e, c⟩
  | ins C dx fs =>
    obtain ⟨d, z, ne, e, mA, ⟨od, es, ep, e2, c⟩, r⟩ := x
    exact ⟨ho _ d, z, ne, k _ _ (.inl rfl) e, mA, ⟨od, es, ep, k _ _ (.inr d) e2, c⟩, r⟩
  | own y => obtain ⟨ob, e⟩ := x; exact ⟨ob, k _ _ (.inl rfl) e⟩
  | xd fs => obtain ⟨mA, ⟨od, es, ep, e, c⟩, r⟩ := x; exact ⟨mA, ⟨od, es, ep, k _ _ (.inl rfl) e, c⟩, r⟩
  | rng lo hi => obtain ⟨t, u, v, e⟩ := x; exact ⟨t, u, v, k _ _ (.inl rfl) e⟩
  | frz ob u ih => obtain ⟨e, q⟩ := x; exact ⟨k _ _ (.inl rfl) e, ih q⟩
  | tbl ps =>
    have e : h.get? a = some { cls := .none, data := .fields ps } := x
    show h'.get? a = some { cls := .none, data := .fields ps }
    exact k a _ (.inl rfl) e
  | met f y =>
    have e : h.get? a = some (PySem.W.methodObj (.ref f) (.ref y)) := x
    show h'.get? a = some (PySem.W.methodObj (.ref f) (.ref y))
    exact k a _ (.inl rfl) e
  | ext φ => obtain ⟨p, ⟨o, e⟩, st⟩ := x; exact ⟨st _ _ p fun o q => k _ _ (.inl rfl) q, ⟨o, k _ _ (.inl rfl) e⟩, st⟩
theorem HOk.lt (x : HOk P w H h) (e : H a = some o) : a < h.objs.size := (x a o e).lt
theorem HOk.fresh (x : HOk P w H h) (e : h.objs.size <= a) : H a = none := by
  cases q : H a with
  | none => rfl
  | some u => exact absurd (Nat.lt_of_lt_of_le (x.lt q) e) (Nat.lt_irrefl _)
theorem HOk.kept (x : HOk P w H h) (k : ∀ b u, h.get? b = some u -> h'.get? b = some u) : HOk P w H h' := fun a o e =>
  (x a o e).stay (fun b u _ q => k b u q) (fun _ q => q) fun _ _ q => q
theorem HOk.laid (x : HOk P w H h) (k : ∀ b u, h.get? b = some u -> h'.get? b = some u) (hp : h.objs.size <= a) (new : zs5 P w (upd H a o) h' a o) : HOk P w (upd H a o) h' := fun b u e => by
  have hn := x.fresh hp
  by_cases hb : b = a
  . subst hb; rw [zj5] at e; cases e; exact new
  . rw [zg5 hb] at e
    exact (x b u e).stay (fun c v _ q => k c v q) (fun c q => by rw [zg5 (zy6 q hn)]; exact q) fun c xs q => by rw [zg5 (zy6 q hn)]; exact q
end
noncomputable def Rd (H : Hp) (a : Addr) (u : HO) : Prop := H a = some u \/ ∃ o, H a = some (.frz o u)
theorem Rd.ok {P : Program} {w : World} {H : Hp} {h : Heap} {a : Addr} {u : HO} (r : Rd H a u) (x : HOk P w H h) : zs5 P w H h a u := by
  rcases r with r | ⟨o, r⟩
  . exact x a u r
  . obtain ⟨_, q⟩ := x a _ r
    exact q
noncomputable def Mut : Option HO -> Prop
  | some (.lst _) => True
  | some (.dK _) => True
  | some (.dT _) => True
  | some (.set _ _) => True
  | some (.ins _ _ _) => True
  | some (.ext _) => True
  | _ => False
section
variable {P : Program} {w : World} {H : Hp} {h h' : Heap} {x e : Addr} {o' : HO}
theorem HOk.write (ok : HOk P w H h) (mu : Mut (H x)) (he : e = x \/ H e = some (.own x)) (k : ∀ b u, b ≠ e -> h.get? b = some u -> h'.get? b = some u) (heo : ∃ u, h'.get? e = some u)
    (new : zs5 P w (upd H x o') h' x o') : HOk P w (upd H x o') h' := fun b u q => by
  have nown : ∀ c y, H c = some (.own y) -> c ≠ x := fun c y r z => by subst z; rw [r] at mu; exact mu
  have ntup : ∀ c xs, H c = some (.tup xs) -> c ≠ x := fun c xs r z => by subst z; rw [r] at mu; exact mu
  by_cases hb : b = x
  . subst hb; rw [zj5] at q; cases q; exact new
  . rw [zg5 hb] at q
    by_cases hbe : b = e
    . have q' : H b = some (.own x) := by
        rcases he with z | z
        . exact absurd (hbe.trans z) hb
        . rw [hbe]; exact z
      rw [q] at q'; cases q'
      obtain ⟨v, hv⟩ := heo
      exact ⟨v, by rw [hbe]; exact hv⟩
    . refine (ok b u q).stay (fun c v hc r => k c v ?_ r) (fun c r => by rw [zg5 (nown c b r)]; exact r) fun c xs r => by rw [zg5 (ntup c xs r)]; exact r
      rcases hc with rfl | hc
      . exact hbe
      . rintro rfl
        rcases he with z | z
        . exact nown c b hc z
        . rw [hc] at z; cases z; exact hb rfl
end
structure Un (fs ex : List Addr) (H H' : Hp) (h h' : Heap) : Prop where
  keep : ∀ b o, h.get? b = some o -> H b = none -> b ∉ fs -> b ∉ ex -> h'.get? b = some o
  slot : ∀ b o, h.get? b = some o -> H b = none -> b ∈ fs -> b ∉ ex -> ∃ sl, h'.get? b = some { o with slots := sl }
  free : ∀ b o, h.get? b = some o -> H b = none -> b ∉ ex -> H' b = none
  there : ∀ b o, h.get? b = some o -> b ∉ ex -> ∃ o', h'.get? b = some o'
  tups : ∀ b xs, H b = some (.tup xs) -> H' b = some (.tup xs)
  frzs : ∀ b o u, H b = some (.frz o u) -> H' b = some (.frz o u)
  tbls : ∀ b ps, H b = some (.tbl ps) -> ∃ more, H' b = some (.tbl (ps ++ more))
section
variable {fs fs' ex ex' : List Addr} {H H1 H2 : Hp} {h h1 h2 h' : Heap} {a x e : Addr} {o : HO}
theorem Un.any (u : Un fs ex H H1 h h1) {b : Addr} {ob : Obj} (q : h.get? b = some ob) (n : H b = none) (hx : b ∉ ex) : ∃ sl, h1.get? b = some { ob with slots := sl } := by
  by_cases hb : b ∈ fs
  . exact u.slot b ob q n hb hx
  . exact ⟨ob.slots, u.keep b ob q n hb hx⟩
theorem Un.kept (k : ∀ b u, h.get? b = some u -> h'.get? b = some u) : Un fs ex H H h h' :=
  ⟨fun b ob q _ _ _ => k b ob q, fun b ob q _ _ _ => ⟨ob.slots, k b ob q⟩, fun _ _ _ n _ => n, fun b ob q _ => ⟨ob, k b ob q⟩, fun _ _ q => q, fun _ _ _ q => q, fun _ ps q => ⟨#[], by rw [q]; simp⟩⟩
theorem Un.refl : Un fs ex H H h h := Un.kept fun _ _ q => q
theorem Un.laid (k : ∀ b u, h.get? b = some u -> h'.get? b = some u) (hp : h.objs.size <= a) (hn : H a = none) : Un fs ex H (upd H a o) h h' where
  keep := fun b u q _ _ _ => k b u q
  slot := fun b u q _ _ _ => ⟨u.slots, k b u q⟩
  free := fun b u q n _ => by rw [zg5 (Nat.ne_of_lt (Nat.lt_of_lt_of_le (Heap.lt_size q) hp))]; exact n
  there := fun b u q _ => ⟨u, k b u q⟩
  tups := fun b xs q => by rw [zg5 (zy6 q hn)]; exact q
  frzs := fun b u xs q => by rw [zg5 (zy6 q hn)]; exact q
  tbls := fun b ps q => ⟨#[], by rw [zg5 (zy6 q hn), q]; simp⟩
theorem Un.write (mu : Mut (H x)) (he : e = x \/ H e = some (.own x)) (k : ∀ b u, b ≠ e -> h.get? b = some u -> h'.get? b = some u) (heo : ∃ u, h'.get? e = some u) : Un fs ex H (upd H x o) h h' := by
  have hx : ∀ b, H b = none -> b ≠ x := fun b n z => by subst z; rw [n] at mu; exact mu
  have hb : ∀ b, H b = none -> b ≠ e := fun b n z => by
    subst z
    rcases he with r | r
    . exact hx b n r
    . rw [n] at r; cases r
  have hm : ∀ b u, H b = some u -> ¬ Mut (some u) -> b ≠ x := fun b u q nm z => by subst z; rw [q] at mu; exact nm mu
  refine ⟨fun b u q n _ _ => k b u (hb b n) q, fun b u q n _ _ => ⟨u.slots, k b u (hb b n) q⟩, fun b u q n _ => by rw [zg5 (hx b n)]; exact n, fun b u q _ => ?_,
    fun b xs q => by rw [zg5 (hm b _ q fun z => z)]; exact q, fun b u xs q => by rw [zg5 (hm b _ q fun z => z)]; exact q, fun b ps q => ⟨#[], by rw [zg5 (hm b _ q fun z => z), q]; simp⟩⟩
  by_cases hbe : b = e
  . subst hbe; exact heo
  . exact ⟨u, k b u hbe q⟩
end
noncomputable def trk (h : Heap) (H : Hp) : List Addr := (List.range h.objs.size).filter fun a => (H a).isSome
noncomputable def yn8 (h : Heap) (H : Hp) : Heap := PySem.W.hideAll h (trk h H)
theorem wa2 (h : Heap) (H : Hp) : (yn8 h H).objs.size = h.objs.size := PySem.W.hideAll_size _ _
theorem wh3 {h : Heap} {H : Hp} {b : Addr} {o : Obj} (e : h.get? b = some o) (n : H b = none) : (yn8 h H).get? b = some o :=
  PySem.W.hideAll_get _ e fun hm => by
    have q : (H b).isSome = true := (List.mem_filter.mp hm).2
    rw [n] at q; simp at q
theorem wo3 {h : Heap} {H : Hp} {b : Addr} {o : Obj} (e : (yn8 h H).get? b = some o) : h.get? b = some o /\ H b = none := by
  have e' : h.get? b = some o := PySem.W.of_hideAll (trk h H) e
  refine ⟨e', ?_⟩
  cases q : H b with
  | none => rfl
  | some x =>
    have hm : b ∈ trk h H := List.mem_filter.mpr ⟨List.mem_range.mpr (Heap.lt_size e'), by simp [q]⟩
    have z : (yn8 h H).get? b = none := PySem.W.hideAll_none (trk h H) hm
    rw [z] at e; cases e
noncomputable def ws3 (g h : Heap) (L : Addr) : List (Addr × Obj) := (List.range h.objs.size).filterMap fun a => if a = L \/ (g.get? a).isSome = true then none else (h.get? a).map fun o => (a, o)
noncomputable def zd5 (g h : Heap) (L d : Addr) : List (Addr × Obj) := (ws3 g h L).filter fun p => decide (p.1 ≠ d)
end L2
namespace L2
open PySem PySem.Spec PyProof.Rows
structure Mod (K : PySem.W.Frag) (mg : Str -> Option Value) (base : Heap) : Prop where
  kin : K.In base
  glob : base.Ns mainGlobals mg
  blt : ∃ mb, base.Ns builtinsNs mb /\ ∀ x : Str, x ≠ "__name__" -> mb x = bootBuiltins x
  nolimit : base.NoLimit
structure Cx where
  prog : Program
  w : World
  K : PySem.W.Frag
  mg : Str -> Option Value
  base : Heap
  A : Around
  N : List Str
  s₀ : Shared
  H₀ : Hp
  env : Env
  outer : List Env
  stack : List Env
  ex : List Addr
  fn : Str -> Bool
  calm : Bool
  pn : List (Addr × Obj)
  xe : Value -> Shared -> Prop
noncomputable def frs (l : List Env) : List Addr := l.filterMap (·.frame)
noncomputable abbrev Cx.fs (X : Cx) : List Addr := frs X.outer
noncomputable def Vis (sc : Scope) (x : Str) : Prop := sc.names.lookup x = some .local \/ sc.names.lookup x = some .cell \/ sc.names.lookup x = some .free
noncomputable def Loc (sc : Scope) (x : Str) : Prop := sc.names.lookup x = some .local \/ sc.names.lookup x = some .cell
noncomputable def kd0 (env : Env) (h : Heap) (m : Str -> Option Value) (x : Str) (u : Value) : Prop :=
  (env.kindOf x = some .local /\ m x = some u) \/ ((env.kindOf x = some .cell \/ env.kindOf x = some .free) /\ ∃ c, env.cells.lookup x = some c /\ h.IsCell c (some u))
structure Cx.Ok (X : Cx) : Prop where
  mod : Mod X.K X.mg X.base
  kind : X.env.scope.kind = .function
  glob : X.env.globals = mainGlobals
  blt : X.env.builtins = builtinsNs
  above : X.s₀.heap.objs.size <= X.env.locals
  inj : ∀ x y c, X.env.cells.lookup x = some c -> X.env.cells.lookup y = some c -> x = y
  has : ∀ x, (X.env.kindOf x = some .cell \/ X.env.kindOf x = some .free) -> ∃ c, X.env.cells.lookup x = some c
  cab : ∀ x c, X.fn x = true -> X.env.cells.lookup x = some c -> X.s₀.heap.objs.size <= c
  hd : X.calm = true -> X.A.handled = none
  frames : X.A.frames = some X.stack
  stk : X.stack = X.outer \/ (X.stack = X.env :: X.outer /\ X.env.frame = some X.env.locals)
  exf : ∀ b ∈ X.ex, b ≠ X.env.locals /\ ∀ x c, X.env.cells.lookup x = some c -> c ≠ b
  bs : ∀ b o, X.base.get? b = some o -> X.s₀.heap.get? b = some o /\ X.H₀ b = none
  bsz : X.base.objs.size <= X.s₀.heap.objs.size
  noex : ∀ b o, X.base.get? b = some o -> b ∉ X.ex
  exfs : ∀ b ∈ X.ex, b ∉ X.fs
  funs : X.s₀.heap.FunFrames X.base X.outer
  frf : ∀ b ∈ X.fs, X.H₀ b = none
structure Inv (X : Cx) (pins : List (Addr × Obj)) (σ : List (Option V)) (H : Hp) (s : Shared) : Prop where
  ok : X.Ok
  os : s.os = X.s₀.os
  bare : AllBare s.gens
  base : Un X.fs X.ex X.H₀ H X.s₀.heap s.heap
  loc : ∃ m, s.heap.Ns X.env.locals m /\ ∀ (i : Nat) (x : Str) (v : V), X.N[i]? = some x -> σ[i]? = some (some v) -> Vis X.env.scope x -> ∃ u, zh6 v u /\ kd0 X.env s.heap m x u
  cell : ∀ x c, X.env.cells.lookup x = some c -> ∃ v, s.heap.IsCell c v
  free : H X.env.locals = none
  freeC : ∀ x c, X.env.cells.lookup x = some c -> H c = none
  pin : ∀ p ∈ X.pn ++ pins, s.heap.get? p.1 = some p.2 /\ H p.1 = none /\ p.1 ≠ X.env.locals /\ p.1 ∉ X.fs /\ ∀ v, p.2.data ≠ .cell v
  hok : HOk X.prog X.w H s.heap
  len : σ.length = X.N.length
section
variable {X : Cx} {pins : List (Addr × Obj)} {σ : List (Option V)} {H H' : Hp} {s : Shared} {h' : Heap}
theorem Cx.Ok.nofr (ok : X.Ok) {b : Addr} {o : Obj} (e : X.base.get? b = some o) : b ∉ X.fs := fun hb => by
  have := (ok.funs.mem hb).1
  rw [e] at this; cases this
theorem Inv.bs (I : Inv X pins σ H s) : ∀ b o, X.base.get? b = some o -> s.heap.get? b = some o /\ H b = none := fun b o e =>
  ⟨I.base.keep b o (I.ok.bs b o e).1 (I.ok.bs b o e).2 (I.ok.nofr e) (I.ok.noex b o e), I.base.free b o (I.ok.bs b o e).1 (I.ok.bs b o e).2 (I.ok.noex b o e)⟩
theorem Inv.bk (I : Inv X pins σ H s) : ∀ b o, X.base.get? b = some o -> s.heap.get? b = some o := fun b o e => (I.bs b o e).1
theorem Inv.mod (I : Inv X pins σ H s) : Mod X.K X.mg X.base := I.ok.mod
theorem Inv.kIn (I : Inv X pins σ H s) : X.K.In s.heap := I.ok.mod.kin.keeps I.bk
theorem Inv.lt (I : Inv X pins σ H s) : X.env.locals < s.heap.objs.size := let ⟨_, hn, _⟩ := I.loc; hn.lt
theorem Inv.sz (I : Inv X pins σ H s) : X.s₀.heap.objs.size <= s.heap.objs.size := Nat.le_trans I.ok.above (Nat.le_of_lt I.lt)
theorem Inv.nofs (I : Inv X pins σ H s) {a : Addr} (h : s.heap.objs.size <= a) : a ∉ X.fs := fun hb => by
  obtain ⟨_, o, ho, _⟩ := I.ok.funs.mem hb
  exact absurd (Nat.lt_of_lt_of_le (Heap.lt_size ho) (Nat.le_trans I.sz h)) (Nat.lt_irrefl _)
theorem Inv.cne (I : Inv X pins σ H s) : ∀ x c, X.env.cells.lookup x = some c -> c ≠ X.env.locals := fun x c e z => by
  obtain ⟨v, o, ho, hd⟩ := I.cell x c e
  obtain ⟨m, ⟨o', es, ep, ho', hd', _⟩, _⟩ := I.loc
  rw [z, ho'] at ho; cases ho; rw [hd'] at hd; cases hd
theorem Inv.funs (I : Inv X pins σ H s) : s.heap.FunFrames X.base X.outer := by
  have all : ∀ (l : List Env), (∀ b ∈ frs l, b ∈ X.fs) -> X.s₀.heap.FunFrames X.base l -> s.heap.FunFrames X.base l := by
    intro l
    induction l with
    | nil => intro _ _; trivial
    | cons env r ih =>
      intro hs hl
      obtain ⟨hk, ⟨L, o, hf, hn, ho, hd⟩, hr⟩ := hl
      have hL : L ∈ X.fs := hs L (by unfold frs; rw [List.filterMap_cons, hf]; exact List.mem_cons_self)
      obtain ⟨sl, e⟩ := I.base.slot L o ho (I.ok.frf L hL) hL fun z => I.ok.exfs L z hL
      exact ⟨hk, ⟨L, _, hf, hn, e, hd⟩, ih (fun b hb => hs b (by unfold frs; rw [List.filterMap_cons, hf]; exact List.mem_cons_of_mem _ hb)) hr⟩
  exact all X.outer (fun _ hb => hb) I.ok.funs
theorem Inv.stack (I : Inv X pins σ H s) : s.heap.FunFrames X.base X.stack := by
  rcases I.ok.stk with e | ⟨e, hf⟩
  . rw [e]; exact I.funs
  . rw [e]
    obtain ⟨m, hn, _⟩ := I.loc
    refine .cons (by rw [I.ok.kind]; decide) hf hn ?_ I.funs
    exact Heap.get?_none_of_le (Nat.le_trans I.ok.bsz I.ok.above)
theorem Inv.stkSub (I : Inv X pins σ H s) : ∀ b ∈ frs X.stack, b ∈ X.env.locals :: X.fs := fun b hb => by
  rcases I.ok.stk with e | ⟨e, hf⟩
  . rw [e] at hb; exact List.mem_cons_of_mem _ hb
  . rw [e] at hb
    unfold frs at hb
    rw [List.filterMap_cons, hf] at hb
    exact hb
theorem Inv.stkFree (I : Inv X pins σ H s) : ∀ b ∈ frs X.stack, H b = none := fun b hb => by
  rcases List.mem_cons.mp (I.stkSub b hb) with e | hb
  . rw [e]; exact I.free
  . obtain ⟨_, o, ho, _⟩ := I.ok.funs.mem hb
    exact I.base.free b o ho (I.ok.frf b hb) fun z => I.ok.exfs b z hb
theorem Inv.step {g' : Array GenState} {t' : Nat} {d' : Drawn} {ch : List Addr} (I : Inv X pins σ H s)
    (hch : ∀ b ∈ ch, (b ∈ X.ex \/ X.s₀.heap.objs.size <= b) /\ b ≠ X.env.locals /\ (∀ x c, X.env.cells.lookup x = some c -> c ≠ b) /\ ∀ p ∈ X.pn ++ pins, p.1 ≠ b)
    (keep : ∀ b o, b ≠ X.env.locals -> b ∉ X.fs -> b ∉ ch -> s.heap.get? b = some o -> H b = none -> h'.get? b = some o)
    (slot : ∀ b o, b ≠ X.env.locals -> b ∈ X.fs -> b ∉ ch -> s.heap.get? b = some o -> H b = none -> ∃ sl, h'.get? b = some { o with slots := sl }) (free : ∀ b o, b ∉ ch -> s.heap.get? b = some o -> H b = none -> H' b = none)
    (there : ∀ b o, b ∉ ch -> s.heap.get? b = some o -> ∃ o', h'.get? b = some o')
    (tups : ∀ b xs, H b = some (.tup xs) -> H' b = some (.tup xs)) (frzs : ∀ b o u, H b = some (.frz o u) -> H' b = some (.frz o u)) (tbls : ∀ b ps, H b = some (.tbl ps) -> ∃ more, H' b = some (.tbl (ps ++ more)))
    (ns : ∀ m, s.heap.Ns X.env.locals m -> h'.Ns X.env.locals m) (hok : HOk X.prog X.w H' h') (hg : AllBare g') :
    Inv X pins σ H' { s with heap := h', gens := g', drawn := d', toks := t' } := by
  have neL : ∀ b o, X.s₀.heap.get? b = some o -> b ≠ X.env.locals := fun b o e => Nat.ne_of_lt (Nat.lt_of_lt_of_le (Heap.lt_size e) I.ok.above)
  have neC : ∀ b o, X.s₀.heap.get? b = some o -> b ∉ X.ex -> b ∉ ch := fun b o e hx hb => by
    rcases (hch b hb).1 with z | z
    . exact hx z
    . exact absurd (Nat.lt_of_lt_of_le (Heap.lt_size e) z) (Nat.lt_irrefl _)
  have cellK : ∀ x c, X.env.cells.lookup x = some c -> ∀ v, s.heap.IsCell c v -> h'.IsCell c v := fun x c e v ⟨o, ho, hd⟩ => by
    have nch : c ∉ ch := fun z => (hch c z).2.2.1 x c e rfl
    by_cases hc : c ∈ X.fs
    . obtain ⟨sl, q⟩ := slot c o (I.cne x c e) hc nch ho (I.freeC x c e)
      exact ⟨_, q, hd⟩
    . exact ⟨o, keep c o (I.cne x c e) hc nch ho (I.freeC x c e), hd⟩
  refine ⟨I.ok, I.os, hg, ⟨fun b o e n hb hx => ?_, fun b o e n hb hx => ?_, fun b o e n hx => ?_, fun b o e hx => ?_, fun b xs e => tups b xs (I.base.tups b xs e), fun b o xs e => frzs b o xs (I.base.frzs b o xs e), fun b ps e => ?_⟩, ?_, fun x c e => ?_, ?_, fun x c e => ?_, fun p hp => ?_, hok, I.len⟩
  . exact keep b o (neL b o e) hb (neC b o e hx) (I.base.keep b o e n hb hx) (I.base.free b o e n hx)
  . obtain ⟨sl, e1⟩ := I.base.slot b o e n hb hx
    obtain ⟨sl', e2⟩ := slot b _ (neL b o e) hb (neC b o e hx) e1 (I.base.free b o e n hx)
    exact ⟨sl', e2⟩
  . obtain ⟨o', e1⟩ := I.base.there b o e hx
    exact free b o' (neC b o e hx) e1 (I.base.free b o e n hx)
  . obtain ⟨o', e1⟩ := I.base.there b o e hx
    exact there b o' (neC b o e hx) e1
  . obtain ⟨m1, e1⟩ := I.base.tbls b ps e
    obtain ⟨m2, e2⟩ := tbls b _ e1
    exact ⟨m1 ++ m2, by rw [e2, Array.append_assoc]⟩
  . obtain ⟨m, hn, hl⟩ := I.loc
    refine ⟨m, ns m hn, fun i x v e1 e2 e3 => ?_⟩
    obtain ⟨u, r, l⟩ := hl i x v e1 e2 e3
    refine ⟨u, r, ?_⟩
    rcases l with l | ⟨k, c, e, z⟩
    . exact .inl l
    . exact .inr ⟨k, c, e, cellK x c e _ z⟩
  . obtain ⟨v, z⟩ := I.cell x c e
    exact ⟨v, cellK x c e v z⟩
  . obtain ⟨m, ⟨o, _, _, ho, _⟩, _⟩ := I.loc
    exact free _ o (fun z => (hch _ z).2.1 rfl) ho I.free
  . obtain ⟨v, o, ho, hd⟩ := I.cell x c e
    exact free c o (fun z => (hch c z).2.2.1 x c e rfl) ho (I.freeC x c e)
  . obtain ⟨e, n, ne, nf, d⟩ := I.pin p hp
    have nch : p.1 ∉ ch := fun z => (hch p.1 z).2.2.2 p hp rfl
    exact ⟨keep p.1 p.2 ne nf nch e n, free p.1 p.2 nch e n, ne, nf, d⟩
theorem Inv.un {t' : Nat} (I : Inv X pins σ H s) (u : Un X.fs [] H H' s.heap h') (hok : HOk X.prog X.w H' h') : Inv X pins σ H' { s with heap := h', toks := t' } := by
  obtain ⟨m, ⟨o, es, ep, ho, r⟩, _⟩ := id I.loc
  obtain ⟨sl, hL⟩ := u.any ho I.free (by simp)
  exact I.step (g' := s.gens) (d' := s.drawn) (ch := []) (fun _ z => nomatch z) (fun b o _ hb _ e n => u.keep b o e n hb (by simp)) (fun b o _ hb _ e n => u.slot b o e n hb (by simp)) (fun b o _ e n => u.free b o e n (by simp)) (fun b o _ e => u.there b o e (by simp)) u.tups u.frzs u.tbls (fun m' hm => by
    obtain ⟨o', es', ep', ho', r'⟩ := hm
    rw [ho] at ho'; cases ho'
    exact ⟨_, es', ep', hL, r'⟩) hok I.bare
theorem Inv.call {g' : Array GenState} {t' : Nat} {d' : Drawn} {ch : List Addr} (I : Inv X pins σ H s) (u : Un (frs X.stack) ch H H' s.heap h') (hok : HOk X.prog X.w H' h') (hg : AllBare g')
    (hch : ∀ b ∈ ch, (b ∈ X.ex \/ X.s₀.heap.objs.size <= b) /\ b ≠ X.env.locals /\ (∀ x c, X.env.cells.lookup x = some c -> c ≠ b) /\ ∀ p ∈ X.pn ++ pins, p.1 ≠ b) :
    Inv X pins σ H' { s with heap := h', gens := g', drawn := d', toks := t' } := by
  obtain ⟨m, ⟨o, es, ep, ho, r⟩, _⟩ := id I.loc
  obtain ⟨sl, hL⟩ := u.any ho I.free fun z => (hch _ z).2.1 rfl
  exact I.step (ch := ch) hch (fun b o hL hb hc e n => u.keep b o e n (fun z => (List.mem_cons.mp (I.stkSub b z)).elim hL hb) hc) (fun b o _ _ hc e n => u.any e n hc) (fun b o hc e n => u.free b o e n hc) (fun b o hc e => u.there b o e hc) u.tups u.frzs u.tbls (fun m' hm => by
    obtain ⟨o', es', ep', ho', r'⟩ := hm
    rw [ho] at ho'; cases ho'
    exact ⟨_, es', ep', hL, r'⟩) hok hg
theorem Inv.turned {t' : Nat} {it : Addr} (I : Inv X pins σ H s) (k : ∀ b o, b ≠ it -> s.heap.get? b = some o -> h'.get? b = some o) (hn : H it = none) (hL : it ≠ X.env.locals)
    (h1 : it ∈ X.ex \/ X.s₀.heap.objs.size <= it) (h2 : ∀ x c, X.env.cells.lookup x = some c -> c ≠ it) (h3 : ∀ p ∈ X.pn ++ pins, p.1 ≠ it) : Inv X pins σ H { s with heap := h', toks := t' } := by
  have nit : ∀ b u, H b = some u -> b ≠ it := fun b u e z => by rw [z, hn] at e; cases e
  refine I.step (g' := s.gens) (d' := s.drawn) (ch := [it]) (fun b hb => ?_) (fun b o _ _ hc e _ => k b o (fun z => hc (by simp [z])) e) (fun b o _ _ hc e _ => ⟨o.slots, k b o (fun z => hc (by simp [z])) e⟩) (fun _ _ _ _ n => n)
    (fun b o hc e => ⟨o, k b o (fun z => hc (by simp [z])) e⟩) (fun _ _ e => e) (fun _ _ _ e => e) (fun b ps e => ⟨#[], by rw [e]; simp⟩) (fun m hm => ?_) (fun b u e => ?_) I.bare
  . have e : b = it := by simpa using hb
    subst e
    exact ⟨h1, hL, h2, h3⟩
  . obtain ⟨o, es, ep, ho, r⟩ := hm
    exact ⟨o, es, ep, k _ o (Ne.symm hL) ho, r⟩
  . refine (I.hok b u e).stay (fun c v hc q => k c v ?_ q) (fun _ q => q) fun _ _ q => q
    rcases hc with z | z
    . rw [z]; exact nit b u e
    . exact nit c _ z
theorem Inv.tok (I : Inv X pins σ H s) (t : Nat) : Inv X pins σ H { s with toks := t } := I.un (h' := s.heap) (t' := t) Un.refl I.hok
theorem Inv.kept {t' : Nat} (I : Inv X pins σ H s) (k : ∀ b u, s.heap.get? b = some u -> h'.get? b = some u) : Inv X pins σ H { s with heap := h', toks := t' } := I.un (Un.kept k) (I.hok.kept k)
theorem Inv.laid {a : Addr} {o : HO} {t' : Nat} (I : Inv X pins σ H s) (k : ∀ b u, s.heap.get? b = some u -> h'.get? b = some u) (hp : s.heap.objs.size <= a) (new : zs5 X.prog X.w (upd H a o) h' a o) :
    Inv X pins σ (upd H a o) { s with heap := h', toks := t' } := I.un (Un.laid k hp (I.hok.fresh hp)) (I.hok.laid k hp new)
theorem Inv.write {x e : Addr} {o : HO} {t' : Nat} (I : Inv X pins σ H s) (mu : Mut (H x)) (he : e = x \/ H e = some (.own x)) (k : ∀ b u, b ≠ e -> s.heap.get? b = some u -> h'.get? b = some u) (heo : ∃ u, h'.get? e = some u)
    (new : zs5 X.prog X.w (upd H x o) h' x o) : Inv X pins σ (upd H x o) { s with heap := h', toks := t' } := I.un (Un.write mu he k heo) (I.hok.write mu he k heo new)
theorem Inv.pins_of {pins' : List (Addr × Obj)} (I : Inv X pins σ H s) (h : ∀ p ∈ pins', s.heap.get? p.1 = some p.2 /\ H p.1 = none /\ p.1 ≠ X.env.locals /\ p.1 ∉ X.fs /\ ∀ v, p.2.data ≠ .cell v) : Inv X pins' σ H s :=
  ⟨I.ok, I.os, I.bare, I.base, I.loc, I.cell, I.free, I.freeC, fun p hp => (List.mem_append.mp hp).elim (fun z => I.pin p (List.mem_append_left _ z)) (h p), I.hok, I.len⟩
theorem xl5 {N : List Str} (hN : N.Nodup) {i j : Nat} {x : Str} (a : N[i]? = some x) (b : N[j]? = some x) : i = j := by
  obtain ⟨h1, e1⟩ := List.getElem?_eq_some_iff.mp a
  obtain ⟨h2, e2⟩ := List.getElem?_eq_some_iff.mp b
  exact (List.getElem_inj hN).mp (e1.trans e2.symm)
theorem xg8 {M : Model} {A : Around} {E : Value -> Shared -> Prop} {i : Nat} {x : Str} {v : V} {u : Value} {Q : Unit -> Shared -> Prop} (I : Inv X pins σ H s) (hN : X.N.Nodup) (hi : X.N[i]? = some x) (hx : Loc X.env.scope x) (r : zh6 v u)
    (h : ∀ s', Inv X pins (σ.set i (some v)) H s' -> (∃ a, Heap.SameBut a s.heap s'.heap /\ (a = X.env.locals \/ X.env.cells.lookup x = some a)) -> Q () s') (hf : X.fn x = true \/ X.env.scope.names.lookup x = some .local := by first | exact .inl rfl | exact .inr rfl | assumption) : wpAny M A (storeName X.env x u) Q E s := by
  obtain ⟨m, hn, hl⟩ := id I.loc
  have hcls : (X.env.scope.kind == .class || (X.env.scope.kind == .module && X.env.locals != X.env.globals)) = false := by rw [I.ok.kind]; rfl
  have hiσ : i < σ.length := by rw [I.len]; exact (List.getElem?_eq_some_iff.mp hi).1
  have cne := I.cne
  have tracked : ∀ {a : Addr} {h' : Heap}, (∃ o, s.heap.get? a = some o /\ H a = none) -> Heap.SameBut a s.heap h' -> HOk X.prog X.w H h' := fun {a h'} ha hs b ob e => by
    obtain ⟨_, _, hfree⟩ := ha
    refine (I.hok b ob e).stay (fun c w' hc q => (hs.2 c ?_).trans q) (fun _ q => q) fun _ _ q => q
    rintro rfl
    rcases hc with rfl | hc
    . rw [hfree] at e; cases e
    . rw [hfree] at hc; cases hc
  rcases hx with hk | hk
  . refine wpAny_storeName_local hk hn (fun h' hn' hs => ?_) hcls
    obtain ⟨oL, _, _, hoL, _⟩ := id hn
    refine h _ ⟨I.ok, I.os, I.bare, ⟨fun b o e n hb hx => ?_, fun b o e n hb hx => ?_, I.base.free, fun b o e hx => ?_, I.base.tups, I.base.frzs, I.base.tbls⟩, ⟨_, hn', fun j y v' e1 e2 e3 => ?_⟩, fun y c e => ?_, I.free, I.freeC, fun p hp => ?_, tracked ⟨oL, hoL, I.free⟩ hs, by simpa using I.len⟩ ⟨_, hs, .inl rfl⟩
    . exact (hs.2 b (Nat.ne_of_lt (Nat.lt_of_lt_of_le (Heap.lt_size e) I.ok.above))).trans (I.base.keep b o e n hb hx)
    . obtain ⟨sl, e1⟩ := I.base.slot b o e n hb hx
      exact ⟨sl, (hs.2 b (Nat.ne_of_lt (Nat.lt_of_lt_of_le (Heap.lt_size e) I.ok.above))).trans e1⟩
    . obtain ⟨o', e1⟩ := I.base.there b o e hx
      exact ⟨o', (hs.2 b (Nat.ne_of_lt (Nat.lt_of_lt_of_le (Heap.lt_size e) I.ok.above))).trans e1⟩
    . by_cases hj : j = i
      . subst hj
        rw [hi] at e1; cases e1
        rw [List.getElem?_set_self hiσ] at e2
        cases e2
        exact ⟨u, r, .inl ⟨hk, by simp⟩⟩
      . rw [List.getElem?_set_ne (Ne.symm hj)] at e2
        obtain ⟨u', r', q⟩ := hl j y v' e1 e2 e3
        refine ⟨u', r', ?_⟩
        rcases q with ⟨k, e⟩ | ⟨k, c, e, z⟩
        . refine .inl ⟨k, ?_⟩
          have : y ≠ x := fun e => hj (xl5 hN e1 (e ▸ hi))
          simp [this, e]
        . exact .inr ⟨k, c, e, z.sameBut hs (cne y c e)⟩
    . obtain ⟨w', z⟩ := I.cell y c e
      exact ⟨w', z.sameBut hs (cne y c e)⟩
    . obtain ⟨e, n, ne, nf, d⟩ := I.pin p hp
      exact ⟨(hs.2 p.1 ne).trans e, n, ne, nf, d⟩
  . have hfn : X.fn x = true := by
      rcases hf with z | z
      . exact z
      . rw [z] at hk; cases hk
    obtain ⟨c, hc⟩ := I.ok.has x (.inl hk)
    obtain ⟨w', z⟩ := I.cell x c hc
    refine wpAny_storeName_cell I.ok.kind hk hc z (fun h' hc' hs => ?_)
    obtain ⟨oc, hoc, hocd⟩ := id z
    refine h { s with heap := h' } ⟨I.ok, I.os, I.bare, ⟨fun b o e n hb hx => ?_, fun b o e n hb hx => ?_, I.base.free, fun b o e hx => ?_, I.base.tups, I.base.frzs, I.base.tbls⟩, ⟨m, hn.sameBut hs (Ne.symm (cne x c hc)), fun j y v' e1 e2 e3 => ?_⟩, fun y c' e => ?_, I.free, I.freeC, fun p hp => ?_, tracked ⟨oc, hoc, I.freeC x c hc⟩ hs, by simpa using I.len⟩ ⟨c, hs, .inr hc⟩
    . exact (hs.2 b (Nat.ne_of_lt (Nat.lt_of_lt_of_le (Heap.lt_size e) (I.ok.cab x c hfn hc)))).trans (I.base.keep b o e n hb hx)
    . obtain ⟨sl, e1⟩ := I.base.slot b o e n hb hx
      exact ⟨sl, (hs.2 b (Nat.ne_of_lt (Nat.lt_of_lt_of_le (Heap.lt_size e) (I.ok.cab x c hfn hc)))).trans e1⟩
    . obtain ⟨o', e1⟩ := I.base.there b o e hx
      exact ⟨o', (hs.2 b (Nat.ne_of_lt (Nat.lt_of_lt_of_le (Heap.lt_size e) (I.ok.cab x c hfn hc)))).trans e1⟩
    . by_cases hj : j = i
      . subst hj
        rw [hi] at e1; cases e1
        rw [List.getElem?_set_self hiσ] at e2
        cases e2
        exact ⟨u, r, .inr ⟨.inl hk, c, hc, hc'⟩⟩
      . rw [List.getElem?_set_ne (Ne.symm hj)] at e2
        obtain ⟨u', r', q⟩ := hl j y v' e1 e2 e3
        refine ⟨u', r', ?_⟩
        rcases q with q | ⟨k, c', e, z'⟩
        . exact .inl q
        . refine .inr ⟨k, c', e, z'.sameBut hs ?_⟩
          rintro rfl
          exact hj (xl5 hN e1 (I.ok.inj _ _ _ e hc ▸ hi))
    . by_cases hcc : c' = c
      . subst hcc; exact ⟨_, hc'⟩
      . obtain ⟨w2, z2⟩ := I.cell y c' e
        exact ⟨w2, z2.sameBut hs hcc⟩
    . obtain ⟨e, n, ne, nf, d⟩ := I.pin p hp
      refine ⟨(hs.2 p.1 ?_).trans e, n, ne, nf, d⟩
      intro q
      rw [q, hoc] at e
      have q' : oc = p.2 := Option.some.inj e
      exact d w' (by rw [<- q']; exact hocd)
theorem xl6 {M : Model} {A : Around} {E : Value -> Shared -> Prop} {i : Nat} {x : Str} {v : V} {u : Value} {Q : Unit -> Shared -> Prop} (I : Inv X pins σ H s) (hN : X.N.Nodup) (hi : X.N[i]? = some x) (hx : Loc X.env.scope x) (r : zh6 v u)
    (h : ∀ s', Inv X pins (σ.set i (some v)) H s' -> Q () s') (hf : X.fn x = true \/ X.env.scope.names.lookup x = some .local := by first | exact .inl rfl | exact .inr rfl | assumption) : wpAny M A (storeName X.env x u) Q E s :=
  xg8 I hN hi hx r (fun s' I' _ => h s' I') hf
theorem Inv.call' {s' : Shared} {ch : List Addr} (I : Inv X pins σ H s) (ho : s'.os = s.os) (u : Un (frs X.stack) ch H H' s.heap s'.heap) (hok : HOk X.prog X.w H' s'.heap) (hg : AllBare s'.gens)
    (hch : ∀ b ∈ ch, (b ∈ X.ex \/ X.s₀.heap.objs.size <= b) /\ b ≠ X.env.locals /\ (∀ x c, X.env.cells.lookup x = some c -> c ≠ b) /\ ∀ p ∈ X.pn ++ pins, p.1 ≠ b) : Inv X pins σ H' s' := by
  obtain ⟨h', g', d', t', o'⟩ := s'
  have e : o' = s.os := ho
  subst e
  exact I.call (g' := g') (t' := t') (d' := d') u hok hg hch
end
noncomputable abbrev XK := Value -> Option Addr -> Hp -> Prop
noncomputable abbrev St := List (Option V)
noncomputable abbrev VK := V -> Hp -> Prop
noncomputable abbrev TE := St -> Hp -> VK -> Prop
noncomputable abbrev TT := St -> Hp -> (Bool -> Hp -> Prop) -> Prop
noncomputable abbrev TA := St -> Hp -> (List V -> Hp -> Prop) -> Prop
structure Ends where
  nx : St -> Hp -> Prop
  rt : VK
  bk : St -> Hp -> Prop := fun _ _ => False
  ct : St -> Hp -> Prop := fun _ _ => False
noncomputable abbrev TS := Ends -> St -> Hp -> Prop
noncomputable def EP (X : Cx) (pins : List (Addr × Obj)) (σ : St) (Q : VK) (u : Value) (s' : Shared) : Prop := ∃ v H', Inv X pins σ H' s' /\ zh6 v u /\ Q v H'
noncomputable def TP (X : Cx) (pins : List (Addr × Obj)) (σ : St) (Q : Bool -> Hp -> Prop) (b : Bool) (s' : Shared) : Prop := ∃ H', Inv X pins σ H' s' /\ Q b H'
noncomputable def AP (X : Cx) (pins : List (Addr × Obj)) (σ : St) (Q : List V -> Hp -> Prop) (us : List Value) (s' : Shared) : Prop := ∃ vs H', Inv X pins σ H' s' /\ ze5 vs us /\ Q vs H'
noncomputable def SP (X : Cx) (pins : List (Addr × Obj)) (D : Ends) (f : Flow) (s' : Shared) : Prop :=
  match f with
  | .next => ∃ σ' H', Inv X pins σ' H' s' /\ D.nx σ' H'
  | .brk => ∃ σ' H', Inv X pins σ' H' s' /\ D.bk σ' H'
  | .cont => ∃ σ' H', Inv X pins σ' H' s' /\ D.ct σ' H'
  | .ret u => ∃ v σ' H', Inv X pins σ' H' s' /\ zh6 v u /\ D.rt v H'
noncomputable def PE (X : Cx) (e : Expr) (t : TE) : Prop :=
  ∀ (pins : List (Addr × Obj)) (s : Shared) (σ : St) (H : Hp) (Q : VK), Inv X pins σ H s -> t σ H Q -> wpAny (model X.prog X.w) X.A (eval e X.env) (EP X pins σ Q) X.xe s
noncomputable def PT (X : Cx) (e : Expr) (t : TT) : Prop :=
  ∀ (pins : List (Addr × Obj)) (s : Shared) (σ : St) (H : Hp) (Q : Bool -> Hp -> Prop), Inv X pins σ H s -> t σ H Q -> wpAny (model X.prog X.w) X.A (isTrue e X.env (eval e X.env)) (TP X pins σ Q) X.xe s
noncomputable def PW (X : Cx) (e : Expr) (t : TT) : Prop :=
  ∀ (whole : Sem Value) (pins : List (Addr × Obj)) (s : Shared) (σ : St) (H : Hp) (Q : Bool -> Hp -> Prop), Inv X pins σ H s -> t σ H Q -> wpAny (model X.prog X.w) X.A (isTrue e X.env whole) (TP X pins σ Q) X.xe s
theorem PW.pt {X : Cx} {e : Expr} {t : TT} (h : PW X e t) : PT X e t := h _
noncomputable def PA (X : Cx) (es : List Expr) (t : TA) : Prop :=
  ∀ (pos : Pos) (pins : List (Addr × Obj)) (s : Shared) (σ : St) (H : Hp) (Q : List V -> Hp -> Prop), Inv X pins σ H s -> t σ H Q -> wpAny (model X.prog X.w) X.A (spliced (backTo pos (starEach es X.env))) (AP X pins σ Q) X.xe s
noncomputable def PS (X : Cx) (st : Stmt) (t : TS) : Prop :=
  ∀ (pins : List (Addr × Obj)) (s : Shared) (σ : St) (H : Hp) (D : Ends), Inv X pins σ H s -> t D σ H -> wpAny (model X.prog X.w) X.A (exec st X.env) (SP X pins D) X.xe s
noncomputable def PSs (X : Cx) (st : List Stmt) (t : TS) : Prop :=
  ∀ (pins : List (Addr × Obj)) (s : Shared) (σ : St) (H : Hp) (D : Ends), Inv X pins σ H s -> t D σ H -> wpAny (model X.prog X.w) X.A (execs st X.env) (SP X pins D) X.xe s
theorem thn {α : Type} {t : Sem α} {Q Q' : α -> Shared -> Prop} {M : Model} {A : Around} {E : Value -> Shared -> Prop} {s : Shared} (h : wpAny M A t Q E s) (hQ : ∀ a s, Q a s -> Q' a s) : wpAny M A t Q' E s := wpAny_mono h hQ fun _ _ x => x
end L2
namespace L2
open PySem PySem.Spec PyProof.Rows
section
variable {X : Cx}
noncomputable def wx5 (i : Nat) : TE := fun σ H Q => ∃ v, σ[i]? = some (some v) /\ Q v H
noncomputable def tC (v : V) : TE := fun _ H Q => Q v H
theorem yk9 {i : Nat} {x : Str} {pos : Pos} (hN : X.N[i]? = some x) (hv : Vis X.env.scope x) (hd : (x == ("__debug__" : Str)) = false := by decide) (hcd : (x == ("__classdict__" : Str)) = false := by decide) : PE X (.Name x pos) (wx5 i) := by
  intro pins s σ H Q I h
  obtain ⟨v, e, h⟩ := h
  obtain ⟨m, hn, hl⟩ := I.loc
  obtain ⟨u, r, l⟩ := hl i x v hN e hv
  have fin : EP X pins σ Q u s := ⟨v, H, I, r, h⟩
  rcases l with ⟨hk, hm⟩ | ⟨hk, c, hc, hcell⟩
  . exact wpAny_Name (wpAny_loadName_local I.ok.kind hk hn hm fin) hd
  . rcases hk with hk | hk
    . exact wpAny_Name (wpAny_loadName_cell I.ok.kind hk hc hcell fin) hd
    . exact wpAny_Name (wpAny_loadName_free I.ok.kind hk hc hcell fin hcd) hd
theorem zr6 {i j pos} : PE X (.Constant (.int i) j pos) (tC (.int i)) := fun _ _ _ H _ I h => wpAny_Constant_int ⟨.int i, H, I.tok _, ⟨_, rfl⟩, h⟩
theorem wm6 {b j pos} : PE X (.Constant (.bool b) j pos) (tC (.bl b)) := fun _ _ _ H _ I h => Constant_bool ⟨.bl b, H, I, rfl, h⟩
theorem wa3 {j pos} : PE X (.Constant .none j pos) (tC .non) := fun _ _ _ H _ I h => Constant_none ⟨.non, H, I, rfl, h⟩
theorem wa4 {x j pos} : PE X (.Constant (.str x) j pos) (tC (.str x)) := fun _ _ _ H _ I h => Calls.Constant_str ⟨.str x, H, I.tok _, ⟨_, rfl⟩, h⟩
noncomputable def Gl (X : Cx) (x : Str) : Prop := X.env.kindOf x = some .globalImplicit
theorem ys6 {E : Value -> Shared -> Prop} {pins : List (Addr × Obj)} {s : Shared} {σ : St} {H : Hp} {x : Str} {u : Value} {pos : Pos} {Q : Value -> Shared -> Prop} (I : Inv X pins σ H s) (hg : Gl X x) (hm : X.mg x = some u) (h : Q u s)
    (hd : (x == ("__debug__" : Str)) = false := by decide) : wpAny (model X.prog X.w) X.A (eval (.Name x pos) X.env) Q E s :=
  Calls.Name_function_global I.ok.kind hg (Calls.loadGlobal_global (by rw [I.ok.glob]; exact I.mod.glob.keeps I.bk) hm h) hd
theorem yy1 {E : Value -> Shared -> Prop} {pins : List (Addr × Obj)} {s : Shared} {σ : St} {H : Hp} {x : Str} {u : Value} {pos : Pos} {Q : Value -> Shared -> Prop} (I : Inv X pins σ H s) (hg : Gl X x) (hm : X.mg x = none) (hv : bootBuiltins x = some u) (h : Q u s)
    (hn : x ≠ "__name__" := by decide) (hd : (x == ("__debug__" : Str)) = false := by decide) : wpAny (model X.prog X.w) X.A (eval (.Name x pos) X.env) Q E s := by
  obtain ⟨mb, h1, h2⟩ := I.mod.blt
  exact Calls.Name_function_global I.ok.kind hg (Calls.loadGlobal_builtin (by rw [I.ok.glob]; exact I.mod.glob.keeps I.bk) hm (by rw [I.ok.blt]; exact h1.keeps I.bk) ((h2 x hn).trans hv) h) hd
theorem wo4 {x : Str} {v : V} {u : Value} {pos : Pos} (hg : Gl X x) (hm : X.mg x = some u) (r : zh6 v u) (hd : (x == ("__debug__" : Str)) = false := by decide) : PE X (.Name x pos) (tC v) :=
  fun _ _ _ H _ I h => ys6 I hg hm ⟨v, H, I, r, h⟩ hd
variable {a b : Expr} {ta tb : TE} {pos : Pos}
variable {tA tB' : TT} {zd5 : List Expr}
noncomputable def kd4 (t u : TT) : TT := fun σ H Q => t σ H fun c H1 => if c = true then u σ H1 Q else Q false H1
noncomputable def tOr (t u : TT) : TT := fun σ H Q => t σ H fun c H1 => if c = true then Q true H1 else u σ H1 Q
noncomputable def kd5 (t : TT) : TT := fun σ H Q => t σ H fun c H1 => Q (!c) H1
theorem wo5 (ha : PT X a tA) : PW X (.BoolOp .And [a] pos) tA := by
  intro wh pins s σ H Q I h
  refine isTrue_and (thn (ha pins s σ H Q I h) fun c s1 e => ?_)
  cases c with
  | true => exact isTrue_and_nil e
  | false => exact e
theorem wt0 (ha : PT X a tA) : PW X (.BoolOp .Or [a] pos) tA := by
  intro wh pins s σ H Q I h
  refine isTrue_or (thn (ha pins s σ H Q I h) fun c s1 e => ?_)
  cases c with
  | false => exact isTrue_or_nil e
  | true => exact e
theorem wt1 (ha : PT X a tA) (hb : PW X (.BoolOp .And (b :: zd5) pos) tB') : PW X (.BoolOp .And (a :: b :: zd5) pos) (kd4 tA tB') := by
  intro wh pins s σ H Q I h
  refine isTrue_and (thn (ha pins s σ H _ I h) fun c s1 ⟨H1, I1, q1⟩ => ?_)
  cases c with
  | true => exact hb wh pins s1 σ H1 Q I1 q1
  | false => exact ⟨H1, I1, q1⟩
theorem wz1 (ha : PT X a tA) (hb : PW X (.BoolOp .Or (b :: zd5) pos) tB') : PW X (.BoolOp .Or (a :: b :: zd5) pos) (tOr tA tB') := by
  intro wh pins s σ H Q I h
  refine isTrue_or (thn (ha pins s σ H _ I h) fun c s1 ⟨H1, I1, q1⟩ => ?_)
  cases c with
  | true => exact ⟨H1, I1, q1⟩
  | false => exact hb wh pins s1 σ H1 Q I1 q1
theorem wa5 (ha : PT X a tA) : PT X (.UnaryOp .Not a pos) (kd5 tA) := by
  intro pins s σ H Q I h
  exact isTrue_not (ha pins s σ H (fun c H1 => Q (!c) H1) I h)
noncomputable def ka6 (ta tb : TE) : TE := fun σ H Q => ta σ H fun x H1 => ∃ c, x = .bl c /\ if c = true then tb σ H1 Q else Q (.bl false) H1
noncomputable def kd6 (ta tb : TE) : TE := fun σ H Q => ta σ H fun x H1 => ∃ c, x = .bl c /\ if c = true then Q (.bl true) H1 else tb σ H1 Q
theorem wt2 {op} {t : TE} (h : PE X a t) : PE X (.BoolOp op [a] pos) t := fun pins s σ H Q I hw => BoolOp_one (h pins s σ H Q I hw)
theorem wt3 (ha : PE X a ta) (hb : PE X (.BoolOp .And (b :: zd5) pos) tb) : PE X (.BoolOp .And (a :: b :: zd5) pos) (ka6 ta tb) := by
  intro pins s σ H Q I h
  refine BoolOp_and (thn (ha pins s σ H _ I h) fun v s1 ⟨x, H1, I1, r1, q1⟩ => ?_)
  obtain ⟨c, rfl, q1⟩ := q1
  cases r1
  refine wpAny_truthy_bool ?_
  cases c with
  | true => exact hb pins s1 σ H1 Q I1 q1
  | false => exact ⟨.bl false, H1, I1, rfl, q1⟩
theorem wz2 (ha : PE X a ta) (hb : PE X (.BoolOp .Or (b :: zd5) pos) tb) : PE X (.BoolOp .Or (a :: b :: zd5) pos) (kd6 ta tb) := by
  intro pins s σ H Q I h
  refine BoolOp_or (thn (ha pins s σ H _ I h) fun v s1 ⟨x, H1, I1, r1, q1⟩ => ?_)
  obtain ⟨c, rfl, q1⟩ := q1
  cases r1
  refine wpAny_truthy_bool ?_
  cases c with
  | false => exact hb pins s1 σ H1 Q I1 q1
  | true => exact ⟨.bl true, H1, I1, rfl, q1⟩
end
end L2
namespace L2
open PySem PySem.Spec PyProof.Rows
noncomputable def SqL (K : PySem.W.Frag) (H : Hp) (a : Addr) (xs : List V) : Prop :=
  Rd H a (.lst xs) \/
    ∃ (o : Obj) (its : Array Value) (n : Nat), K.lookup a = some o /\ o.cls = .type "list" /\ o.dict = none /\ o.data = .seq its n /\ its.size <= sizeLine /\ ze5 xs its.toList
noncomputable def SqT (K : PySem.W.Frag) (H : Hp) (a : Addr) (xs : List V) : Prop :=
  Rd H a (.tup xs) \/
    ∃ (o : Obj) (its : Array Value) (n : Nat), K.lookup a = some o /\ o.cls = .type "tuple" /\ o.data = .seq its n /\ its.size <= sizeLine /\ ze5 xs its.toList
noncomputable def kd7 : Value -> Option V
  | .none => some .non
  | .bool b => some (.bl b)
  | .int i _ => some (.int i)
  | .str x _ => some (.str x)
  | .bytes b _ => some (.byt b)
  | .float b _ => some (.flt b)
  | .ref a => some (.ref a)
  | .type n => some (.ty n)
  | _ => none
theorem zh6.abs {x : V} {u : Value} (r : zh6 x u) : kd7 u = some x := by
  cases x with
  | non => cases r; rfl
  | bl _ => cases r; rfl
  | int _ => obtain ⟨t, rfl⟩ := r; rfl
  | str _ => obtain ⟨t, rfl⟩ := r; rfl
  | byt _ => obtain ⟨t, rfl⟩ := r; rfl
  | flt _ => obtain ⟨t, rfl⟩ := r; rfl
  | ref _ => cases r; rfl
  | ty _ => cases r; rfl
theorem zh6.inj {x y : V} {u : Value} (r : zh6 x u) (q : zh6 y u) : x = y := Option.some.inj (r.abs.symm.trans q.abs)
theorem ze5.inj : ∀ {xs ys : List V} {us : List Value}, ze5 xs us -> ze5 ys us -> xs = ys
  | _, _, _, .nil, .nil => rfl
  | _, _, _, .cons r t, .cons r' t' => by rw [r.inj r', ze5.inj t t']
section
variable {X : Cx} {pins : List (Addr × Obj)} {σ : St} {H : Hp} {s : Shared} {a : Addr} {xs ys : List V}
theorem Inv.list (I : Inv X pins σ H s) (h : SqL X.K H a xs) : ∃ its : List Value, ze5 xs its /\ PlainL s.heap a its.toArray /\ xs.length <= sizeLine := by
  rcases h with h | ⟨o, its, n, hk, hc, hd, hs, hz, r⟩
  . obtain ⟨z, its, n, r, e⟩ := h.ok I.hok
    exact ⟨its, r, ⟨_, n, e, rfl, rfl, rfl⟩, z⟩
  . refine ⟨its.toList, r, ⟨o, n, I.kIn a o hk, hc, hd, by simpa using hs⟩, ?_⟩
    have e := r.length
    simp only [Array.length_toList] at e
    omega
theorem Inv.tuple (I : Inv X pins σ H s) (h : SqT X.K H a xs) : ∃ its : List Value, ze5 xs its /\ IsTup s.heap a its.toArray /\ xs.length <= sizeLine := by
  rcases h with h | ⟨o, its, n, hk, hc, hs, hz, r⟩
  . obtain ⟨z, its, r, p⟩ := h.ok I.hok
    exact ⟨its, r, p, z⟩
  . refine ⟨its.toList, r, ⟨o, I.kIn a o hk, hc, n, by simpa using hs⟩, ?_⟩
    have e := r.length
    simp only [Array.length_toList] at e
    omega
theorem Inv.list_inj (I : Inv X pins σ H s) (h : SqL X.K H a xs) (h' : SqL X.K H a ys) : xs = ys := by
  obtain ⟨its, r, ⟨o, n, e, _, _, d⟩, _⟩ := I.list h
  obtain ⟨its', r', ⟨o', n', e', _, _, d'⟩, _⟩ := I.list h'
  rw [e] at e'; cases e'
  rw [d] at d'
  injection d' with d1 _
  have : its = its' := by simpa using congrArg Array.toList d1
  subst this
  exact r.inj r'
theorem Inv.tuple_inj (I : Inv X pins σ H s) (h : SqT X.K H a xs) (h' : SqT X.K H a ys) : xs = ys := by
  obtain ⟨its, r, ⟨o, e, _, n, d⟩, _⟩ := I.tuple h
  obtain ⟨its', r', ⟨o', e', _, n', d'⟩, _⟩ := I.tuple h'
  rw [e] at e'; cases e'
  rw [d] at d'
  injection d' with d1 _
  have : its = its' := by simpa using congrArg Array.toList d1
  subst this
  exact r.inj r'
end
noncomputable abbrev Cx.wish (X : Cx) (E : Value -> Shared -> Prop) : Cx := { X with xe := E }
noncomputable abbrev Cx.nox (X : Cx) : Cx := X.wish fun _ _ => False
theorem Cx.Ok.wish {X : Cx} (ok : X.Ok) (E : Value -> Shared -> Prop) : (X.wish E).Ok :=
  ⟨ok.mod, ok.kind, ok.glob, ok.blt, ok.above, ok.inj, ok.has, ok.cab, ok.hd, ok.frames, ok.stk, ok.exf, ok.bs, ok.bsz, ok.noex, ok.exfs, ok.funs, ok.frf⟩
theorem Cx.Ok.unwish {X : Cx} {E : Value -> Shared -> Prop} (ok : (X.wish E).Ok) : X.Ok :=
  ⟨ok.mod, ok.kind, ok.glob, ok.blt, ok.above, ok.inj, ok.has, ok.cab, ok.hd, ok.frames, ok.stk, ok.exf, ok.bs, ok.bsz, ok.noex, ok.exfs, ok.funs, ok.frf⟩
section
variable {X : Cx} {pins : List (Addr × Obj)} {σ : St} {H : Hp} {s : Shared} {E : Value -> Shared -> Prop}
theorem Inv.wish (I : Inv X pins σ H s) (E : Value -> Shared -> Prop) : Inv (X.wish E) pins σ H s := ⟨I.ok.wish E, I.os, I.bare, I.base, I.loc, I.cell, I.free, I.freeC, I.pin, I.hok, I.len⟩
theorem Inv.unwish (I : Inv (X.wish E) pins σ H s) : Inv X pins σ H s := ⟨I.ok.unwish, I.os, I.bare, I.base, I.loc, I.cell, I.free, I.freeC, I.pin, I.hok, I.len⟩
theorem SP.unwish {D : Ends} {f : Flow} {s' : Shared} (h : SP (X.wish E) pins D f s') : SP X pins D f s' := by
  cases f with
  | next => obtain ⟨σ', H', I, q⟩ := h; exact ⟨σ', H', I.unwish, q⟩
  | brk => obtain ⟨σ', H', I, q⟩ := h; exact ⟨σ', H', I.unwish, q⟩
  | cont => obtain ⟨σ', H', I, q⟩ := h; exact ⟨σ', H', I.unwish, q⟩
  | ret u => obtain ⟨v, σ', H', I, r, q⟩ := h; exact ⟨v, σ', H', I.unwish, r, q⟩
theorem PSs.nox {st : List Stmt} {t : TS} (h : PSs X.nox st t) : PSs X st t := fun pins s σ H D I hw =>
  wpAny_mono (h pins s σ H D (I.wish _) hw) (fun _ _ q => q.unwish) fun _ _ z => False.elim z
end
section
variable {X : Cx} {st : Stmt} {zd5 : List Stmt} {t u : TS} {e : Expr} {te : TE} {pos : Pos}
noncomputable def ka7 : TS := fun D σ H => D.nx σ H
noncomputable def kd8 (t u : TS) : TS := fun D σ H => t { D with nx := u D } σ H
theorem xs4 : PSs X [] ka7 := fun _ _ σ H _ I h => wpAny_execs_nil ⟨σ, H, I, h⟩
theorem ya3 (h1 : PS X st t) (h2 : PSs X zd5 u) : PSs X (st :: zd5) (kd8 t u) := by
  intro pins s σ H D I h
  refine wpAny_execs_cons (thn (h1 pins s σ H { D with nx := u D } I h) fun f s1 q => ?_)
  cases f with
  | next =>
    obtain ⟨σ', H', I', q⟩ := q
    exact h2 pins s1 σ' H' D I' q
  | ret v => exact q
  | brk => exact q
  | cont => exact q
theorem ys7 (h1 : PS X st t) : PSs X [st] t := by
  intro pins s σ H D I h
  refine wpAny_execs_cons (thn (h1 pins s σ H D I h) fun f s1 q => ?_)
  cases f with
  | next => exact wpAny_execs_nil q
  | ret v => exact q
  | brk => exact q
  | cont => exact q
theorem Inv.quiet {pins : List (Addr × Obj)} {σ : St} {H : Hp} {s : Shared} (I : Inv X pins σ H s) : interactive X.env = false := by simp [interactive, I.ok.kind]
noncomputable def ka8 (te : TE) : TS := fun D σ H => te σ H fun _ H1 => D.nx σ H1
theorem wo6 (he : PE X e te) (hs : swapsWith e none pos.line X.env = pure false := by rfl) : PS X (.Expr e pos) (ka8 te) := by
  intro pins s σ H D I h
  exact wpAny_Expr_any (thn (he pins s σ H _ I h) fun v s1 ⟨x, H1, I1, r1, q1⟩ => ⟨σ, H1, I1, q1⟩) I.quiet hs
noncomputable def kd9 (te : TE) : TS := fun D σ H => te σ H D.rt
theorem yp5 (he : PE X e te) : PS X (.Return (some e) pos) (kd9 te) := by
  intro pins s σ H D I h
  exact wpAny_Return_some (thn (he pins s σ H _ I h) fun v s1 ⟨x, H1, I1, r1, q1⟩ => ⟨x, σ, H1, I1, r1, q1⟩)
noncomputable def ke0 (c : TT) (t u : TS) : TS := fun D σ H => c σ H fun b H1 => if b = true then t D σ H1 else u D σ H1
theorem wm7 {c : Expr} {a b : List Stmt} {tc : TT} (hc : PT X c tc) (ha : PSs X a t) (hb : PSs X b u) : PS X (.If c a b pos) (ke0 tc t u) := by
  intro pins s σ H D I h
  refine wpAny_If (thn (hc pins s σ H _ I h) fun d s1 ⟨H1, I1, q1⟩ => ?_)
  cases d with
  | true => exact ha pins s1 σ H1 D I1 q1
  | false => exact hb pins s1 σ H1 D I1 q1
noncomputable def wx6 : TS := fun _ _ _ => False
theorem wh4 : PS X st wx6 := fun _ _ _ _ _ _ h => h.elim
end
noncomputable abbrev TG := V -> St -> Hp -> (St -> Hp -> Prop) -> Prop
noncomputable abbrev TGs := List V -> St -> Hp -> (St -> Hp -> Prop) -> Prop
noncomputable def PG (X : Cx) (target : Expr) (t : TG) : Prop :=
  ∀ (pins : List (Addr × Obj)) (s : Shared) (σ : St) (H : Hp) (v : V) (u : Value) (Q : St -> Hp -> Prop), Inv X pins σ H s -> zh6 v u -> t v σ H Q ->
    wpAny (model X.prog X.w) X.A (assign target X.env u) (fun _ s' => ∃ σ' H', Inv X pins σ' H' s' /\ Q σ' H') X.xe s
noncomputable def PGs (X : Cx) (ts : List Expr) (t : TGs) : Prop :=
  ∀ (pins : List (Addr × Obj)) (s : Shared) (σ : St) (H : Hp) (vs : List V) (us : List Value) (Q : St -> Hp -> Prop), Inv X pins σ H s -> ze5 vs us -> t vs σ H Q ->
    wpAny (model X.prog X.w) X.A (assignInOrder ((assignEach ts X.env).map (·.2)) us) (fun _ s' => ∃ σ' H', Inv X pins σ' H' s' /\ Q σ' H') X.xe s
noncomputable abbrev wm1 := V -> V -> V -> Hp -> (Hp -> Prop) -> Prop
noncomputable def wx7 (X : Cx) (t : wm1) : Prop :=
  ∀ (pins : List (Addr × Obj)) (s : Shared) (σ : St) (H : Hp) (o i v : V) (ov iv u : Value) (Q : Hp -> Prop), Inv X pins σ H s -> zh6 o ov -> zh6 i iv -> zh6 v u -> t o i v H Q ->
    wpAny (model X.prog X.w) X.A (setItem ov iv u) (fun _ s' => ∃ H', Inv X pins σ H' s' /\ Q H') X.xe s
section
variable {X : Cx} {pos : Pos}
noncomputable def yc2 (i : Nat) : TG := fun v σ H Q => Q (σ.set i (some v)) H
theorem zw1 {i : Nat} {x : Str} (hN : X.N.Nodup) (hi : X.N[i]? = some x) (hx : Loc X.env.scope x) (hf : X.fn x = true \/ X.env.scope.names.lookup x = some .local := by first | exact .inl rfl | exact .inr rfl | assumption) : PG X (.Name x pos) (yc2 i) := by
  intro pins s σ H v u Q I r h
  exact wpAny_assign_Name (xl6 I hN hi hx r (fun s' I' => ⟨_, H, I', h⟩) hf)
noncomputable def wm2 : TGs := fun vs σ H Q => vs = [] /\ Q σ H
noncomputable def xz5 (t : TG) (u : TGs) : TGs := fun vs σ H Q => ∃ v r, vs = v :: r /\ t v σ H fun σ' H' => u r σ' H' Q
theorem xd5 : PGs X [] wm2 := by
  intro pins s σ H vs us Q I r h
  obtain ⟨e, h⟩ := h
  subst e
  cases r
  exact assignInOrder_nil ⟨σ, H, I, h⟩
theorem yd0 {e : Expr} {es : List Expr} {t : TG} {u : TGs} (h1 : PG X e t) (h2 : PGs X es u)
    (hs : (assignEach (e :: es) X.env).map (·.2) = assign e X.env :: (assignEach es X.env).map (·.2) := by rfl) : PGs X (e :: es) (xz5 t u) := by
  intro pins s σ H vs us Q I r h
  obtain ⟨v, vr, e1, h⟩ := h
  subst e1
  cases r with
  | cons r rr =>
    rw [hs]
    refine assignInOrder_cons (thn (h1 pins s σ H _ _ _ I r h) fun _ s1 ⟨σ1, H1, I1, q1⟩ => ?_)
    exact h2 pins s1 σ1 H1 _ _ Q I1 rr q1
noncomputable def wx8 (K : PySem.W.Frag) (n : Nat) (t : TGs) : TG := fun v σ H Q => ∃ a xs, v = .ref a /\ SqT K H a xs /\ xs.length = n /\ t xs σ H Q
theorem wt4 {es : List Expr} {k : Nat} {t : TGs} {n : Nat} (hc : X.calm = true) (h : PGs X es t)
    (hn : (assignEach es X.env).length = n := by rfl) (hst : (assignEach es X.env).findIdx? (·.1) = none := by rfl) : PG X (.Tuple es k pos) (wx8 X.K n t) := by
  intro pins s σ H v u Q I r hw
  obtain ⟨a, xs, e1, hq, hl, hw⟩ := hw
  subst e1
  cases r
  obtain ⟨its, rv, ht, hz⟩ := I.tuple hq
  refine assign_Tuple_tuple (I.ok.hd hc) ht (by simp [hn, <- hl, rv.length]) hst fun h' hx => ?_
  have I1 : Inv X pins σ H { s with heap := h' } := I.kept (t' := s.toks) fun b o e => hx b o (Nat.ne_of_lt (Heap.lt_size e)) e
  exact h pins _ σ H xs _ Q I1 (by simpa using rv) hw
noncomputable def ke1 (to ti : TE) (t : wm1) : TG := fun v σ H Q => to σ H fun o H1 => ti σ H1 fun i H2 => t o i v H2 fun H3 => Q σ H3
theorem wt5 {o i : Expr} {to ti : TE} {t : wm1} (ho : PE X o to) (hi : PE X i ti) (hs : wx7 X t)
    (ha : ∀ v, assign (.Subscript o i pos) X.env v = (do
      let ov <- holding [v] (eval o X.env)
      let iv <- holding [v, ov] (eval i X.env)
      standAt pos
      holding [v, ov, iv] (setItem ov iv v)
      release [v, ov, iv] []) := by intro _; rfl) : PG X (.Subscript o i pos) (ke1 to ti t) := by
  intro pins s σ H v u Q I r h
  rw [ha]
  refine wpAny_bind (wpAny_holding (thn (ho pins s σ H _ I h) fun ov s1 ⟨x, H1, I1, r1, q1⟩ => ?_))
  refine wpAny_bind (wpAny_holding (thn (hi pins s1 σ H1 _ I1 q1) fun iv s2 ⟨y, H2, I2, r2, q2⟩ => ?_))
  refine wpAny_bind (wpAny_standAt (wpAny_bind (wpAny_holding (thn (hs pins s2 σ H2 x y v ov iv u _ I2 r1 r2 r q2) fun _ s3 ⟨H3, I3, q3⟩ => ?_))))
  exact wpAny_release ⟨σ, H3, I3, q3⟩
noncomputable def wx9 (te : TE) (g : TG) : TS := fun D σ H => te σ H fun x H1 => g x σ H1 D.nx
theorem wa6 {tg e : Expr} {te : TE} {g : TG} (he : PE X e te) (hg : PG X tg g) (hs : swapsWithSole [tg] e pos.line X.env = pure false := by rfl) (hw : swappedStores [tg] e X.env = pure none := by rfl)
    (h1 : (assignEach [tg] X.env).map (·.2) = [assign tg X.env] := by rfl) : PS X (.Assign [tg] e pos) (wx9 te g) := by
  intro pins s σ H D I h
  refine wpAny_Assign_stores (thn (he pins s σ H _ I h) fun v s1 ⟨x, H1, I1, r1, q1⟩ => ?_) hs hw
  rw [h1]
  exact thn (hg pins s1 σ H1 x v _ I1 r1 q1) fun _ s2 q => q
theorem yl0 {i : Nat} {x : Str} {e : Expr} {te : TE} {pos' : Pos} (hN : X.N.Nodup) (hi : X.N[i]? = some x) (hx : Loc X.env.scope x) (he : PE X e te) (hs : swapsWith e (some (.Name x pos')) pos.line X.env = pure false := by rfl) (hf : X.fn x = true \/ X.env.scope.names.lookup x = some .local := by first | exact .inl rfl | exact .inr rfl | assumption) :
    PS X (.Assign [.Name x pos'] e pos) (wx9 te (yc2 i)) := by
  intro pins s σ H D I h
  refine wpAny_Assign_Name (thn (he pins s σ H _ I h) fun v s1 ⟨y, H1, I1, r1, q1⟩ => ?_) hs
  exact xl6 I1 hN hi hx r1 (fun s2 I2 => ⟨_, H1, I2, q1⟩) hf
end
section
variable {X : Cx} {pos : Pos}
noncomputable def wy0 (c : TT) (tb : TS) : TS := fun D σ H => ∃ W : Nat -> St -> Hp -> Prop, (∃ m, W m σ H) /\ ∀ m σ H, W m σ H ->
  c σ H fun b H1 => if b = true then ∃ N : St -> Hp -> Prop, (∀ σ' H', N σ' H' -> ∃ m', m' < m /\ W m' σ' H') /\ tb { D with nx := N, ct := N, bk := D.nx } σ H1 else D.nx σ H1
theorem wh5 {c : Expr} {body : List Stmt} {tc : TT} {tb : TS} (hp : PassesOwn (model X.prog X.w) X.A X.env X.xe) (hc : PT X c tc) (hb : PSs X body tb) : PS X (.While c body [] pos) (wy0 tc tb) := by
  intro pins s σ H D I h
  obtain ⟨W, ⟨m0, w0⟩, turn⟩ := h
  refine wpAny_While (codeAny_whileLoop (fun n s' => ∃ σ' H', Inv X pins σ' H' s' /\ W n σ' H') ?_ m0 ⟨σ, H, I, w0⟩)
  rintro n s1 ⟨σ1, H1, I1, w1⟩
  refine wpAny_passesOwn hp (thn (hc pins s1 σ1 H1 _ I1 (turn n σ1 H1 w1)) fun b s2 ⟨H2, I2, q2⟩ => ?_)
  cases b with
  | true =>
    obtain ⟨N, hN, q2⟩ := q2
    rw [if_pos rfl]
    refine wpAny_passesOwn hp (thn (hb pins s2 σ1 H2 _ I2 q2) fun f s3 q3 => ?_)
    cases f with
    | next =>
      obtain ⟨σ3, H3, I3, n3⟩ := q3
      obtain ⟨m', hm, w3⟩ := hN σ3 H3 n3
      exact ⟨m', hm, σ3, H3, I3, w3⟩
    | cont =>
      obtain ⟨σ3, H3, I3, n3⟩ := q3
      obtain ⟨m', hm, w3⟩ := hN σ3 H3 n3
      exact ⟨m', hm, σ3, H3, I3, w3⟩
    | brk => exact q3
    | ret v => exact q3
  | false =>
    rw [if_neg Bool.false_ne_true]
    exact wpAny_execs_nil ⟨σ1, H2, I2, q2⟩
end
structure It where
  go : Nat -> Hp -> Prop
  yld : Nat -> Hp -> V -> Hp -> Prop
  stop : Nat -> Hp -> Prop
noncomputable def yi0 (X : Cx) (pins : List (Addr × Obj)) (H : Hp) (b : Addr) : Prop :=
  H b = none /\ b ≠ X.env.locals /\ b ∉ X.fs /\ (b ∈ X.ex \/ X.s₀.heap.objs.size <= b) /\ (∀ x c, X.env.cells.lookup x = some c -> c ≠ b) /\ ∀ p ∈ X.pn ++ pins, p.1 ≠ b
theorem Inv.fpOk {X : Cx} {pins : List (Addr × Obj)} {σ : St} {H H' : Hp} {s : Shared} {b : Addr} (I : Inv X pins σ H s) (hb : s.heap.objs.size <= b) (hn : H' b = none) : yi0 X pins H' b := by
  refine ⟨hn, Nat.ne_of_gt (Nat.lt_of_lt_of_le I.lt hb), I.nofs hb, .inr (Nat.le_trans I.sz hb), fun x c e z => ?_, fun p hp z => ?_⟩
  . obtain ⟨v, q⟩ := I.cell x c e
    exact absurd (Nat.lt_of_lt_of_le q.lt (by rw [z]; exact hb)) (Nat.lt_irrefl _)
  . exact absurd (Nat.lt_of_lt_of_le (Heap.lt_size (I.pin p hp).1) (by rw [z]; exact hb)) (Nat.lt_irrefl _)
structure Turn (P : Program) (w : World) (K : PySem.W.Frag) (tg : Expr) (J : It) (fp : List Addr) (it : Addr) (tn : Nat -> Heap -> Prop) : Prop where
  mem : it ∈ fp
  obj : ∀ i h, tn i h -> ∀ b ∈ fp, ∃ o, h.get? b = some o /\ ∀ v, o.data ≠ .cell v
  keep : ∀ i h h', tn i h -> (∀ b ∈ fp, ∀ o, h.get? b = some o -> h'.get? b = some o) -> tn i h'
  item : ∀ (X : Cx), X.prog = P -> X.w = w -> X.K = K -> X.calm = true -> ∀ (i : Nat) (pins : List (Addr × Obj)) (s : Shared) (σ : St) (H : Hp) (E : Value -> Shared -> Prop), Inv X pins σ H s -> (∀ b ∈ fp, yi0 X pins H b) -> tn i s.heap -> J.go i H ->
    wpAny (model P w) X.A (pyNext (.ref it)) (fun r s1 => ∃ u, r = some u /\
      wpAny (model P w) X.A (letOwnedTupleGo tg (.ref it) u) (fun _ s2 => ∃ x H', Inv X pins σ H' s2 /\ zh6 x u /\ J.yld i H x H' /\ tn (i + 1) s2.heap /\ ∀ b ∈ fp, H' b = none) E s1) E s
  done : ∀ (X : Cx), X.prog = P -> X.w = w -> X.K = K -> X.calm = true -> ∀ (i : Nat) (pins : List (Addr × Obj)) (s : Shared) (σ : St) (H : Hp) (E : Value -> Shared -> Prop), Inv X pins σ H s -> (∀ b ∈ fp, yi0 X pins H b) -> tn i s.heap -> J.stop i H ->
    wpAny (model P w) X.A (pyNext (.ref it)) (fun r s1 => r = none /\ Inv X pins σ H s1) E s
  self : ∀ (A : Around) (i : Nat) (s : Shared) (Q : Value -> Shared -> Prop) (E : Value -> Shared -> Prop), tn i s.heap -> Q (.ref it) s -> wpAny (model P w) A (pyIter (.ref it)) Q E s
noncomputable abbrev TI := St -> Hp -> (It -> Hp -> Prop) -> Prop
noncomputable def PIE (X : Cx) (pins : List (Addr × Obj)) (σ : St) (tg : Expr) (R : It -> Hp -> Prop) (itv : Value) (s2 : Shared) : Prop :=
  ∃ (it : Addr) (fp : List Addr) (tn : Nat -> Heap -> Prop) (J : It) (H' : Hp), itv = .ref it /\ Inv X pins σ H' s2 /\ Turn X.prog X.w X.K tg J fp it tn /\ tn 0 s2.heap /\ (∀ b ∈ fp, yi0 X pins H' b) /\ R J H'
noncomputable def PI (X : Cx) (tg iter : Expr) (wi : TI) : Prop :=
  ∀ (pins : List (Addr × Obj)) (s : Shared) (σ : St) (H : Hp) (R : It -> Hp -> Prop), Inv X pins σ H s -> wi σ H R ->
    wpAny (model X.prog X.w) X.A (eval iter X.env) (fun v s1 => wpAny (model X.prog X.w) X.A (pyIter v) (PIE X pins σ tg R) X.xe s1) X.xe s
theorem xv4 {M : Model} {A : Around} {E : Value -> Shared -> Prop} {s : Shared} {tg : Expr} {it : Addr} {u : Value} {o : Obj} {n : String} {vs : Array Value} {Q : Unit -> Shared -> Prop} (ho : s.heap.get? it = some o) (hc : o.cls = .type n) (hd : o.data = .fields vs)
    (hn : ["enumerate", "zip", "dict_itemiterator", "dict_reverseitemiterator", "odict_iterator", "itertools.zip_longest", "itertools.pairwise"].contains n = false) (hQ : Q () s) : wpAny M A (letOwnedTupleGo tg (.ref it) u) Q E s := by
  unfold letOwnedTupleGo
  cases tg <;> first
    | exact wpAny_pure hQ
    | (cases u <;> first
        | exact wpAny_pure hQ
        | (refine wpAny_bind (wpAny_load ho ?_)
           rw [hc, hd]
           show wpAny M A (if (["enumerate", "zip", "dict_itemiterator", "dict_reverseitemiterator", "odict_iterator", "itertools.zip_longest", "itertools.pairwise"].contains n && vs[0]? == some (rawInt _)) = true then _ else _) Q E s
           rw [if_neg (by intro h; rw [hn, Bool.false_and] at h; cases h)]
           exact wpAny_pure hQ))
noncomputable def Itl (K : PySem.W.Frag) (a : Addr) : It :=
  ⟨fun i H => ∃ xs x, SqL K H a xs /\ xs[i]? = some x, fun i H x H' => H' = H /\ ∀ xs, SqL K H a xs -> xs[i]? = some x, fun i H => ∃ xs, SqL K H a xs /\ xs.length <= i⟩
noncomputable def Itt (K : PySem.W.Frag) (a : Addr) : It :=
  ⟨fun i H => ∃ xs x, SqT K H a xs /\ xs[i]? = some x, fun i H x H' => H' = H /\ ∀ xs, SqT K H a xs -> xs[i]? = some x, fun i H => ∃ xs, SqT K H a xs /\ xs.length <= i⟩
noncomputable def Itr (lo : Int) (n : Nat) : It := ⟨fun i _ => i < n, fun i H x H' => H' = H /\ x = .int (lo + i), fun i _ => n <= i⟩
theorem wa7 {P : Program} {w : World} {K : PySem.W.Frag} {tg : Expr} (a it : Addr) : Turn P w K tg (Itl K a) [it] it (fun i h => h.IsListIter it a i) where
  mem := by simp
  obj := fun i h st b hb => by
    have e : b = it := by simpa using hb
    subst e
    obtain ⟨o, e, c, d⟩ := st
    exact ⟨o, e, fun v z => by rw [d] at z; cases z⟩
  keep := fun i h h' st k => st.at fun o e => k it (by simp) o e
  item := by
    intro X hP hw hK hc i pins s σ H E I hf st hg
    subst hP hw hK
    obtain ⟨xs, x, hq, hx⟩ := hg
    obtain ⟨its, rv, p, hz⟩ := I.list hq
    obtain ⟨u, hu, ru⟩ := rv.get hx
    obtain ⟨f0, f1, f2, f3, f4, f5⟩ := hf it (by simp)
    refine wpAny_pyNext_list_item st p.isList (x := u) (by simpa using hu) fun h' st' sb => ?_
    have I1 : Inv X pins σ H { s with heap := h' } := I.turned (t' := s.toks) (fun b o hb e => (sb.2 b hb).trans e) f0 f1 f3 f4 f5
    obtain ⟨o, e, c, d⟩ := id st'
    exact ⟨u, rfl, xv4 (s := { s with heap := h' }) e c d (by decide) ⟨x, H, I1, ru, ⟨rfl, fun ys hy => by rw [I.list_inj hy hq]; exact hx⟩, st', fun b hb => (hf b hb).1⟩⟩
  done := by
    intro X hP hw hK hc i pins s σ H E I hf st hg
    subst hP hw hK
    obtain ⟨xs, hq, hx⟩ := hg
    obtain ⟨its, rv, p, hz⟩ := I.list hq
    obtain ⟨f0, f1, f2, f3, f4, f5⟩ := hf it (by simp)
    have hl := rv.length
    exact wpAny_pyNext_list_end (I.ok.hd hc) st p.isList (by simp; omega) fun h' eb => ⟨rfl, I.turned (t' := s.toks) (fun b o hb e => eb b o hb e) f0 f1 f3 f4 f5⟩
  self := fun _ _ _ _ _ st h => wpAny_pyIter_listiter st h
theorem xv5 {P : Program} {w : World} {K : PySem.W.Frag} {tg : Expr} (a it : Addr) : Turn P w K tg (Itt K a) [it] it (fun i h => h.IsTupleIter it a i) where
  mem := by simp
  obj := fun i h st b hb => by
    have e : b = it := by simpa using hb
    subst e
    obtain ⟨o, e, c, d⟩ := st
    exact ⟨o, e, fun v z => by rw [d] at z; cases z⟩
  keep := fun i h h' st k => st.at fun o e => k it (by simp) o e
  item := by
    intro X hP hw hK hc i pins s σ H E I hf st hg
    subst hP hw hK
    obtain ⟨xs, x, hq, hx⟩ := hg
    obtain ⟨its, rv, p, hz⟩ := I.tuple hq
    obtain ⟨u, hu, ru⟩ := rv.get hx
    obtain ⟨f0, f1, f2, f3, f4, f5⟩ := hf it (by simp)
    refine wpAny_pyNext_tuple_item st (show s.heap.IsTuple a its.toArray from p) (x := u) (by simpa using hu) fun h' st' sb => ?_
    have I1 : Inv X pins σ H { s with heap := h' } := I.turned (t' := s.toks) (fun b o hb e => (sb.2 b hb).trans e) f0 f1 f3 f4 f5
    obtain ⟨o, e, c, d⟩ := id st'
    exact ⟨u, rfl, xv4 (s := { s with heap := h' }) e c d (by decide) ⟨x, H, I1, ru, ⟨rfl, fun ys hy => by rw [I.tuple_inj hy hq]; exact hx⟩, st', fun b hb => (hf b hb).1⟩⟩
  done := by
    intro X hP hw hK hc i pins s σ H E I hf st hg
    subst hP hw hK
    obtain ⟨xs, hq, hx⟩ := hg
    obtain ⟨its, rv, p, hz⟩ := I.tuple hq
    obtain ⟨f0, f1, f2, f3, f4, f5⟩ := hf it (by simp)
    have hl := rv.length
    exact wpAny_pyNext_tuple_end (I.ok.hd hc) st (show s.heap.IsTuple a its.toArray from p) (by simp; omega) fun h' eb => ⟨rfl, I.turned (t' := s.toks) (fun b o hb e => eb b o hb e) f0 f1 f3 f4 f5⟩
  self := fun _ _ _ _ _ st h => wpAny_pyIter_tupleiter st h
theorem xv6 {P : Program} {w : World} {K : PySem.W.Frag} {tg : Expr} (it : Addr) (lo : Int) (n : Nat) : Turn P w K tg (Itr lo n) [it] it (fun i h => IsRangeIter h it (lo + (i : Nat) * 1) ((n : Int) - (i : Nat)) 1) where
  mem := by simp
  obj := fun i h st b hb => by
    have e : b = it := by simpa using hb
    subst e
    exact ⟨_, st, fun v z => by
      have z' : Data.fields _ = Data.cell v := z
      cases z'⟩
  keep := fun i h h' st k => k it (by simp) _ st
  item := by
    intro X hP hw hK hc i pins s σ H E I hf st hg
    subst hP hw hK
    obtain ⟨f0, f1, f2, f3, f4, f5⟩ := hf it (by simp)
    have W := Walks.range (prog := X.prog) (w := X.w) (I.ok.hd hc) it lo 1 n
    refine W.item i s _ _ hg st fun v h' tk hv st' kk => ?_
    obtain ⟨t, rfl⟩ := hv
    have I1 : Inv X pins σ H { s with heap := h', toks := tk } := I.turned (fun b o hb e => kk b o (by simpa using hb) e) f0 f1 f3 f4 f5
    refine ⟨_, rfl, xv4 (s := { s with heap := h', toks := tk }) (n := "range_iterator") st' rfl rfl (by decide) ⟨.int (lo + i), H, I1, ⟨t, ?_⟩, ⟨rfl, rfl⟩, st', fun b hb => (hf b hb).1⟩⟩
    rw [Int.mul_one]
  done := by
    intro X hP hw hK hc i pins s σ H E I hf st hg
    subst hP hw hK
    obtain ⟨f0, f1, f2, f3, f4, f5⟩ := hf it (by simp)
    exact wpAny_pyNext_range_end (I.ok.hd hc) st (by have : n <= i := hg; omega) fun h' eb => ⟨rfl, I.turned (t' := s.toks) (fun b o hb e => eb b o hb e) f0 f1 f3 f4 f5⟩
  self := fun _ _ _ _ _ st h => wpAny_pyIter_rangeiter st h
end L2
namespace L2
open PySem PySem.Spec PyProof.Rows
section
variable {X : Cx} {tg : Expr}
theorem xl7 {pins : List (Addr × Obj)} {σ : St} {H : Hp} {s : Shared} {R : It -> Hp -> Prop} {E : Value -> Shared -> Prop} {lo hi : Int} {t u v : Tok} {tk : Nat} (I : Inv X pins σ H s) (h1 : -(2 ^ 62) <= lo) (h2 : lo < 2 ^ 62) (h3 : -(2 ^ 62) <= hi) (h4 : hi < 2 ^ 62)
    (q : R (Itr lo (hi - lo).toNat) H) : wpAny (model X.prog X.w) X.A (pyIter (.ref s.heap.objs.size)) (PIE X pins σ tg R) E { s with heap := s.heap.push { cls := .type "range", data := .fields #[.int lo t, .int hi u, .int 1 v] }, toks := tk } := by
  refine wpAny_pyIter_range (IsRange.new ..) (small_one h1 h2 h3 h4) ?_
  have I1 : Inv X pins σ H { s with heap := s.heap.push { cls := .type "range", data := .fields #[.int lo t, .int hi u, .int 1 v] }, toks := tk } := I.kept fun b o e => Heap.get?_push_of_some _ e
  refine ⟨(s.heap.push { cls := .type "range", data := .fields #[.int lo t, .int hi u, .int 1 v] }).objs.size, [(s.heap.push { cls := .type "range", data := .fields #[.int lo t, .int hi u, .int 1 v] }).objs.size], _, _, H, rfl,
    I1.kept (t' := tk) fun b o e => Heap.get?_push_of_some _ e, xv6 _ lo (hi - lo).toNat, ?_, fun b hb => ?_, q⟩
  . have e1 : lo + ((0 : Nat) : Int) * 1 = lo := by simp
    have e2 : (((hi - lo).toNat : Nat) : Int) - ((0 : Nat) : Int) = Builtin.Range.rangeSize lo hi 1 := by rw [rangeSize_one]; split <;> omega
    show IsRangeIter _ _ (lo + ((0 : Nat) : Int) * 1) ((((hi - lo).toNat : Nat) : Int) - ((0 : Nat) : Int)) 1
    rw [e1, e2]
    exact Heap.get?_push_size _ rfl
  . have e : b = (s.heap.push { cls := .type "range", data := .fields #[.int lo t, .int hi u, .int 1 v] }).objs.size := by simpa using hb
    subst e
    exact I1.fpOk (Nat.le_refl _) (I1.hok.fresh (Nat.le_refl _))
noncomputable def ka9 (ta : TA) : TI := fun σ H R => ta σ H fun vs H1 => ∃ j : Int, vs = [.int j] /\ -(2 ^ 62) <= j /\ j < 2 ^ 62 /\ R (Itr 0 j.toNat) H1
noncomputable def kb0 (ta : TA) : TI := fun σ H R => ta σ H fun vs H1 => ∃ i j : Int, vs = [.int i, .int j] /\ (-(2 ^ 62) <= i /\ i < 2 ^ 62 /\ -(2 ^ 62) <= j /\ j < 2 ^ 62) /\ R (Itr i (j - i).toNat) H1
theorem wa8 {a : Expr} {ta : TA} {p pos : Pos} (hg : Gl X "range") (hm : X.mg "range" = none) (ha : PA X [a] ta) (hs : starEach [a] X.env = [(false, eval a X.env)] := by rfl) : PI X tg (.Call (.Name "range" p) [a] [] pos) (ka9 ta) := by
  intro pins s σ H R I h
  refine Call_ (yy1 I hg hm boot_range (PyProof.Rows.callWith_type1 (thn (ha pos pins s σ H _ I h) fun us s1 ⟨vs, H1, I1, r1, q1⟩ => ?_) hs rfl))
  obtain ⟨j, e, q1, q2, q⟩ := q1
  subst e
  cases r1 with
  | cons r rr =>
    cases rr
    obtain ⟨t, rfl⟩ := r
    exact call_range_1 (xl7 I1 (by omega) (by omega) q1 q2 (by simpa using q))
theorem wa9 {a b : Expr} {ta : TA} {p pos : Pos} (hg : Gl X "range") (hm : X.mg "range" = none) (ha : PA X [a, b] ta) (hs : starEach [a, b] X.env = [(false, eval a X.env), (false, eval b X.env)] := by rfl) (hs2 : starEach [b] X.env = [(false, eval b X.env)] := by rfl) :
    PI X tg (.Call (.Name "range" p) [a, b] [] pos) (kb0 ta) := by
  intro pins s σ H R I h
  refine Call_ (yy1 I hg hm boot_range (PyProof.Rows.callWith_type1 (thn (ha pos pins s σ H _ I h) fun us s1 ⟨vs, H1, I1, r1, q1⟩ => ?_) (by rw [hs, hs2]) (by rw [hs2]; rfl)))
  obtain ⟨i, j, e, ⟨q1, q2, q3, q4⟩, q⟩ := q1
  subst e
  cases r1 with
  | cons r rr =>
    cases rr with
    | cons r' rr =>
      cases rr
      obtain ⟨t, rfl⟩ := r
      obtain ⟨t', rfl⟩ := r'
      exact call_range_2 (xl7 I1 q1 q2 q3 q4 q)
noncomputable def ke2 (wi : TI) (g : TG) (tb : TS) : TS := fun D σ H => wi σ H fun J H1 => ∃ W : Nat -> Nat -> St -> Hp -> Prop, (∃ m, W 0 m σ H1) /\ ∀ i m σ H, W i m σ H ->
  (J.stop i H /\ D.nx σ H) \/ (J.go i H /\ ∃ N : St -> Hp -> Prop, (∀ σ' H', N σ' H' -> ∃ m', m' < m /\ W (i + 1) m' σ' H') /\ ∀ x H', J.yld i H x H' -> g x σ H' fun σ2 H2 => tb { D with nx := N, ct := N, bk := D.nx } σ2 H2)
noncomputable def ym2 (fp : List Addr) (h : Heap) : List (Addr × Obj) := fp.filterMap fun b => (h.get? b).map fun o => (b, o)
theorem yg6 {fp : List Addr} {h : Heap} {b : Addr} {o : Obj} (hb : b ∈ fp) (e : h.get? b = some o) : (b, o) ∈ ym2 fp h := List.mem_filterMap.mpr ⟨b, hb, by rw [e]; rfl⟩
theorem wb0 {fp : List Addr} {h : Heap} {p : Addr × Obj} (hp : p ∈ ym2 fp h) : p.1 ∈ fp /\ h.get? p.1 = some p.2 := by
  obtain ⟨b, hb, e⟩ := List.mem_filterMap.mp hp
  cases q : h.get? b with
  | none => rw [q] at e; cases e
  | some o =>
    rw [q] at e
    have e' : (b, o) = p := Option.some.inj e
    subst e'
    exact ⟨hb, q⟩
theorem Inv.pinned {pins : List (Addr × Obj)} {σ : St} {H : Hp} {s : Shared} {fp : List Addr} (I : Inv X pins σ H s) (hf : ∀ b ∈ fp, yi0 X pins H b) (ho : ∀ b ∈ fp, ∃ o, s.heap.get? b = some o /\ ∀ v, o.data ≠ .cell v) : Inv X (pins ++ ym2 fp s.heap) σ H s :=
  I.pins_of fun p hp => (List.mem_append.mp hp).elim (fun z => I.pin p (List.mem_append_right _ z)) fun z => by
    obtain ⟨hb, e⟩ := wb0 z
    obtain ⟨f0, f1, f2, _⟩ := hf p.1 hb
    obtain ⟨o, e', d⟩ := ho p.1 hb
    rw [e] at e'; cases e'
    exact ⟨e, f0, f1, f2, d⟩
theorem Inv.unpinned {pins pl : List (Addr × Obj)} {σ : St} {H : Hp} {s : Shared} (I : Inv X (pins ++ pl) σ H s) : Inv X pins σ H s := I.pins_of fun p hp => I.pin p (List.mem_append_right _ (List.mem_append_left _ hp))
theorem wb1 {iter : Expr} {body : List Stmt} {wi : TI} {g : TG} {tb : TS} {pos : Pos} (hp : PassesOwn (model X.prog X.w) X.A X.env X.xe) (hc : X.calm = true) (hi : PI X tg iter wi) (hg : PG X tg g) (hb : PSs X body tb)
    (hs : ∀ x, foldedSetIterable iter X.env x = pure x := by intro _; rfl) : PS X (.For tg iter body [] pos) (ke2 wi g tb) := by
  intro pins s σ H D I h
  refine wpAny_For (thn (hi pins s σ H _ I h) fun v s1 h1 => thn h1 fun itv s2 h2 => ?_) hs
  obtain ⟨it, fp, tn, J, H2, e, I2, T, st2, f2, W, ⟨m0, w0⟩, turn⟩ := h2
  subst e
  have stat : ∀ {H' : Hp}, (∀ b ∈ fp, H' b = none) -> ∀ b ∈ fp, yi0 X pins H' b := fun hn b hb => ⟨hn b hb, (f2 b hb).2⟩
  refine codeAny_forLoop_any (fun n s' => ∃ i σ' H', Inv X pins σ' H' s' /\ tn i s'.heap /\ (∀ b ∈ fp, H' b = none) /\ W i n σ' H') ?_ m0 ⟨0, σ, H2, I2, st2, fun b hb => (f2 b hb).1, w0⟩
  rintro n s3 ⟨i, σ3, H3, I3, st3, fr3, w3⟩
  rcases turn i n σ3 H3 w3 with ⟨stop, qn⟩ | ⟨go, N, hN, step⟩
  . refine wpAny_passesOwn hp (thn (T.done X rfl rfl rfl hc i pins s3 σ3 H3 X.xe I3 (stat fr3) st3 stop) fun r s4 ⟨hr, I4⟩ => ?_)
    subst hr
    exact wpAny_execs_nil ⟨σ3, H3, I4, qn⟩
  . refine wpAny_passesOwn hp (thn (T.item X rfl rfl rfl hc i pins s3 σ3 H3 X.xe I3 (stat fr3) st3 go) fun r s4 ⟨u, hr, h4⟩ => ?_)
    subst hr
    refine wpAny_passesOwn hp (thn h4 fun _ s5 ⟨x, H5, I5, r5, y5, st5, fr5⟩ => ?_)
    have I5' := I5.pinned (stat fr5) (T.obj _ _ st5)
    refine wpAny_passesOwn hp (thn (hg _ s5 σ3 H5 x u _ I5' r5 (step x H5 y5)) fun _ s6 ⟨σ6, H6, I6, q6⟩ => ?_)
    refine wpAny_passesOwn hp (thn (hb _ s6 σ6 H6 _ I6 q6) fun f s7 q7 => ?_)
    have again : ∀ {σ7 : St} {H7 : Hp}, Inv X (pins ++ ym2 fp s5.heap) σ7 H7 s7 -> N σ7 H7 -> ∃ m, m < n /\ ∃ i σ' H', Inv X pins σ' H' s7 /\ tn i s7.heap /\ (∀ b ∈ fp, H' b = none) /\ W i m σ' H' := fun {σ7 H7} I7 n7 => by
      obtain ⟨m', hm, w7⟩ := hN σ7 H7 n7
      refine ⟨m', hm, i + 1, σ7, H7, I7.unpinned, T.keep _ _ _ st5 fun b hb o e => (I7.pin (b, o) (List.mem_append_right _ (List.mem_append_right _ (yg6 hb e)))).1, fun b hb => ?_, w7⟩
      obtain ⟨o, e, d⟩ := T.obj _ _ st5 b hb
      exact (I7.pin (b, o) (List.mem_append_right _ (List.mem_append_right _ (yg6 hb e)))).2.1
    cases f with
    | next => obtain ⟨σ7, H7, I7, n7⟩ := q7; exact again I7 n7
    | cont => obtain ⟨σ7, H7, I7, n7⟩ := q7; exact again I7 n7
    | brk => obtain ⟨σ7, H7, I7, q7⟩ := q7; exact ⟨σ7, H7, I7.unpinned, q7⟩
    | ret v => obtain ⟨x7, σ7, H7, I7, r7, q7⟩ := q7; exact ⟨x7, σ7, H7, I7.unpinned, r7, q7⟩
end
end L2
namespace L2
open PySem PySem.Spec PyProof.Rows
noncomputable abbrev R2 := V -> V -> Hp -> VK -> Prop
noncomputable def OpR (X : Cx) (f : Value -> Value -> Sem Value) (r : R2) : Prop :=
  ∀ (pins : List (Addr × Obj)) (s : Shared) (σ : St) (H : Hp) (x y : V) (v u : Value) (Q : VK), Inv X pins σ H s -> zh6 x v -> zh6 y u -> r x y H Q ->
    wpAny (model X.prog X.w) X.A (f v u) (EP X pins σ Q) X.xe s
noncomputable def UnR (X : Cx) (f : Value -> Sem Value) (r : V -> Hp -> VK -> Prop) : Prop :=
  ∀ (pins : List (Addr × Obj)) (s : Shared) (σ : St) (H : Hp) (x : V) (v : Value) (Q : VK), Inv X pins σ H s -> zh6 x v -> r x H Q ->
    wpAny (model X.prog X.w) X.A (f v) (EP X pins σ Q) X.xe s
noncomputable def zn9 (X : Cx) (f : Value) (r : List V -> Hp -> VK -> Prop) : Prop :=
  ∀ (pins : List (Addr × Obj)) (s : Shared) (σ : St) (H : Hp) (xs : List V) (us : List Value) (Q : VK), Inv X pins σ H s -> ze5 xs us -> r xs H Q ->
    wpAny (model X.prog X.w) X.A (call f us) (EP X pins σ Q) X.xe s
noncomputable def ke3 (X : Cx) (r : V -> Hp -> (Bool -> Hp -> Prop) -> Prop) : Prop :=
  ∀ (pins : List (Addr × Obj)) (s : Shared) (σ : St) (H : Hp) (x : V) (v : Value) (Q : Bool -> Hp -> Prop), Inv X pins σ H s -> zh6 x v -> r x H Q ->
    wpAny (model X.prog X.w) X.A (truthy v) (TP X pins σ Q) X.xe s
noncomputable def tOp (r : R2) (ta tb : TE) : TE := fun σ H Q => ta σ H fun x H1 => tb σ H1 fun y H2 => r x y H2 Q
noncomputable def tUn (r : V -> Hp -> VK -> Prop) (ta : TE) : TE := fun σ H Q => ta σ H fun x H1 => r x H1 Q
noncomputable def rI (C : Int -> Int -> Prop) (g : Int -> Int -> V) : R2 := fun x y H Q => ∃ i j, x = .int i /\ y = .int j /\ C i j /\ Q (g i j) H
noncomputable def rI0 (g : Int -> Int -> V) : R2 := fun x y H Q => ∃ i j, x = .int i /\ y = .int j /\ Q (g i j) H
noncomputable def rU (g : Int -> V) : V -> Hp -> VK -> Prop := fun x H Q => ∃ i, x = .int i /\ Q (g i) H
section
variable {X : Cx} {a b c : Expr} {ta tb tc : TE} {pos : Pos}
theorem wh6 (ha : PE X a ta) (hb : PE X b tb) {pins : List (Addr × Obj)} {s : Shared} {σ : St} {H : Hp} {R : V -> V -> Hp -> Prop} (I : Inv X pins σ H s)
    (h : ta σ H fun x H1 => tb σ H1 fun y H2 => R x y H2) {Q : Value -> Shared -> Prop} {f : Value -> Value -> Sem Value}
    (hf : ∀ v u s2 x y H2, Inv X pins σ H2 s2 -> zh6 x v -> zh6 y u -> R x y H2 -> wpAny (model X.prog X.w) X.A (f v u) Q X.xe s2) :
    wpAny (model X.prog X.w) X.A (eval a X.env) (fun v s₁ => wpAny (model X.prog X.w) X.A (eval b X.env) (fun u s₂ => wpAny (model X.prog X.w) X.A (f v u) Q X.xe s₂) X.xe s₁) X.xe s := by
  refine thn (ha pins s σ H _ I h) fun v s1 ⟨x, H1, I1, r1, q1⟩ => ?_
  refine thn (hb pins s1 σ H1 _ I1 q1) fun u s2 ⟨y, H2, I2, r2, q2⟩ => ?_
  exact hf v u s2 x y H2 I2 r1 r2 q2
theorem zo8 {op : Operator} {r : R2} (ho : OpR X (binaryOp op) r) (ha : PE X a ta) (hb : PE X b tb) : PE X (.BinOp a op b pos) (tOp r ta tb) := by
  intro pins s σ H Q I h
  exact wpAny_BinOp (wh6 ha hb I h fun v u s2 x y H2 I2 rx ry q => ho pins s2 σ H2 x y v u Q I2 rx ry q)
theorem wz3 {op : UnaryOp} {r : V -> Hp -> VK -> Prop} (ho : UnR X (unaryOp op) r) (ha : PE X a ta) : PE X (.UnaryOp op a pos) (tUn r ta) := by
  intro pins s σ H Q I h
  exact UnaryOp_ (thn (ha pins s σ H _ I h) fun v s1 ⟨x, H1, I1, r1, q1⟩ => ho pins s1 σ H1 x v Q I1 r1 q1)
theorem opI {f : Value -> Value -> Sem Value} {C : Int -> Int -> Prop} {g : Int -> Int -> Int}
    (rule : ∀ (i j : Int) (t u : Tok) (s : Shared) (Q : Value -> Shared -> Prop) (E : Value -> Shared -> Prop), C i j -> Q (.int (g i j) s.toks) { s with toks := s.toks + 1 } -> wpAny (model X.prog X.w) X.A (f (.int i t) (.int j u)) Q E s) :
    OpR X f (rI C fun i j => .int (g i j)) := by
  intro pins s σ H x y v u Q I rx ry h
  obtain ⟨i, j, rfl, rfl, hc, q⟩ := h
  obtain ⟨t, rfl⟩ := rx
  obtain ⟨t', rfl⟩ := ry
  exact rule i j t t' s _ _ hc ⟨.int (g i j), H, I.tok _, ⟨_, rfl⟩, q⟩
theorem wh7 {f : Value -> Value -> Sem Value} {g : Int -> Int -> Int}
    (rule : ∀ (i j : Int) (t u : Tok) (s : Shared) (Q : Value -> Shared -> Prop) (E : Value -> Shared -> Prop), Q (.int (g i j) s.toks) { s with toks := s.toks + 1 } -> wpAny (model X.prog X.w) X.A (f (.int i t) (.int j u)) Q E s) :
    OpR X f (rI0 fun i j => .int (g i j)) := by
  intro pins s σ H x y v u Q I rx ry h
  obtain ⟨i, j, rfl, rfl, q⟩ := h
  obtain ⟨t, rfl⟩ := rx
  obtain ⟨t', rfl⟩ := ry
  exact rule i j t t' s _ _ ⟨.int (g i j), H, I.tok _, ⟨_, rfl⟩, q⟩
theorem xv7 {f : Value -> Value -> Sem Value} {g : Int -> Int -> Bool}
    (rule : ∀ (i j : Int) (t u : Tok) (s : Shared) (Q : Value -> Shared -> Prop) (E : Value -> Shared -> Prop), Q (.bool (g i j)) s -> wpAny (model X.prog X.w) X.A (f (.int i t) (.int j u)) Q E s) :
    OpR X f (rI0 fun i j => .bl (g i j)) := by
  intro pins s σ H x y v u Q I rx ry h
  obtain ⟨i, j, rfl, rfl, q⟩ := h
  obtain ⟨t, rfl⟩ := rx
  obtain ⟨t', rfl⟩ := ry
  exact rule i j t t' s _ _ ⟨.bl (g i j), H, I, rfl, q⟩
noncomputable def ke4 (i j : Int) : Prop := 0 < j /\ j < 1073741824
noncomputable def ke5 (i j : Int) : Prop := 0 <= j /\ j <= 1000000 /\ i.natAbs < 2 ^ 64
noncomputable def wm3 (i j : Int) : Prop := (-(2 ^ 64) < i /\ i < 2 ^ 64) \/ (-(2 ^ 64) < j /\ j < 2 ^ 64)
theorem wm3.ok {i j : Int} (h : wm3 i j) : IntMulOk i j := by
  rcases h with ⟨h1, h2⟩ | ⟨h1, h2⟩
  . exact .of_left (intBits_le_64 h1 h2)
  . exact .of_right (intBits_le_64 h1 h2)
theorem xv8 (k : Nat) : (0 : Int) <= 2 ^ k := by
  rw [two_pow_cast]
  exact Int.natCast_nonneg _
theorem yl1 : OpR X (binaryOp .Add) (rI0 fun i j => .int (i + j)) := wh7 fun _ _ _ _ _ _ _ q => add_int q
theorem wt6 : OpR X (binaryOp .Sub) (rI0 fun i j => .int (i - j)) := wh7 fun _ _ _ _ _ _ _ q => sub_int q
theorem yb4 : OpR X (binaryOp .Mult) (rI wm3 fun i j => .int (i * j)) := opI fun _ _ _ _ _ _ _ hc q => mul_int q hc.ok
theorem xs5 : OpR X (binaryOp .FloorDiv) (rI ke4 fun i j => .int (i / j)) := opI fun i j _ _ _ _ _ hc q => by
  have h1 : (0 : Int) < j := hc.1
  have h2 : j < 1073741824 := hc.2
  exact floordiv_int (by omega) (by rw [Int.fdiv_eq_ediv_of_nonneg i (by omega)]; exact q) (.inl (PyProof.noPylong_small (by omega)))
theorem yy2 : OpR X (binaryOp .Mod) (rI (fun _ j => 0 < j) fun i j => .int (i % j)) := opI fun i j _ _ _ _ _ hc q => by
  have h1 : (0 : Int) < j := hc
  exact mod_int' (by omega) (by rw [Int.fmod_eq_emod_of_nonneg i (by omega)]; exact q)
theorem wt7 : OpR X (binaryOp .Pow) (rI ke5 fun i j => .int (i ^ j.toNat)) := opI fun _ _ _ _ _ _ _ hc q => pow_int_small hc.1 hc.2.1 hc.2.2 q
theorem wt8 : OpR X (binaryOp .RShift) (rI (fun _ j => 0 <= j) fun i j => .int (i / 2 ^ j.toNat)) := opI fun i j _ _ _ _ _ hc q =>
  rshift_int hc (by rw [Int.fdiv_eq_ediv_of_nonneg i (xv8 _)]; exact q)
theorem wb2 : OpR X (binaryOp .BitAnd) (rI0 fun i j => .int (Builtin.bitAnd i j)) := wh7 fun _ _ _ _ _ _ _ q => and_int q
theorem unI {f : Value -> Sem Value} {g : Int -> Int}
    (rule : ∀ (i : Int) (t : Tok) (s : Shared) (Q : Value -> Shared -> Prop) (E : Value -> Shared -> Prop), Q (.int (g i) s.toks) { s with toks := s.toks + 1 } -> wpAny (model X.prog X.w) X.A (f (.int i t)) Q E s) :
    UnR X f (rU fun i => .int (g i)) := by
  intro pins s σ H x v Q I rx h
  obtain ⟨i, rfl, q⟩ := h
  obtain ⟨t, rfl⟩ := rx
  exact rule i t s _ _ ⟨.int (g i), H, I.tok _, ⟨_, rfl⟩, q⟩
theorem wt9 : UnR X (unaryOp .USub) (rU fun i => .int (-i)) := unI fun _ _ _ _ _ q => neg_int q
end
noncomputable def wy1 : V -> V -> Bool
  | .non, .non => true | .non, .int _ => true | .int _, .non => true | .non, .bl _ => true | .bl _, .non => true | .non, .str _ => true | .str _, .non => true
  | .int _, .int _ => true | .bl _, .bl _ => true | .str _, .str _ => true | .byt _, .byt _ => true
  | .int _, .str _ => true | .str _, .int _ => true | .bl _, .str _ => true | .str _, .bl _ => true
  | _, _ => false
noncomputable def rEq : R2 := fun x y H Q => wy1 x y = true /\ Q (.bl (decide (x = y))) H
noncomputable def rNe : R2 := fun x y H Q => wy1 x y = true /\ Q (.bl (!decide (x = y))) H
theorem xs6 {i j : Int} : decide (V.int i = V.int j) = (i == j) := by
  rw [Bool.eq_iff_iff]
  simp
theorem wb3 {i j : Bool} : decide (V.bl i = V.bl j) = (i == j) := by
  rw [Bool.eq_iff_iff]
  simp
theorem xs7 {i j : Str} : decide (V.str i = V.str j) = (i == j) := by
  rw [Bool.eq_iff_iff]
  simp
theorem xs8 {i j : Array UInt8} : decide (V.byt i = V.byt j) = (i.toList == j.toList) := by
  rw [Bool.eq_iff_iff]
  cases i
  cases j
  simp
section
variable {X : Cx} {a b c : Expr} {ta tb tc : TE} {pos : Pos}
theorem zi3 {pins : List (Addr × Obj)} {σ : St} {H : Hp} {s : Shared} {Q : VK} {k k' : Bool} (I : Inv X pins σ H s) (q : Q (.bl k) H) (e : k = k') : EP X pins σ Q (.bool k') s := by
  subst e
  exact ⟨.bl k, H, I, rfl, q⟩
theorem xv9 : OpR X (compareOp .Eq) rEq := by
  intro pins s σ H x y v u Q I rx ry h
  obtain ⟨hs, q⟩ := h
  cases x with
  | non =>
    cases rx
    cases y with
    | non => cases ry; exact PySem.EqNone.eq_none_none (zi3 I q (by simp))
    | bl j => cases ry; exact PySem.EqNone.eq_none_bool (zi3 I q (by simp))
    | int j => obtain ⟨t', rfl⟩ := ry; exact PySem.EqNone.eq_none_int (zi3 I q (by simp))
    | str j => obtain ⟨t', rfl⟩ := ry; exact PySem.EqNone.eq_none_str (zi3 I q (by simp))
    | _ => exact absurd (show false = true from hs) Bool.false_ne_true
  | bl i =>
    cases rx
    cases y with
    | non => cases ry; exact PySem.EqNone.eq_bool_none (zi3 I q (by simp))
    | bl j => cases ry; exact eq_bool (zi3 I q wb3)
    | str j => obtain ⟨t', rfl⟩ := ry; exact PySem.EqMixed.eq_bool_str (zi3 I q (by simp))
    | _ => exact absurd (show false = true from hs) Bool.false_ne_true
  | int i =>
    obtain ⟨t, rfl⟩ := rx
    cases y with
    | non => cases ry; exact PySem.EqNone.eq_int_none (zi3 I q (by simp))
    | int j => obtain ⟨t', rfl⟩ := ry; exact eq_int (zi3 I q xs6)
    | str j => obtain ⟨t', rfl⟩ := ry; exact PySem.EqMixed.eq_int_str (zi3 I q (by simp))
    | _ => exact absurd (show false = true from hs) Bool.false_ne_true
  | str i =>
    obtain ⟨t, rfl⟩ := rx
    cases y with
    | non => cases ry; exact PySem.EqNone.eq_str_none (zi3 I q (by simp))
    | bl j => cases ry; exact PySem.EqMixed.eq_str_bool (zi3 I q (by simp))
    | int j => obtain ⟨t', rfl⟩ := ry; exact PySem.EqMixed.eq_str_int (zi3 I q (by simp))
    | str j => obtain ⟨t', rfl⟩ := ry; exact eq_str (zi3 I q xs7)
    | _ => exact absurd (show false = true from hs) Bool.false_ne_true
  | byt i =>
    obtain ⟨t, rfl⟩ := rx
    cases y with
    | byt j => obtain ⟨t', rfl⟩ := ry; exact PySem.W.eq_bytes (zi3 I q xs8)
    | _ => exact absurd (show false = true from hs) Bool.false_ne_true
  | _ => cases y <;> exact absurd (show false = true from hs) Bool.false_ne_true
theorem wm8 : OpR X (compareOp .NotEq) rNe := by
  intro pins s σ H x y v u Q I rx ry h
  obtain ⟨hs, q⟩ := h
  cases x with
  | non =>
    cases rx
    cases y with
    | non => cases ry; exact PySem.EqNone.ne_none_none (zi3 I q (by simp))
    | bl j => cases ry; exact PySem.EqNone.ne_none_bool (zi3 I q (by simp))
    | int j => obtain ⟨t', rfl⟩ := ry; exact PySem.EqNone.ne_none_int (zi3 I q (by simp))
    | str j => obtain ⟨t', rfl⟩ := ry; exact PySem.EqNone.ne_none_str (zi3 I q (by simp))
    | _ => exact absurd (show false = true from hs) Bool.false_ne_true
  | bl i =>
    cases rx
    cases y with
    | non => cases ry; exact PySem.EqNone.ne_bool_none (zi3 I q (by simp))
    | bl j => cases ry; exact ne_bool (zi3 I q (congrArg not wb3))
    | str j => obtain ⟨t', rfl⟩ := ry; exact PySem.EqMixed.ne_bool_str (zi3 I q (by simp))
    | _ => exact absurd (show false = true from hs) Bool.false_ne_true
  | int i =>
    obtain ⟨t, rfl⟩ := rx
    cases y with
    | non => cases ry; exact PySem.EqNone.ne_int_none (zi3 I q (by simp))
    | int j => obtain ⟨t', rfl⟩ := ry; exact ne_int (zi3 I q (congrArg not xs6))
    | str j => obtain ⟨t', rfl⟩ := ry; exact PySem.EqMixed.ne_int_str (zi3 I q (by simp))
    | _ => exact absurd (show false = true from hs) Bool.false_ne_true
  | str i =>
    obtain ⟨t, rfl⟩ := rx
    cases y with
    | non => cases ry; exact PySem.EqNone.ne_str_none (zi3 I q (by simp))
    | bl j => cases ry; exact PySem.EqMixed.ne_str_bool (zi3 I q (by simp))
    | int j => obtain ⟨t', rfl⟩ := ry; exact PySem.EqMixed.ne_str_int (zi3 I q (by simp))
    | str j => obtain ⟨t', rfl⟩ := ry; exact ne_str (zi3 I q (congrArg not xs7))
    | _ => exact absurd (show false = true from hs) Bool.false_ne_true
  | byt i =>
    obtain ⟨t, rfl⟩ := rx
    cases y with
    | byt j => obtain ⟨t', rfl⟩ := ry; exact PySem.W.ne_bytes (zi3 I q (congrArg not xs8))
    | _ => exact absurd (show false = true from hs) Bool.false_ne_true
  | _ => cases y <;> exact absurd (show false = true from hs) Bool.false_ne_true
theorem wz4 : OpR X (compareOp .Lt) (rI0 fun i j => .bl (decide (i < j))) := xv7 fun _ _ _ _ _ _ _ q => lt_int q
theorem wz5 : OpR X (compareOp .LtE) (rI0 fun i j => .bl (decide (i <= j))) := xv7 fun _ _ _ _ _ _ _ q => le_int q
theorem wz6 : OpR X (compareOp .Gt) (rI0 fun i j => .bl (decide (j < i))) := xv7 fun _ _ _ _ _ _ _ q => gt_int q
theorem wz7 : OpR X (compareOp .GtE) (rI0 fun i j => .bl (decide (j <= i))) := xv7 fun _ _ _ _ _ _ _ q => ge_int q
theorem wu0 : OpR X (compareOp .Is) (fun x y H Q => y = .non /\ Q (.bl (decide (x = .non))) H) := by
  intro pins s σ H x y v u Q I rx ry h
  obtain ⟨rfl, q⟩ := h
  cases ry
  refine is_none_gen (zi3 I q ?_)
  cases x <;> first
    | (cases rx; rfl)
    | (obtain ⟨t, rfl⟩ := rx; rfl)
theorem ze3 (b : Expr) {op : CmpOp} (h : op ≠ .In := by decide) (h2 : op ≠ .NotIn := by decide) : behindInMarks op b = false := by
  have e1 : (op == CmpOp.In) = false := by cases op <;> first | rfl | exact absurd rfl h
  have e2 : (op == CmpOp.NotIn) = false := by cases op <;> first | rfl | exact absurd rfl h2
  cases b <;> simp [behindInMarks, e1, e2]
theorem xs9 {op : CmpOp} {r : R2} (ho : OpR X (compareOp op) r) (ha : PE X a ta) (hb : PE X b tb) (hm : behindInMarks op b = false) : PE X (.Compare a [op] [b] pos) (tOp r ta tb) := by
  intro pins s σ H Q I h
  exact wpAny_Compare1 (wh6 ha hb I h fun v u s2 x y H2 I2 rx ry q => ho pins s2 σ H2 x y v u Q I2 rx ry q) hm
noncomputable def kb1 (t : TE) : TT := fun σ H Q => t σ H fun x H' => ∃ k, x = .bl k /\ Q k H'
theorem xt0 {op : CmpOp} {r : R2} (ho : OpR X (compareOp op) r) (ha : PE X a ta) (hb : PE X b tb) (hm : behindInMarks op b = false) : PT X (.Compare a [op] [b] pos) (kb1 (tOp r ta tb)) := by
  intro pins s σ H Q I h
  refine wpAny_isTrue_Compare1 (thn (ha pins s σ H _ I h) fun v s1 ⟨x, H1, I1, r1, q1⟩ => thn (hb pins s1 σ H1 _ I1 q1) fun u s2 ⟨y, H2, I2, r2, q2⟩ =>
    thn (ho pins s2 σ H2 x y v u _ I2 r1 r2 q2) fun c s3 ⟨z, H3, I3, r3, k, e, q3⟩ => ?_) hm
  subst e
  cases r3
  exact wpAny_truthy_bool ⟨H3, I3, q3⟩
noncomputable def wm4 (K : PySem.W.Frag) (x : V) (H : Hp) (k : Bool) : Prop :=
  match x with
  | .non => k = false
  | .bl b => k = b
  | .int i => k = (i != 0)
  | .str y => y.length <= sizeLine /\ k = ((y.length : Int) != 0)
  | .byt y => y.size <= sizeLine /\ k = ((y.size : Int) != 0)
  | .ref p => (∃ xs, SqL K H p xs /\ k = !xs.isEmpty) \/ (∃ xs, SqT K H p xs /\ k = !xs.isEmpty) \/ ∃ kvs, H p = some (.dK kvs) /\ k = !kvs.isEmpty
  | _ => False
theorem xw0 {κ : Type} {kvs : List (κ × V)} {vs : List (κ × Value)} (r : KV kvs vs) : (!vs.isEmpty) = !kvs.isEmpty := by
  cases r <;> rfl
theorem yy3 {xs : List V} {its : List Value} (r : ze5 xs its) : (!its.toArray.isEmpty) = !xs.isEmpty := by
  cases r <;> simp
theorem yh3 : (sizeLine : Nat) < 2 ^ 63 := by rw [sizeLine_eq]; decide
theorem wu1 : ke3 X (fun x H Q => ∃ k, wm4 X.K x H k /\ Q k H) := by
  intro pins s σ H x v Q I rx h
  obtain ⟨k, e, q⟩ := h
  have hl := yh3
  have hs : sizeLine = 16777216 := sizeLine_eq
  cases x with
  | non =>
    cases rx
    have e' : k = false := e
    subst e'
    exact truthy_none ⟨H, I, q⟩
  | bl b =>
    cases rx
    have e' : k = b := e
    subst e'
    exact wpAny_truthy_bool ⟨H, I, q⟩
  | int i =>
    obtain ⟨t, rfl⟩ := rx
    have e' : k = (i != 0) := e
    subst e'
    exact PySem.P.truthy_int ⟨H, I, q⟩
  | str y =>
    obtain ⟨t, rfl⟩ := rx
    obtain ⟨hy, e'⟩ : y.length <= sizeLine /\ k = ((y.length : Int) != 0) := e
    subst e'
    exact PySem.P.truthy_str (by omega) ⟨H, I.tok _, q⟩
  | byt y =>
    obtain ⟨t, rfl⟩ := rx
    obtain ⟨hy, e'⟩ : y.size <= sizeLine /\ k = ((y.size : Int) != 0) := e
    subst e'
    exact PySem.W.truthy_bytes (by omega) ⟨H, I.tok _, q⟩
  | ref p =>
    cases rx
    have e' : (∃ xs, SqL X.K H p xs /\ k = !xs.isEmpty) \/ (∃ xs, SqT X.K H p xs /\ k = !xs.isEmpty) \/ ∃ kvs, H p = some (.dK kvs) /\ k = !kvs.isEmpty := e
    rcases e' with ⟨xs, hx, e'⟩ | ⟨xs, hx, e'⟩ | ⟨kvs, hx, e'⟩
    . subst e'
      obtain ⟨its, r, pl, hz⟩ := I.list hx
      have hlen := r.length
      exact wpAny_truthy_list pl.isList (by simp only [List.size_toArray]; omega) ⟨H, I.tok _, by rw [yy3 r]; exact q⟩
    . subst e'
      obtain ⟨its, r, pl, hz⟩ := I.tuple hx
      have hlen := r.length
      exact truthy_tuple pl (by simp only [List.size_toArray]; omega) ⟨H, I.tok _, by rw [yy3 r]; exact q⟩
    . subst e'
      obtain ⟨hz, hS, vs, r, m⟩ : kvs.length <= sizeLine /\ (p == sysModules) = false /\ ∃ vs, KV kvs vs /\ s.heap.DictOf (xg4 X.prog X.w) p vs := I.hok p _ hx
      have hlen : kvs.length = vs.length := Paired.length r
      exact wpAny_truthy_dict hS m (by omega) ⟨H, I.tok _, by rw [xw0 r]; exact q⟩
  | _ => exact (show False from e).elim
theorem xl8 (ha : PE X a ta) (he : ∀ whole, isTrue a X.env whole = (do let v <- whole; standAt a.pos; holding [v] (truthy v))) :
    PT X a (fun σ H Q => ta σ H fun x H' => ∃ k, wm4 X.K x H' k /\ Q k H') := by
  intro pins s σ H Q I h
  exact isTrue_plain (thn (ha pins s σ H _ I h) fun v s1 ⟨x, H1, I1, r1, q1⟩ => wu1 pins s1 σ H1 x v Q I1 r1 q1) (he _)
theorem xw1 : OpR X (binaryOp .Add) (fun x y H Q => ∃ i j, x = .str i /\ y = .str j /\ i.length + j.length <= sizeLine /\ Q (.str (i ++ j)) H) := by
  intro pins s σ H x y v u Q I rx ry h
  obtain ⟨i, j, rfl, rfl, hz, q⟩ := h
  obtain ⟨t, rfl⟩ := rx
  obtain ⟨t', rfl⟩ := ry
  exact add_str (fun t' tk => ⟨.str (i ++ j), H, I.tok _, ⟨_, rfl⟩, q⟩) hz
theorem yi8 {x : V} {us : List Value} (r : ze5 [x] us) : ∃ u, us = [u] /\ zh6 x u := by
  cases r with
  | cons r1 r2 => cases r2; exact ⟨_, rfl, r1⟩
theorem wm9 {x y : V} {us : List Value} (r : ze5 [x, y] us) : ∃ u w', us = [u, w'] /\ zh6 x u /\ zh6 y w' := by
  cases r with
  | cons r1 r2 =>
    cases r2 with
    | cons r3 r4 => cases r4; exact ⟨_, _, rfl, r1, r3⟩
theorem wb4 (hc : X.calm = true) : zn9 X (.builtin "max") (fun xs H Q => ∃ i j, xs = [.int i, .int j] /\ Q (.int (if j > i then j else i)) H) := by
  intro pins s σ H xs us Q I r h
  obtain ⟨i, j, rfl, q⟩ := h
  obtain ⟨u, w', rfl, ⟨t, rfl⟩, ⟨t', rfl⟩⟩ := wm9 r
  refine max_two_ints (I.ok.hd hc) fun h' tk k => ⟨_, H, I.kept k, ?_, q⟩
  by_cases hj : j > i
  . rw [if_pos hj, if_pos hj]; exact ⟨_, rfl⟩
  . rw [if_neg hj, if_neg hj]; exact ⟨_, rfl⟩
theorem wb5 (hc : X.calm = true) : zn9 X (.builtin "min") (fun xs H Q => ∃ i j, xs = [.int i, .int j] /\ Q (.int (if j < i then j else i)) H) := by
  intro pins s σ H xs us Q I r h
  obtain ⟨i, j, rfl, q⟩ := h
  obtain ⟨u, w', rfl, ⟨t, rfl⟩, ⟨t', rfl⟩⟩ := wm9 r
  refine min_two_ints (I.ok.hd hc) fun h' tk k => ⟨_, H, I.kept k, ?_, q⟩
  by_cases hj : j < i
  . rw [if_pos hj, if_pos hj]; exact ⟨_, rfl⟩
  . rw [if_neg hj, if_neg hj]; exact ⟨_, rfl⟩
theorem xg9 : zn9 X (.type "int") (fun xs H Q => (∃ i, xs = [.int i] /\ Q (.int i) H) \/ ∃ k, xs = [.bl k] /\ Q (.int (if k then 1 else 0)) H) := by
  intro pins s σ H xs us Q I r h
  rcases h with ⟨i, rfl, q⟩ | ⟨k, rfl, q⟩
  . obtain ⟨u, rfl, t, rfl⟩ := yi8 r
    exact call_int_int ⟨.int i, H, I, ⟨_, rfl⟩, q⟩
  . obtain ⟨u, rfl, r1⟩ := yi8 r
    cases r1
    exact call_int_bool ⟨.int (if k then 1 else 0), H, I.tok _, ⟨_, rfl⟩, q⟩
end
end L2
namespace L2
open PySem PySem.Spec PyProof.Rows
structure ObjM (h : Heap) (x dx C : Addr) (mA : Str -> Option Value) : Prop where
  obj : h.get? x = some (PySem.W.instObj C dx)
  ns : h.Ns1 dx mA
  ne : dx ≠ x
theorem wb6 {h : Heap} {dx : Addr} {mA : Str -> Option Value} (n : h.Ns1 dx mA) : ∃ od, h.get? dx = some od /\ ∀ name, PySem.W.lookIn name od = some (mA name) := by
  obtain ⟨o, es, ep, ho, hd, hk, _, hm⟩ := n
  refine ⟨o, ho, fun name => ?_⟩
  have e := hm name
  unfold nsFind findBy at e
  rw [<- Array.find?_toList] at e
  unfold PySem.W.lookIn
  rw [hd]
  dsimp only
  split
  . rename_i y q
    rw [q] at e
    exact congrArg some e
  . rename_i q
    rw [q] at e
    have a : es.toList.any (·.refKey) = false := by
      rw [List.any_eq_false]
      intro y hy
      obtain ⟨z, t, hkey⟩ := hk y (Array.mem_toList_iff.mp hy)
      simp [DictEntry.refKey, hkey]
    have a' : ¬ es.toList.any (·.refKey) = true := by rw [a]; exact Bool.false_ne_true
    rw [if_neg a']
    exact congrArg some e
theorem ObjM.look {h : Heap} {x dx C : Addr} {mA : Str -> Option Value} (I : ObjM h x dx C mA) : ∃ od, PySem.W.InstAt h x (PySem.W.instObj C dx) C (some od) /\ ∀ name, PySem.W.lookIn name od = some (mA name) :=
  let ⟨od, ho, hl⟩ := wb6 I.ns
  ⟨od, ⟨I.obj, rfl, rfl, ho⟩, hl⟩
section
variable {prog : Program} {w : World} {A : Around} {E : Value -> Shared -> Prop} {s : Shared} {K : PySem.W.Frag} {x dx C f : Addr} {mA : Str -> Option Value} {name : Str} {v : Value}
theorem xt1 {expr : Bool} {Q : Value -> Shared -> Prop} (X : K.In s.heap) (I : ObjM s.heap x dx C mA) (hg : PySem.W.plainGet K C name = true) (hh : PySem.W.hasDictIn K C = true)
    (ha : PySem.W.findIn K (.ref C) name = some none) (hv : mA name = some v) (hv' : PySem.W.handedIn v = true) (h : Q v { s with toks := s.toks + 1 }) :
    wpAny (model prog w) A (getAttr (.ref x) name expr) Q E s := by
  obtain ⟨od, J, hl⟩ := I.look
  exact PySem.W.get_value X J (PySem.W.plainGet_of hg).1 (PySem.W.findObj_own hh ha rfl (by rw [hl, hv])) hv' h
theorem wh8 {pl : Sem Bool} {Q : Value × List Value -> Shared -> Prop} (X : K.In s.heap) (I : ObjM s.heap x dx C mA) (hg : PySem.W.plainGet K C name = true)
    (hf : PySem.W.findIn K (.ref C) name = some (some (.ref f))) (ht : PySem.W.isFn K (.ref f) = true) (hv : mA name = none) (h : Q (.ref f, [.ref x]) s) :
    wpAny (model prog w) A (getMethod (.ref x) name pl) Q E s := by
  obtain ⟨od, J, hl⟩ := I.look
  exact PySem.W.method_fn X J (PySem.W.plainGet_of hg).1 (PySem.W.plainGet_of hg).2 hf (beq_iff_eq.mp ht) (by show (PySem.W.lookIn name od).map (·.isSome) = some false; rw [hl, hv]; rfl) h
theorem wo7 {ns : List Str} {Q : Unit -> Shared -> Prop} (X : K.In s.heap) (I : ObjM s.heap x dx C mA)
    (hs : PySem.W.findIn K (.ref C) "__setattr__" = some (some (.builtin "object.__setattr__"))) (hp : PySem.W.plainOver K C = true) (ht : PySem.W.takerIn K C name = some none) (hh : PySem.W.hasDictIn K C = true)
    (hw : PySem.Within mA ns) (hsz : ns.length <= sizeLine)
    (h : ∀ h', ObjM h' x dx C (fun y => if y = name then some v else mA y) -> Heap.SameBut dx s.heap h' -> Q () { s with heap := h', toks := s.toks + 2 }) :
    wpAny (model prog w) A (setAttr (.ref x) name v) Q E s := by
  obtain ⟨od, J, hl⟩ := I.look
  refine PySem.W.set_plain X J hs (PySem.W.osa_open (s := { s with toks := s.toks + 1 }) (r := none) X J hp ht fun b => ?_)
  obtain ⟨cd, hc, hd'⟩ := PySem.W.any_some hh
  have hx : s.heap.get? x = some ⟨.ref C, some dx, .plain, #[]⟩ := I.obj
  refine wpAny_bind (wpAny_pure (wpAny_bind (wpAny_bind (wpAny_loadPart hx (wpAny_bind (PySem.W.Looks.here (s := { s with toks := s.toks + 1 }) (PySem.W.looks_clsIn X hc) ?_))))))
  rw [hd']
  refine wpAny_pure (a := some dx) (wpAny_bind (wpAny_pure (wpAny_bind ?_)))
  refine wpAny_nsSet1 (s := { s with toks := s.toks + 1 }) I.ns fun h' hn2 hs2 => ?_
  obtain ⟨oD, esD, epD, hoD, hdD, hcD⟩ := hn2.count (PySem.Within.cons name v hw)
  refine wpAny_bind (wpAny_lookBehind hoD (by rw [hdD]; exact pastItsLine_dict (Nat.le_trans hcD (by rw [List.length_cons]; omega))) ?_)
  exact wpAny_pure (h _ ⟨(hs2.2 _ (Ne.symm I.ne)).trans I.obj, hn2, I.ne⟩ hs2)
theorem wh9 {R : Result -> Shared -> Prop} {vs : List Value} {kw : List (Str × Value)} (X : K.In s.heap) (hm : PySem.W.makesIn K C = true)
    (hi : PySem.W.findIn K (.ref C) "__init__" = some (some (.ref f))) (hf : PySem.W.typeIn K (.ref f) = some (.type "function"))
    (h : codeAny (model prog w) (A.under (.builtin "type.__call__" ⟨.ref C :: vs, kw⟩)) (.call (.ref f) ⟨.ref (s.heap.objs.size + 1) :: vs, kw⟩) (PySem.W.InitBack (s.heap.objs.size + 1) R)
      { s with heap := (s.heap.push PySem.W.emptyDict).push (PySem.W.instObj C s.heap.objs.size) }) :
    codeAny (model prog w) A (.call (.ref C) ⟨vs, kw⟩) R s := by
  obtain ⟨hh, g, d, t, os⟩ := s
  exact PySem.W.make_core (PySem.W.makes_of X hm) (PySem.W.looks_findIn X hi) (fun self => PySem.W.bind_fn X self hf) (.inl rfl) h
end
noncomputable def zp5 (f : Str) (v : V) : List (Str × V) -> List (Str × V)
  | [] => [(f, v)]
  | (g, x) :: r => if g = f then (g, v) :: r else (g, x) :: zp5 f v r
theorem yv0 (f g : Str) (v : V) : ∀ fs : List (Str × V), (zp5 f v fs).lookup g = if g = f then some v else fs.lookup g
  | [] => by
    show List.lookup g [(f, v)] = _
    by_cases h : g = f
    . have hb : (g == f) = true := beq_iff_eq.mpr h
      simp only [List.lookup, hb, if_pos h]
    . have hb : (g == f) = false := beq_eq_false_iff_ne.mpr h
      simp only [List.lookup, hb, if_neg h]
  | (k, x) :: r => by
    have ih := yv0 f g v r
    rw [show zp5 f v ((k, x) :: r) = (if k = f then (k, v) :: r else (k, x) :: zp5 f v r) from rfl]
    by_cases hk : k = f
    . rw [if_pos hk]
      by_cases h : g = k
      . have hb : (g == k) = true := beq_iff_eq.mpr h
        simp only [List.lookup, hb, if_pos (h.trans hk)]
      . have hb : (g == k) = false := beq_eq_false_iff_ne.mpr h
        simp only [List.lookup, hb, if_neg (fun e : g = f => h (e.trans hk.symm))]
    . rw [if_neg hk]
      by_cases h : g = k
      . have hb : (g == k) = true := beq_iff_eq.mpr h
        simp only [List.lookup, hb, if_neg (fun e : g = f => hk (h.symm.trans e))]
      . have hb : (g == k) = false := beq_eq_false_iff_ne.mpr h
        simp only [List.lookup, hb]
        exact ih
theorem yp6 (f : Str) (v : V) : ∀ fs : List (Str × V), f ∈ (zp5 f v fs).map (·.1) /\ ∀ g, g ∈ fs.map (·.1) -> g ∈ (zp5 f v fs).map (·.1)
  | [] => ⟨by simp [zp5], fun g h => by simp at h⟩
  | (k, x) :: r => by
    obtain ⟨i1, i2⟩ := yp6 f v r
    rw [show zp5 f v ((k, x) :: r) = (if k = f then (k, v) :: r else (k, x) :: zp5 f v r) from rfl]
    by_cases hk : k = f
    . rw [if_pos hk]
      subst hk
      exact ⟨by simp, fun g h => by simpa using h⟩
    . rw [if_neg hk]
      refine ⟨?_, fun g h => ?_⟩
      . rw [List.map_cons]
        exact List.mem_cons_of_mem _ i1
      . rw [List.map_cons] at h |-
        rcases List.mem_cons.mp h with e | e
        . exact List.mem_cons.mpr (.inl e)
        . exact List.mem_cons_of_mem _ (i2 g e)
theorem yv1 (f : Str) (v : V) : ∀ fs : List (Str × V), (zp5 f v fs).length <= fs.length + 1
  | [] => by simp [zp5]
  | (k, x) :: r => by
    have ih := yv1 f v r
    rw [show zp5 f v ((k, x) :: r) = (if k = f then (k, v) :: r else (k, x) :: zp5 f v r) from rfl]
    by_cases hk : k = f
    . rw [if_pos hk, List.length_cons, List.length_cons]; omega
    . rw [if_neg hk, List.length_cons, List.length_cons]; omega
theorem yf8.some_of {v : V} {o : Option Value} (r : yf8 (some v) o) : ∃ u, o = some u /\ zh6 v u := by
  cases o with
  | none => exact (show False from r).elim
  | some u => exact ⟨u, rfl, r⟩
theorem yf8.none_of {o : Option Value} (r : yf8 none o) : o = none := by
  cases o with
  | none => rfl
  | some u => exact (show False from r).elim
theorem xh0 {v : V} {u : Value} (r : zh6 v u) : PySem.W.handedIn u = true := by
  cases v with
  | non => cases (show u = Value.none from r); rfl
  | bl b => cases (show u = Value.bool b from r); rfl
  | int i => obtain ⟨t, e⟩ := (show ∃ t, u = Value.int i t from r); cases e; rfl
  | str x => obtain ⟨t, e⟩ := (show ∃ t, u = Value.str x t from r); cases e; rfl
  | byt b => obtain ⟨t, e⟩ := (show ∃ t, u = Value.bytes b t from r); cases e; rfl
  | flt b => obtain ⟨t, e⟩ := (show ∃ t, u = Value.float b t from r); cases e; rfl
  | ref a => cases (show u = Value.ref a from r); rfl
  | ty n => cases (show u = Value.type n from r); rfl
section
variable {P : Program} {w : World} {H H' : Hp} {h h' : Heap} {a C dx : Addr} {fs fs' : List (Str × V)}
theorem xd6 (hok : HOk P w H h) (e : H a = some (.ins C dx fs)) : ∃ mA, ObjM h a dx C mA /\ (∀ f, yf8 (fs.lookup f) (mA f)) /\ PySem.Within mA (fs.map (·.1)) /\ fs.length <= 1000 /\ H dx = some (.own a) := by
  obtain ⟨d, z, ne, ob, mA, n, r, q⟩ := (show zs5 P w H h a (.ins C dx fs) from hok a _ e)
  exact ⟨mA, ⟨ob, n, ne⟩, r, q, z, d⟩
end
structure Cls (K : PySem.W.Frag) (C : Addr) : Prop where
  pg : PySem.W.plainGet K C Str.empty = true
  hd : PySem.W.hasDictIn K C = true
  po : PySem.W.plainOver K C = true
  sa : PySem.W.findIn K (.ref C) "__setattr__" = some (some (.builtin "object.__setattr__"))
theorem Cls.get {K : PySem.W.Frag} {C : Addr} (c : Cls K C) (f : Str) : PySem.W.plainGet K C f = true := c.pg
noncomputable def zh0 (K : PySem.W.Frag) (C : Addr) (f : Str) : Prop := PySem.W.findIn K (.ref C) f = some none
theorem zh0.taker {K : PySem.W.Frag} {C : Addr} {f : Str} (n : zh0 K C f) : PySem.W.takerIn K C f = some none := by
  unfold PySem.W.takerIn
  rw [show PySem.W.findIn K (.ref C) f = some none from n]
  rfl
structure Con (K : PySem.W.Frag) (C : Addr) (f : Str) (v : V) (u : Value) : Prop where
  at_ : PySem.W.findIn K (.ref C) f = some (some u)
  rel : zh6 v u
  get : PySem.W.specialIn K u "__get__" = some none
  cp : PySem.W.copiedNames.contains f = false
structure Meth (K : PySem.W.Frag) (C : Addr) (m : Str) (f : Addr) : Prop where
  at_ : PySem.W.findIn K (.ref C) m = some (some (.ref f))
  fn : PySem.W.isFn K (.ref f) = true
  kp : PySem.W.keepIn K (.ref f) = true
section
variable {X : Cx} {pins : List (Addr × Obj)} {σ : St} {H : Hp} {s : Shared} {a C dx : Addr} {fs : List (Str × V)} {f : Str} {v : V} {A : Around} {E : Value -> Shared -> Prop}
theorem xw2 {b : Bool} {Q : Value -> Shared -> Prop} (I : Inv X pins σ H s) (e : H a = some (.ins C dx fs)) (c : Cls X.K C) (n : zh0 X.K C f) (l : fs.lookup f = some v)
    (h : ∀ u s', Inv X pins σ H s' -> zh6 v u -> Q u s') : wpAny (model X.prog X.w) A (getAttr (.ref a) f b) Q E s := by
  obtain ⟨mA, O, r, _, _, _⟩ := xd6 I.hok e
  obtain ⟨u, hu, ru⟩ := yf8.some_of (v := v) (o := mA f) (by rw [<- l]; exact r f)
  exact xt1 I.kIn O (c.get f) c.hd n hu (xh0 ru) (h u _ (I.tok _) ru)
theorem yy4 {m : Str} {g : Addr} {pl : Sem Bool} {Q : Value × List Value -> Shared -> Prop} (I : Inv X pins σ H s) (e : H a = some (.ins C dx fs)) (c : Cls X.K C) (k : Meth X.K C m g) (l : fs.lookup m = none)
    (h : Q (.ref g, [.ref a]) s) : wpAny (model X.prog X.w) A (getMethod (.ref a) m pl) Q E s := by
  obtain ⟨mA, O, r, _, _, _⟩ := xd6 I.hok e
  have hn : mA m = none := yf8.none_of (by rw [<- l]; exact r m)
  exact wh8 I.kIn O (c.get m) k.at_ k.fn hn h
theorem xw3 {y : V} {u : Value} {Q : Unit -> Shared -> Prop} (I : Inv X pins σ H s) (e : H a = some (.ins C dx fs)) (c : Cls X.K C) (n : zh0 X.K C f) (hl : fs.length < 1000) (ry : zh6 y u)
    (h : ∀ s', Inv X pins σ (upd H a (.ins C dx (zp5 f y fs))) s' -> Q () s') : wpAny (model X.prog X.w) A (setAttr (.ref a) f u) Q E s := by
  obtain ⟨mA, O, r, wi, _, ho⟩ := xd6 I.hok e
  have hz : (fs.map (·.1)).length <= sizeLine := by rw [List.length_map, sizeLine_eq]; omega
  refine wo7 I.kIn O c.sa c.po n.taker c.hd wi hz fun h' O' sb => h _ ?_
  have hd : ∃ o, h'.get? dx = some o := let ⟨o, _, _, e', _⟩ := O'.ns; ⟨o, e'⟩
  refine I.write (x := a) (e := dx) (by rw [e]; exact True.intro) (.inr ho) (fun b q hb z => (sb.2 b hb).trans z) hd ?_
  refine ⟨by rw [zg5 O.ne]; exact ho, ?_, O.ne, O'.obj, _, O'.ns, fun g => ?_, fun g hg => ?_⟩
  . have := yv1 f y fs; omega
  . show yf8 ((zp5 f y fs).lookup g) (if g = f then some u else mA g)
    rw [yv0]
    by_cases q : g = f
    . rw [if_pos q, if_pos q]; exact ry
    . rw [if_neg q, if_neg q]; exact r g
  . by_cases q : g = f
    . rw [q]; exact (yp6 f y fs).1
    . refine (yp6 f y fs).2 g (wi g fun z => hg ?_)
      show (if g = f then some u else mA g) = none
      rw [if_neg q]; exact z
theorem Inv.made (I : Inv X pins σ H s) : Inv X pins σ (upd (upd H s.heap.objs.size (.own (s.heap.objs.size + 1))) (s.heap.objs.size + 1) (.ins C s.heap.objs.size []))
    { s with heap := (s.heap.push PySem.W.emptyDict).push (PySem.W.instObj C s.heap.objs.size) } := by
  have e1 : (s.heap.push PySem.W.emptyDict).get? s.heap.objs.size = some PySem.W.emptyDict := Heap.get?_push_size s.heap rfl
  have e2 : ((s.heap.push PySem.W.emptyDict).push (PySem.W.instObj C s.heap.objs.size)).get? (s.heap.objs.size + 1) = some (PySem.W.instObj C s.heap.objs.size) := by
    have := Heap.get?_push_size (s.heap.push PySem.W.emptyDict) (o := PySem.W.instObj C s.heap.objs.size) rfl
    rwa [Heap.size_push] at this
  have e3 : (s.heap.push PySem.W.emptyDict).Ns s.heap.objs.size (fun _ => none) := ⟨PySem.W.emptyDict, #[], _, e1, rfl, (fun e he => absurd he (by simp)), fun _ => rfl⟩
  have I1 := I.laid (a := s.heap.objs.size) (o := .own (s.heap.objs.size + 1)) (h' := s.heap.push PySem.W.emptyDict) (t' := s.toks) (fun b u q => Heap.get?_push_of_some _ q) (Nat.le_refl _) ⟨_, e1⟩
  refine I1.laid (a := s.heap.objs.size + 1) (o := .ins C s.heap.objs.size []) (t' := s.toks) (fun b u q => Heap.get?_push_of_some _ q) (Nat.le_of_eq (Heap.size_push _ _)) ?_
  have ne : s.heap.objs.size ≠ s.heap.objs.size + 1 := Nat.ne_of_lt (Nat.lt_succ_self _)
  refine ⟨by rw [zg5 ne, zj5], Nat.zero_le _, ne, e2, fun _ => none, (Heap.Ns1.of_empty e3).at fun o q => Heap.get?_push_of_some _ q, fun _ => True.intro, fun y hy => absurd rfl hy⟩
theorem xt2 {prog : Program} {w : World} {env : Env} {e : Expr} {f : Str} {pos : Pos} {s : Shared} {Q : Value -> Shared -> Prop} (hb : attributeBase e f env (eval e env) = eval e env)
    (h : wpAny (model prog w) A (eval e env) (fun o s₁ => wpAny (model prog w) A (getAttr o f true) Q E s₁) E s) : wpAny (model prog w) A (eval (.Attribute e f pos) env) Q E s :=
  Attribute_any_ h (by rw [arm_eval_Attribute, hb])
end
noncomputable def ke6 (K : PySem.W.Frag) (ta : TE) (f : Str) : TE := fun σ H Q => ta σ H fun x H1 => ∃ a C dx fs v, x = .ref a /\ H1 a = some (.ins C dx fs) /\ Cls K C /\ zh0 K C f /\ fs.lookup f = some v /\ Q v H1
noncomputable def ke7 (K : PySem.W.Frag) (ta tv : TE) (f : Str) : TS := fun D σ H => tv σ H fun y H1 => ta σ H1 fun x H2 => ∃ a C dx fs, x = .ref a /\ H2 a = some (.ins C dx fs) /\ Cls K C /\ zh0 K C f /\ fs.length < 1000 /\
  D.nx σ (upd H2 a (.ins C dx (zp5 f y fs)))
section
variable {X : Cx} {o e value : Expr} {f : Str} {pos pos' tpos : Pos} {ta tv : TE}
theorem wu2 (he : PE X e ta) (hb : attributeBase e f X.env (eval e X.env) = eval e X.env) : PE X (.Attribute e f pos) (ke6 X.K ta f) := by
  intro pins s σ H Q I h
  refine xt2 hb (thn (he pins s σ H _ I h) fun u s1 ⟨x, H1, I1, rx, a, C, dx, fs, v, ex, ea, c, n, l, q⟩ => ?_)
  subst ex
  obtain rfl : u = Value.ref a := rx
  exact xw2 I1 ea c n l fun u' s2 I2 ru => ⟨v, H1, I2, ru, q⟩
theorem wu3 (ha : PE X o ta) (hv : PE X value tv) (hs : swapsWith value (some (.Attribute o f pos')) pos.line X.env = pure false) : PS X (.Assign [.Attribute o f pos'] value pos) (ke7 X.K ta tv f) := by
  intro pins s σ H D I h
  refine plainObj_wpAny_Assign_Attribute (thn (hv pins s σ H _ I h) fun u s1 ⟨y, H1, I1, ry, q⟩ => thn (ha pins s1 σ H1 _ I1 q) fun ov s2 ⟨x, H2, I2, rx, a, C, dx, fs, ex, ea, c, n, l, q2⟩ => ?_) hs
  subst ex
  obtain rfl : ov = Value.ref a := rx
  exact xw3 I2 ea c n l ry fun s3 I3 => ⟨σ, _, I3, q2⟩
end
section
variable {X : Cx} {pins : List (Addr × Obj)} {σ : St} {H : Hp} {s : Shared} {A : Around} {E : Value -> Shared -> Prop} {Q : Value -> Shared -> Prop} {c : Value} {b : Bool}
inductive TyOf (K : PySem.W.Frag) (H : Hp) : V -> Value -> Prop where
  | non : TyOf K H .non (.type "NoneType")
  | bl (x : Bool) : TyOf K H (.bl x) (.type "bool")
  | int (i : Int) : TyOf K H (.int i) (.type "int")
  | str (x : Str) : TyOf K H (.str x) (.type "str")
  | flt (x : UInt64) : TyOf K H (.flt x) (.type "float")
  | lst {a : Addr} {xs : List V} (e : H a = some (.lst xs)) : TyOf K H (.ref a) (.type "list")
  | frz {a : Addr} {o : Obj} {xs : List V} (e : H a = some (.frz o (.lst xs))) : TyOf K H (.ref a) (.type "list")
  | tup {a : Addr} {xs : List V} (e : H a = some (.tup xs)) : TyOf K H (.ref a) (.type "tuple")
  | dK {a : Addr} {kvs : List (Key × V)} (e : H a = some (.dK kvs)) : TyOf K H (.ref a) (.type "dict")
  | dT {a : Addr} {kvs : List (List Key × V)} (e : H a = some (.dT kvs)) : TyOf K H (.ref a) (.type "dict")
  | ins {a C dx : Addr} {fs : List (Str × V)} (e : H a = some (.ins C dx fs)) (cl : Cls K C) (ha : PySem.W.findIn K (.ref C) "__class__" = some (some (.builtin "object.__class__")))
      (hn : PySem.W.specialIn K (.builtin "object.__class__") "__get__" = some (some (.builtin "getset_descriptor.__get__"))) (htk : PySem.W.takesIn K (.builtin "object.__class__") = some true)
      (hm : PySem.W.mroIn K C (.type "object") = some true) : TyOf K H (.ref a) (.ref C)
end
end L2
namespace L2
open PySem PySem.Spec PyProof.Rows
structure Room (k : Nat) (A : Around) : Prop where
  hd : A.handled = none
  dp : A.depth + 3 * k + 5 < recursionLimit
  un : A.units + 16 * k + 200 < cLine
theorem Room.mono {j k : Nat} {A : Around} (r : Room k A) (h : j <= k) : Room j A := ⟨r.hd, by have := r.dp; omega, by have := r.un; omega⟩
theorem Room.deeper {k : Nat} {A : Around} (r : Room (k + 1) A) (env : Env) : Room k (A.deeper env) :=
  ⟨r.hd, by have := r.dp; show A.depth + 1 + 3 * k + 5 < _; omega, by have := r.un; show A.units + 3 + 16 * k + 200 < _; omega⟩
theorem xw4 {A : Around} {C : Addr} {us : List Value} {kw : List (Str × Value)} : (A.under (.builtin "type.__call__" ⟨.ref C :: us, kw⟩)).depth = A.depth + 1 := by
  first | rfl | simp [Around.under, Code.weight, Code.isCreation, Code.isGuard, Code.isCaller, Code.frames, Code.isFrame, guardIds]
theorem xw5 {A : Around} {C : Addr} {us : List Value} {kw : List (Str × Value)} : (A.under (.builtin "type.__call__" ⟨.ref C :: us, kw⟩)).units = A.units + 1 := by
  first | rfl | simp [Around.under, Code.cUnits, Code.frames, Code.isFrame]
theorem Room.make {k : Nat} {A : Around} (r : Room (k + 1) A) (C : Addr) (us : List Value) (kw : List (Str × Value)) : Room k (A.under (.builtin "type.__call__" ⟨.ref C :: us, kw⟩)) :=
  ⟨r.hd, by have := r.dp; rw [xw4]; omega, by have := r.un; rw [xw5]; omega⟩
theorem Room.depth {k : Nat} {A : Around} (r : Room k A) : A.depth < recursionLimit := by have := r.dp; omega
theorem Room.units {k : Nat} {A : Around} (r : Room k A) : A.units + 64 < cLine := by have := r.un; omega
theorem Room.units0 {k : Nat} {A : Around} (r : Room k A) : A.units < cLine := by have := r.un; omega
noncomputable def xz6 : TA := fun _ H Q => Q [] H
noncomputable def kb2 (ta : TE) (tr : TA) : TA := fun σ H Q => ta σ H fun x H1 => tr σ H1 fun xs H2 => Q (x :: xs) H2
section
variable {X : Cx} {e : Expr} {es : List Expr} {te : TE} {t : TA} {pos : Pos}
theorem yb5 : PA X [] xz6 := fun _ _ _ _ H Q I h => Calls.spliced_nil ⟨[], H, I, .nil, h⟩
theorem zo1 (ha : PE X e te) (hr : PA X es t) (hs : starEach (e :: es) X.env = (false, eval e X.env) :: starEach es X.env := by rfl) : PA X (e :: es) (kb2 te t) := by
  intro pos pins s σ H Q I h
  rw [hs]
  show wpAny _ _ (spliced ((false, eval e X.env) :: backTo pos (starEach es X.env))) _ _ s
  refine Calls.spliced_cons (thn (ha pins s σ H _ I h) fun u s1 ⟨x, H1, I1, r1, q1⟩ => ?_)
  exact thn (hr pos pins s1 σ H1 _ I1 q1) fun us s2 ⟨xs, H2, I2, r2, q2⟩ => ⟨x :: xs, H2, I2, .cons r1 r2, q2⟩
noncomputable def ke8 (t : TA) : TE := fun σ H Q => t σ H fun xs H1 => xs.length <= sizeLine /\ ∀ p, H1 p = none -> Q (.ref p) (upd H1 p (.tup xs))
noncomputable def ke9 (t : TA) : TE := fun σ H Q => t σ H fun xs H1 => xs.length <= sizeLine /\ ∀ p, H1 p = none -> Q (.ref p) (upd H1 p (.lst xs))
theorem wu4 {x1} (h : PA X es t) : PE X (.Tuple es x1 pos) (ke8 t) := by
  intro pins s σ H Q I hq
  refine wpAny_Tuple_spliced (thn (h pos pins s σ H _ I hq) fun us s1 ⟨xs, H1, I1, r, z, q⟩ => ⟨by rw [<- r.length]; exact z, ?_⟩)
  have hf : H1 s1.heap.objs.size = none := I1.hok.fresh (Nat.le_refl _)
  refine ⟨.ref s1.heap.objs.size, upd H1 s1.heap.objs.size (.tup xs), I1.laid (t' := s1.toks) (fun b u e => Heap.get?_push_of_some _ e) (Nat.le_refl _) ?_, rfl, q _ hf⟩
  exact ⟨z, us, r, ⟨_, Heap.get?_push_size _ rfl, rfl, _, rfl⟩⟩
theorem wu5 (h : PA X es t) : PE X (.List es pos) (ke9 t) := by
  intro pins s σ H Q I hq
  refine wpAny_List_spliced (thn (h pos pins s σ H _ I hq) fun us s1 ⟨xs, H1, I1, r, z, q⟩ => ⟨by rw [<- r.length]; exact z, ?_⟩)
  have hf : H1 s1.heap.objs.size = none := I1.hok.fresh (Nat.le_refl _)
  refine ⟨.ref s1.heap.objs.size, upd H1 s1.heap.objs.size (.lst xs), I1.laid (t' := s1.toks) (fun b u e => Heap.get?_push_of_some _ e) (Nat.le_refl _) ?_, rfl, q _ hf⟩
  exact ⟨z, us, 0, r, Heap.get?_push_size _ rfl⟩
end
noncomputable abbrev Sp := List V -> Hp -> VK -> XK -> Prop
noncomputable abbrev CXT := List Env -> Hp -> Shared -> XK -> Value -> Shared -> Prop
structure Env0 (P : Program) (w : World) (K : PySem.W.Frag) (mg : Str -> Option Value) (base : Heap) (A : Around) (outer : List Env) (s : Shared) (H : Hp) : Prop where
  frames : A.frames = some outer
  mod : Mod K mg base
  bs : ∀ b o, base.get? b = some o -> s.heap.get? b = some o /\ H b = none
  bsz : base.objs.size <= s.heap.objs.size
  funs : s.heap.FunFrames base outer
  frf : ∀ b ∈ frs outer, H b = none
  hok : HOk P w H s.heap
  bare : AllBare s.gens
noncomputable def CE (outer : List Env) (P : Program) (w : World) (H : Hp) (s : Shared) (Q : VK) (u : Value) (s' : Shared) : Prop :=
  ∃ v H', s'.os = s.os /\ AllBare s'.gens /\ Un (frs outer) [] H H' s.heap s'.heap /\ HOk P w H' s'.heap /\ zh6 v u /\ Q v H'
noncomputable def CR (CX : CXT) (outer : List Env) (P : Program) (w : World) (H : Hp) (s : Shared) (Q : VK) (E : XK) (r : Result) (s' : Shared) : Prop :=
  match r with
  | .ok (.ret u) => CE outer P w H s Q u s'
  | .ok _ => False
  | .error e => CX outer H s E e s'
structure FnOk (P : Program) (w : World) (K : PySem.W.Frag) (mg : Str -> Option Value) (base : Heap) (CX : CXT) (k : Nat) (f : Addr) (fd : FuncData) (ps : List Str) (sp : Sp) : Prop where
  len : ∀ vs H Q E, sp vs H Q E -> vs.length = ps.length
  run : ∀ (A : Around) (outer : List Env) (s : Shared) (H : Hp) (args : Args) (us : List Value) (vs : List V) (Q : VK) (E : XK), Room k A -> Env0 P w K mg base A outer s H -> BindsTo s fd args (ps.zip us) -> ze5 vs us -> sp vs H Q E ->
    codeAny (model P w) A (.call (.ref f) args) (CR CX outer P w H s Q E) s
theorem FnOk.mono {P : Program} {w : World} {K : PySem.W.Frag} {mg : Str -> Option Value} {base : Heap} {CX : CXT} {j k : Nat} {f : Addr} {fd : FuncData} {ps : List Str} {sp : Sp} (F : FnOk P w K mg base CX j f fd ps sp) (h : j <= k) :
    FnOk P w K mg base CX k f fd ps sp := ⟨F.len, fun A outer s H args us vs Q E hr => F.run A outer s H args us vs Q E (hr.mono h)⟩
theorem FnOk.imp {P : Program} {w : World} {K : PySem.W.Frag} {mg : Str -> Option Value} {base : Heap} {CX : CXT} {k : Nat} {f : Addr} {fd : FuncData} {ps : List Str} {sp sp' : Sp} (F : FnOk P w K mg base CX k f fd ps sp)
    (h : ∀ vs H Q E, sp' vs H Q E -> sp vs H Q E) : FnOk P w K mg base CX k f fd ps sp' :=
  ⟨fun vs H Q E q => F.len vs H Q E (h _ _ _ _ q), fun A outer s H args us vs Q E hr he hb hv hs => F.run A outer s H args us vs Q E hr he hb hv (h _ _ _ _ hs)⟩
theorem Env0.make {P : Program} {w : World} {K : PySem.W.Frag} {mg : Str -> Option Value} {base : Heap} {A : Around} {outer : List Env} {s : Shared} {H : Hp} (e : Env0 P w K mg base A outer s H) (C : Addr) (us : List Value) (kw : List (Str × Value)) :
    Env0 P w K mg base (A.under (.builtin "type.__call__" ⟨.ref C :: us, kw⟩)) outer s H := ⟨by first | exact e.frames | (simpa [Around.under, Code.envs, Code.isFrame, pushEnvs] using e.frames), e.mod, e.bs, e.bsz, e.funs, e.frf, e.hok, e.bare⟩
section
variable {X : Cx} {pins : List (Addr × Obj)} {σ : St} {H : Hp} {s s' : Shared}
theorem Inv.env0 (I : Inv X pins σ H s) : Env0 X.prog X.w X.K X.mg X.base X.A X.stack s H :=
  ⟨I.ok.frames, I.ok.mod, I.bs, Nat.le_trans I.ok.bsz I.sz, I.stack, I.stkFree, I.hok, I.bare⟩
theorem Inv.after {Q : VK} {u : Value} (I : Inv X pins σ H s) (h : CE X.stack X.prog X.w H s Q u s') : EP X pins σ Q u s' := by
  obtain ⟨v, H', os, bare, un, hok, r, q⟩ := h
  obtain ⟨hh, g, d, t, os'⟩ := s'
  obtain rfl : os' = s.os := os
  exact ⟨v, H', I.call (h' := hh) (g' := g) (d' := d) (t' := t) (ch := []) un hok bare (fun b z => absurd z (by simp)), r, q⟩
end
noncomputable def xl1 (sp : Sp) (dvs : List V) (E : XK) (t : TA) : TE := fun σ H Q => t σ H fun vs H1 => sp (vs ++ dvs) H1 Q E
noncomputable def wo0 (C : Addr) (m : Str) (sp : Sp) (dvs : List V) (E : XK) (ta : TE) (t : TA) : TE := fun σ H Q => ta σ H fun x H1 => ∃ a dx fs, x = .ref a /\ H1 a = some (.ins C dx fs) /\ fs.lookup m = none /\
  t σ H1 fun vs H2 => sp (x :: (vs ++ dvs)) H2 Q E
noncomputable def kb3 (C : Addr) (sp : Sp) (dvs : List V) (E : XK) (t : TA) : TE := fun σ H Q => t σ H fun vs H1 => ∀ x dx, H1 x = none -> H1 dx = none -> dx ≠ x ->
  sp (.ref x :: (vs ++ dvs)) (upd (upd H1 dx (.own x)) x (.ins C dx [])) (fun v H2 => v = .non /\ Q (.ref x) H2) E
noncomputable def zz2 (K : PySem.W.Frag) (fd : FuncData) (ps : List Str) (ds : List Value) : Prop :=
  ∀ (s : Shared) (us : List Value), K.In s.heap -> (us ++ ds).length = ps.length -> BindsTo s fd ⟨us, []⟩ (ps.zip (us ++ ds))
theorem zz2.all {K : PySem.W.Frag} {fd : FuncData} {ps : List Str} (h : ∀ us : List Value, us.length = ps.length -> bindArgs fd ⟨us, []⟩ = pure (ps.zip us)) : zz2 K fd ps [] := fun s us _ hl => by
  rw [List.append_nil] at hl |-
  exact .of_eq (h us hl)
noncomputable def yf2 (CX : CXT) (X : Cx) (E : XK) : Prop := ∀ (pins : List (Addr × Obj)) (σ : St) (H : Hp) (s : Shared) (e : Value) (s' : Shared), Inv X pins σ H s -> CX X.stack H s E e s' -> X.xe e s'
section
variable {X : Cx} {CX : CXT} {k : Nat} {f C : Addr} {fd : FuncData} {ps : List Str} {sp : Sp} {dvs : List V} {ds : List Value} {E : XK} {x m : Str} {p pos apos : Pos} {e o : Expr} {es : List Expr} {ta : TE} {t : TA}
theorem yy5 {pins : List (Addr × Obj)} {σ : St} {H : Hp} {s : Shared} {Q : VK} {us : List Value} {vs : List V} (F : FnOk X.prog X.w X.K X.mg X.base CX k f fd ps sp) (hr : Room k X.A) (hb : zz2 X.K fd ps ds) (hd : ze5 dvs ds) (hx : yf2 CX X E)
    (I : Inv X pins σ H s) (r : ze5 vs us) (h : sp (vs ++ dvs) H Q E) : wpAny (model X.prog X.w) X.A (call (.ref f) us) (EP X pins σ Q) X.xe s := by
  have r2 : ze5 (vs ++ dvs) (us ++ ds) := r.append hd
  have hl : (us ++ ds).length = ps.length := by rw [<- r2.length]; exact F.len _ _ _ _ h
  refine wpAny_call (codeAny_mono (F.run X.A X.stack s H ⟨us, []⟩ (us ++ ds) (vs ++ dvs) Q E hr I.env0 (hb s us I.kIn hl) r2 h) fun r s' hq => ?_)
  cases r with
  | error e => exact hx pins σ H s e s' I hq
  | ok fl =>
    cases fl with
    | ret u => exact I.after hq
    | next => exact False.elim hq
    | brk => exact False.elim hq
    | cont => exact False.elim hq
theorem wo8 (F : FnOk X.prog X.w X.K X.mg X.base CX k f fd ps sp) (hr : Room k X.A) (hg : Gl X x) (hm : X.mg x = some (.ref f)) (hk : PySem.W.keepIn X.K (.ref f) = true) (hb : zz2 X.K fd ps ds) (hd : ze5 dvs ds) (hx : yf2 CX X E)
    (ha : PA X (e :: es) t) (hdb : (x == ("__debug__" : Str)) = false := by decide) (he : starEach (e :: es) X.env = (false, eval e X.env) :: starEach es X.env := by rfl) (hpl : (backTo pos (starEach es X.env)).any (·.1) = false := by rfl) :
    PE X (.Call (.Name x p) (e :: es) [] pos) (xl1 sp dvs E t) := by
  intro pins s σ H Q I h
  refine wpAny_Call_Name_kw (ys6 I hg hm ?_ hdb)
  refine PySem.W.callWith_K (h₀ := X.base) I.ok.mod.kin hk (thn (ha pos pins s σ H _ I h) fun us s1 ⟨vs, H1, I1, r, q⟩ => ⟨I1.kIn, ?_⟩) he hpl
  exact yy5 F hr hb hd hx I1 r q
theorem wi0 (F : FnOk X.prog X.w X.K X.mg X.base CX k f fd ps sp) (hr : Room k X.A) (hg : Gl X x) (hm : X.mg x = some (.ref f)) (hk : PySem.W.keepIn X.K (.ref f) = true) (hb : zz2 X.K fd ps ds) (hd : ze5 dvs ds) (hx : yf2 CX X E)
    (hdb : (x == ("__debug__" : Str)) = false := by decide) : PE X (.Call (.Name x p) [] [] pos) (xl1 sp dvs E xz6) := by
  intro pins s σ H Q I h
  refine wpAny_Call_Name_kw (ys6 I hg hm ?_ hdb)
  exact PySem.W.callWith_K0 I.kIn hk (yy5 (us := []) F hr hb hd hx I .nil h)
theorem wo9 {pl : Sem Bool} (he : PE X o ta) (c : Cls X.K C) (hm : Meth X.K C m f) (F : FnOk X.prog X.w X.K X.mg X.base CX k f fd ps sp) (hr : Room k X.A) (hb : zz2 X.K fd ps ds) (hd : ze5 dvs ds) (hx : yf2 CX X E) (ha : PA X (e :: es) t)
    (hst : starEach (e :: es) X.env = (false, eval e X.env) :: starEach es X.env := by rfl) (hpl : (backTo pos (starEach es X.env)).any (·.1) = false := by rfl)
    (ht : eval (.Call (.Attribute o m apos) (e :: es) [] pos) X.env = (do
      let ov <- eval o X.env
      standAt apos.atName
      let (f, first) <- holding [ov] (getMethod ov m pl)
      callWith pos f first (backTo pos (starEach (e :: es) X.env)) (backToKw pos (keywordEach [] X.env))) := by rfl) :
    PE X (.Call (.Attribute o m apos) (e :: es) [] pos) (wo0 C m sp dvs E ta t) := by
  intro pins s σ H Q I h
  refine PySem.W.methodCall_KW (pl := pl) (thn (he pins s σ H _ I h) fun u s1 ⟨x, H1, I1, rx, a, dx, fs, ex, ea, l, q⟩ => ?_) ht
  subst ex
  obtain rfl : u = Value.ref a := rx
  refine yy4 I1 ea c hm l ?_
  refine PySem.W.callWith_K (first := [.ref a]) (h₀ := X.base) I.ok.mod.kin hm.kp (thn (ha pos pins s1 σ H1 _ I1 q) fun us s2 ⟨vs, H2, I2, r, q2⟩ => ⟨I2.kIn, ?_⟩) hst hpl
  exact yy5 (us := .ref a :: us) (vs := .ref a :: vs) F hr hb hd hx I2 (.cons rfl r) q2
theorem wi1 {pl : Sem Bool} (he : PE X o ta) (c : Cls X.K C) (hm : Meth X.K C m f) (F : FnOk X.prog X.w X.K X.mg X.base CX k f fd ps sp) (hr : Room k X.A) (hb : zz2 X.K fd ps ds) (hd : ze5 dvs ds) (hx : yf2 CX X E)
    (ht : eval (.Call (.Attribute o m apos) [] [] pos) X.env = (do
      let ov <- eval o X.env
      standAt apos.atName
      let (f, first) <- holding [ov] (getMethod ov m pl)
      callWith pos f first (backTo pos (starEach [] X.env)) (backToKw pos (keywordEach [] X.env))) := by rfl) :
    PE X (.Call (.Attribute o m apos) [] [] pos) (wo0 C m sp dvs E ta xz6) := by
  intro pins s σ H Q I h
  refine PySem.W.methodCall_KW (pl := pl) (thn (he pins s σ H _ I h) fun u s1 ⟨x, H1, I1, rx, a, dx, fs, ex, ea, l, q⟩ => ?_) ht
  subst ex
  obtain rfl : u = Value.ref a := rx
  refine yy4 I1 ea c hm l ?_
  exact PySem.W.callWith_K0 (first := [.ref a]) I1.kIn hm.kp (yy5 (us := [.ref a]) (vs := [.ref a]) F hr hb hd hx I1 (.cons rfl .nil) q)
structure Mk (K : PySem.W.Frag) (C f : Addr) : Prop where
  makes : PySem.W.makesIn K C = true
  init : PySem.W.findIn K (.ref C) "__init__" = some (some (.ref f))
  fn : PySem.W.isFn K (.ref f) = true
  kp : PySem.W.keepIn K (.ref C) = true
theorem wi2 {pins : List (Addr × Obj)} {σ : St} {H : Hp} {s : Shared} {Q : VK} {us : List Value} {vs : List V} (M : Mk X.K C f) (F : FnOk X.prog X.w X.K X.mg X.base CX k f fd ps sp) (hr : Room (k + 1) X.A) (hb : zz2 X.K fd ps ds) (hd : ze5 dvs ds)
    (hx : yf2 CX X E) (I : Inv X pins σ H s) (r : ze5 vs us)
    (h : ∀ x dx, H x = none -> H dx = none -> dx ≠ x -> sp (.ref x :: (vs ++ dvs)) (upd (upd H dx (.own x)) x (.ins C dx [])) (fun v H2 => v = .non /\ Q (.ref x) H2) E) :
    wpAny (model X.prog X.w) X.A (call (.ref C) us) (EP X pins σ Q) X.xe s := by
  have hq := h (s.heap.objs.size + 1) s.heap.objs.size (I.hok.fresh (Nat.le_succ _)) (I.hok.fresh (Nat.le_refl _)) (Nat.ne_of_lt (Nat.lt_succ_self _))
  have I2 := Inv.made (C := C) I
  have r2 : ze5 (V.ref (s.heap.objs.size + 1) :: (vs ++ dvs)) (Value.ref (s.heap.objs.size + 1) :: (us ++ ds)) := .cons rfl (r.append hd)
  have hl : (Value.ref (s.heap.objs.size + 1) :: us ++ ds).length = ps.length := by
    have e := r2.length
    rw [F.len _ _ _ _ hq] at e
    exact e.symm
  refine wpAny_call (wh9 (f := f) I.kIn M.makes M.init (beq_iff_eq.mp M.fn) (codeAny_mono (F.run _ X.stack _ _ ⟨Value.ref (s.heap.objs.size + 1) :: us, []⟩ (Value.ref (s.heap.objs.size + 1) :: (us ++ ds)) _ _ E (hr.make C us [])
    (I2.env0.make C us []) (hb _ (Value.ref (s.heap.objs.size + 1) :: us) I2.kIn hl) r2 hq) fun r s' hq' => ?_))
  cases r with
  | error e => exact hx pins σ _ _ e s' I2 hq'
  | ok fl =>
    cases fl with
    | ret u =>
      obtain ⟨v, H', I3, rv, ev, q3⟩ := I2.after hq'
      subst ev
      exact ⟨rv, ⟨V.ref (s.heap.objs.size + 1), H', I3, rfl, q3⟩⟩
    | next => exact False.elim hq'
    | brk => exact False.elim hq'
    | cont => exact False.elim hq'
theorem wp0 (M : Mk X.K C f) (F : FnOk X.prog X.w X.K X.mg X.base CX k f fd ps sp) (hr : Room (k + 1) X.A) (hg : Gl X x) (hm : X.mg x = some (.ref C)) (hb : zz2 X.K fd ps ds) (hd : ze5 dvs ds) (hx : yf2 CX X E)
    (ha : PA X (e :: es) t) (hdb : (x == ("__debug__" : Str)) = false := by decide) (he : starEach (e :: es) X.env = (false, eval e X.env) :: starEach es X.env := by rfl) (hpl : (backTo pos (starEach es X.env)).any (·.1) = false := by rfl) :
    PE X (.Call (.Name x p) (e :: es) [] pos) (kb3 C sp dvs E t) := by
  intro pins s σ H Q I h
  refine wpAny_Call_Name_kw (ys6 I hg hm ?_ hdb)
  refine PySem.W.callWith_K (h₀ := X.base) I.ok.mod.kin M.kp (thn (ha pos pins s σ H _ I h) fun us s1 ⟨vs, H1, I1, r, q⟩ => ⟨I1.kIn, ?_⟩) he hpl
  exact wi2 M F hr hb hd hx I1 r q
end
section
variable {X : Cx} {CX : CXT} {k : Nat} {f C : Addr} {fd : FuncData} {ps ks : List Str} {sp : Sp} {E : XK} {x m : Str} {p pos apos kpos : Pos} {e o : Expr} {es : List Expr} {kws : List Keyword} {te ta : TE} {t tk : TA} {nm : Option Str}
structure KBinds (K : PySem.W.Frag) (fd : FuncData) (ps ks : List Str) (g : List Value -> List Value -> List Value) (gV : List V -> List V -> List V) : Prop where
  to : ∀ (s : Shared) (us ws : List Value), K.In s.heap -> (g us ws).length = ps.length -> BindsTo s fd ⟨us, ks.zip ws⟩ (ps.zip (g us ws))
  rel : ∀ {vs : List V} {us : List Value} {zs : List V} {ws : List Value}, ze5 vs us -> ze5 zs ws -> ze5 (gV vs zs) (g us ws)
variable {g : List Value -> List Value -> List Value} {gV : List V -> List V -> List V}
end
structure FnScope (N P : List Str) (sc : Scope) : Prop where
  kind : sc.kind = .function
  co : sc.isCoroutine = false
  gen : sc.isGenerator = false
  nd : N.Nodup
  pre : N.take P.length = P
  par : ∀ x ∈ P, sc.names.lookup x = some .local \/ sc.names.lookup x = some .cell
  nofree : ∀ y ∈ sc.names, y.2 ≠ .free
theorem xh1 {kindOf : Str -> Option NameKind} {x : Str} : ∀ {binds : List (Str × Value)} {m : Str -> Option Value}, (∀ v, (x, v) ∉ binds) -> bindL kindOf binds m x = m x
  | [], _, _ => rfl
  | (n, v) :: r, m, h => by
    unfold bindL
    rw [xh1 fun w hw => h w (List.mem_cons_of_mem _ hw)]
    split
    . have : x ≠ n := by rintro rfl; exact h v List.mem_cons_self
      simp [this]
    . rfl
theorem xh2 {kindOf : Str -> Option NameKind} {x : Str} : ∀ {binds : List (Str × Value)} {m : Str -> Option Value}, (∀ v, (x, v) ∉ binds) -> bindC kindOf binds m x = m x
  | [], _, _ => rfl
  | (n, v) :: r, m, h => by
    unfold bindC
    rw [xh2 fun w hw => h w (List.mem_cons_of_mem _ hw)]
    split
    . rfl
    . have : x ≠ n := by rintro rfl; exact h v List.mem_cons_self
      simp [this]
theorem xh3 {kindOf : Str -> Option NameKind} {x : Str} {v : Value} : ∀ {P : List Str} {vs : List Value} {i : Nat} {m : Str -> Option Value}, P.Nodup -> P[i]? = some x -> vs[i]? = some v -> kindOf x = some .local ->
    bindL kindOf (P.zip vs) m x = some v
  | [], _, _, _, _, h, _, _ => by simp at h
  | _ :: _, [], _, _, _, _, h, _ => by simp at h
  | p :: P, w :: vs, 0, m, nd, h1, h2, hk => by
    simp at h1 h2; subst h1; subst h2
    show bindL kindOf ((p, w) :: P.zip vs) m p = _
    unfold bindL
    rw [xh1 fun v hv => (List.nodup_cons.mp nd).1 (List.of_mem_zip hv).1, if_pos hk]
    simp
  | p :: P, w :: vs, i + 1, m, nd, h1, h2, hk => by
    show bindL kindOf ((p, w) :: P.zip vs) m x = _
    unfold bindL
    exact xh3 (i := i) (List.nodup_cons.mp nd).2 (by simpa using h1) (by simpa using h2) hk
theorem xh4 {kindOf : Str -> Option NameKind} {x : Str} {v : Value} : ∀ {P : List Str} {vs : List Value} {i : Nat} {m : Str -> Option Value}, P.Nodup -> P[i]? = some x -> vs[i]? = some v -> kindOf x ≠ some .local ->
    bindC kindOf (P.zip vs) m x = some v
  | [], _, _, _, _, h, _, _ => by simp at h
  | _ :: _, [], _, _, _, _, h, _ => by simp at h
  | p :: P, w :: vs, 0, m, nd, h1, h2, hk => by
    simp at h1 h2; subst h1; subst h2
    show bindC kindOf ((p, w) :: P.zip vs) m p = _
    unfold bindC
    rw [xh2 fun v hv => (List.nodup_cons.mp nd).1 (List.of_mem_zip hv).1, if_neg hk]
    simp
  | p :: P, w :: vs, i + 1, m, nd, h1, h2, hk => by
    show bindC kindOf ((p, w) :: P.zip vs) m x = _
    unfold bindC
    exact xh4 (i := i) (List.nodup_cons.mp nd).2 (by simpa using h1) (by simpa using h2) hk
noncomputable def start (N : List Str) (vs : List V) : St := vs.map some ++ List.replicate (N.length - vs.length) none
noncomputable def yk5 (CX : CXT) (P : Program) (w : World) (K : PySem.W.Frag) (mg : Str -> Option Value) (base : Heap) (N : List Str) (qual : Str) (scope : Scope) (f : Addr) (cd : Value) (A : Around) (outer : List Env) (s : Shared) (H : Hp) (E : XK) : Cx where
  prog := P
  w := w
  K := K
  mg := mg
  base := base
  A := A.deeper (envOfC qual scope s.heap.objs.size f cd)
  N := N
  s₀ := s
  H₀ := H
  env := envOfC qual scope s.heap.objs.size f cd
  outer := outer
  stack := envOfC qual scope s.heap.objs.size f cd :: outer
  ex := []
  calm := true
  fn := fun _ => true
  pn := []
  xe := fun e s' => wpAny (model P w) (A.deeper (envOfC qual scope s.heap.objs.size f cd)) (leaving (envOfC qual scope s.heap.objs.size f cd) e) (fun _ s'' => CX outer H s E e s'') (fun e' s'' => CX outer H s E e' s'') s'
theorem xl9 {sc : Scope} {n : Nat} {x : Str} (h : sc.names.lookup x = some .cell) : ∃ c, (cellsFrom n sc.names []).lookup x = some c := by
  have q := PySem.W.cellsFrom_some sc.names n [] (.inl h)
  exact Option.isSome_iff_exists.mp q
theorem wb7 {CX : CXT} {P : Program} {w : World} {K : PySem.W.Frag} {mg : Str -> Option Value} {base : Heap} {N ps : List Str} {qual : Str} {scope : Scope} {f : Addr} {cd : Value} {A : Around} {outer : List Env} {s s1 : Shared} {H : Hp} {E : XK} {us : List Value} {vs : List V}
    (S : FnScope N ps scope) (hd : A.handled = none) (e0 : Env0 P w K mg base A outer s H) (hl : vs.length = ps.length) (r : ze5 vs us)
    (x : InCallC s s.heap.objs.size (bindL (envOfC qual scope s.heap.objs.size f cd).kindOf (ps.zip us) fun _ => none) (cellsFrom (s.heap.objs.size + 1) scope.names []) (bindC (envOfC qual scope s.heap.objs.size f cd).kindOf (ps.zip us) fun _ => none) s1) :
    Inv (yk5 CX P w K mg base N qual scope f cd A outer s H E) [] (start N vs) H s1 := by
  have hpl : ps.length <= N.length := by have := congrArg List.length S.pre; rw [List.length_take] at this; omega
  obtain ⟨h1, tk, rfl, hk⟩ := x.done
  have noA : ∀ b : Addr, b ∉ (yk5 CX P w K mg base N qual scope f cd A outer s H E).ex := fun b z => absurd (show b ∈ ([] : List Addr) from z) (by simp)
  refine ⟨⟨e0.mod, S.kind, rfl, rfl, Nat.le_refl _, fun y z c h1 h2 => ?_, fun y hy => ?_, fun y c _ h => ?_, fun _ => hd, Around.frames_deeper e0.frames, .inr ⟨rfl, rfl⟩, fun b z => absurd z (noA b), e0.bs, e0.bsz, fun b _ _ => noA b, fun b z => absurd z (noA b), e0.funs, e0.frf⟩,
    rfl, e0.bare, Un.kept hk, ⟨_, x.toInCall.ns, fun i y v h1 h2 h3 => ?_⟩, fun y c h => ⟨_, x.cell y c h⟩, e0.hok.fresh (Nat.le_refl _), fun y c h => ?_, fun p hp => absurd (show p ∈ ([] : List (Addr × Obj)) from hp) (by simp), e0.hok.kept hk, ?_⟩
  . exact name_of_addr x.apart (PySem.mem_of_lookup h1) (PySem.mem_of_lookup h2)
  . have hy : scope.names.lookup y = some .cell \/ scope.names.lookup y = some .free := hy
    rcases hy with hy | hy
    . exact xl9 hy
    . exact absurd rfl (S.nofree _ (PySem.mem_of_lookup hy))
  . exact Nat.le_of_lt (x.above y c (PySem.mem_of_lookup h))
  . have hi : i < vs.length := by
      unfold start at h2
      by_cases hi : i < vs.length
      . exact hi
      . rw [List.getElem?_append_right (by simpa using hi)] at h2
        rw [List.getElem?_replicate] at h2
        split at h2 <;> cases h2
    have ha : vs[i]? = some v := by
      unfold start at h2
      rw [List.getElem?_append_left (by simpa using hi), List.getElem?_map] at h2
      cases e : vs[i]? with
      | none => rw [e] at h2; cases h2
      | some a => rw [e] at h2; cases h2; rfl
    obtain ⟨u, hu, rv⟩ := r.get ha
    have hp : ps[i]? = some y := by
      rw [<- S.pre, List.getElem?_take_of_lt (by omega)]; exact h1
    have ndP : ps.Nodup := by rw [<- S.pre]; exact S.nd.sublist (List.take_sublist _ _)
    refine ⟨u, rv, ?_⟩
    rcases S.par y (List.mem_of_getElem? hp) with k | k
    . exact .inl ⟨k, xh3 ndP hp hu k⟩
    . obtain ⟨c, e⟩ := xl9 (n := s.heap.objs.size + 1) k
      refine .inr ⟨.inl k, c, e, ?_⟩
      have q := x.cell y c e
      rw [xh4 ndP hp hu (by show scope.names.lookup y ≠ _; rw [k]; decide)] at q
      exact q
  . exact e0.hok.fresh (Nat.le_of_lt (x.above y c (PySem.mem_of_lookup h)))
  . unfold start
    show _ = N.length
    rw [List.length_append, List.length_map, List.length_replicate]
    omega
theorem wz8 {CX : CXT} {P : Program} {w : World} {K : PySem.W.Frag} {mg : Str -> Option Value} {base : Heap} {k : Nat} {f : Addr} {name qual : Str} {params : Arguments} {body : List Stmt} {scope : Scope} {dV kV doc pm cdv ct oc : Value} {an od : Option Addr}
    {osl : Array (Option Value)} {N ps : List Str} {sp : Sp} (lk : K.lookup f = some ⟨oc, od, .func (PySem.W.fnOf name qual params body scope dV kV doc pm an cdv ct), osl⟩) (hcd : PySem.W.codeIn K cdv qual = true) (S : FnScope N ps scope)
    (len : ∀ vs H Q E, sp vs H Q E -> vs.length = ps.length)
    (hbody : ∀ (A : Around) (outer : List Env) (s : Shared) (H : Hp) (vs : List V) (Q : VK) (E : XK), Room k (A.deeper (envOfC qual scope s.heap.objs.size f cdv)) -> sp vs H Q E ->
      ∃ t, PSs (yk5 CX P w K mg base N qual scope f cdv A outer s H E) body t /\ t { nx := fun _ H' => Q .non H', rt := Q } (start N vs) H) :
    FnOk P w K mg base CX (k + 1) f (PySem.W.fnOf name qual params body scope dV kV doc pm an cdv ct) ps sp := by
  refine ⟨len, fun A outer s H args us vs Q E hr e0 hb r hsp => ?_⟩
  have hl := len _ _ _ _ hsp
  have KX : K.In s.heap := e0.mod.kin.keeps fun b o e => (e0.bs b o e).1
  have lim : s.heap.NoLimit := e0.mod.nolimit.keeps fun b o e => (e0.bs b o e).1
  have hkind : ∀ y ∈ ps.zip us, scope.names.lookup y.1 = some .local \/ (scope.names.lookup y.1 = some .cell /\ ((cellsFrom (s.heap.objs.size + 1) scope.names []).lookup y.1).isSome = true) := fun ⟨n, v⟩ hy => by
    rcases S.par n (List.of_mem_zip hy).1 with q | q
    . exact .inl q
    . exact .inr ⟨q, PySem.W.cellsFrom_some _ _ _ (.inl q)⟩
  refine codeAny_call_function hr.depth (KX _ _ lk) rfl S.co S.gen rfl (PySem.W.codeRec_of KX hcd) (hb _ _ _ _ ?_)
  refine wpAny_newFunctionEnv_cells S.kind hkind fun env he s1 x => ?_
  subst he
  refine ⟨lim.keeps x.toInCall.keep, codeAny_func ?_⟩
  obtain ⟨t, ht, hq⟩ := hbody A outer s H vs Q E (hr.deeper _) hsp
  have I : Inv (yk5 CX P w K mg base N qual scope f cdv A outer s H E) [] (start N vs) H s1 := wb7 S hr.hd e0 hl r x
  refine wpAny_mono (ht [] s1 (start N vs) H _ I hq) (fun fl s' hs => ?_) fun e s' hs => hs
  have fin : ∀ {σ' : St} {H' : Hp} {v : V} {u : Value}, Inv (yk5 CX P w K mg base N qual scope f cdv A outer s H E) [] σ' H' s' -> zh6 v u -> Q v H' -> CE outer P w H s Q u s' :=
    fun {σ' H' v u} J rv q => ⟨v, H', J.os, J.bare, J.base, J.hok, rv, q⟩
  cases fl with
  | ret u =>
    obtain ⟨v, σ', H', J, rv, q⟩ := hs
    exact fin J rv q
  | next =>
    obtain ⟨σ', H', J, q⟩ := hs
    exact fin (v := V.non) (u := Value.none) J rfl q
  | brk =>
    obtain ⟨_, _, _, q⟩ := hs
    exact False.elim q
  | cont =>
    obtain ⟨_, _, _, q⟩ := hs
    exact False.elim q
end L2
namespace L2
open PySem PySem.Spec PyProof.Rows
section
variable {X : Cx} {x : Str} {p pos : Pos} {e : Expr} {es : List Expr} {t : TA} {id T : String} {r : List V -> Hp -> VK -> Prop}
noncomputable def tCB (r : List V -> Hp -> VK -> Prop) (t : TA) : TE := fun σ H Q => t σ H fun vs H1 => r vs H1 Q
theorem yh4 (hc : zn9 X (.builtin id) r) (hg : Gl X x) (hm : X.mg x = none) (hv : bootBuiltins x = some (.builtin id)) (ha : PA X (e :: es) t) (hn : x ≠ "__name__" := by decide) (hdb : (x == ("__debug__" : Str)) = false := by decide)
    (he : starEach (e :: es) X.env = (false, eval e X.env) :: starEach es X.env := by rfl) (hpl : (backTo pos (starEach es X.env)).any (·.1) = false := by rfl) : PE X (.Call (.Name x p) (e :: es) [] pos) (tCB r t) := by
  intro pins s σ H Q I h
  refine wpAny_Call_Name_kw (yy1 I hg hm hv ?_ hn hdb)
  exact PyProof.Rows.callWith_builtin1 (thn (ha pos pins s σ H _ I h) fun us s1 ⟨vs, H1, I1, r1, q1⟩ => hc pins s1 σ H1 vs us Q I1 r1 q1) he hpl
theorem wb8 (hc : zn9 X (.type T) r) (hg : Gl X x) (hm : X.mg x = none) (hv : bootBuiltins x = some (.type T)) (ha : PA X (e :: es) t) (hn : x ≠ "__name__" := by decide) (hdb : (x == ("__debug__" : Str)) = false := by decide)
    (he : starEach (e :: es) X.env = (false, eval e X.env) :: starEach es X.env := by rfl) (hpl : (backTo pos (starEach es X.env)).any (·.1) = false := by rfl) : PE X (.Call (.Name x p) (e :: es) [] pos) (tCB r t) := by
  intro pins s σ H Q I h
  refine wpAny_Call_Name_kw (yy1 I hg hm hv ?_ hn hdb)
  exact PyProof.Rows.callWith_type1 (thn (ha pos pins s σ H _ I h) fun us s1 ⟨vs, H1, I1, r1, q1⟩ => hc pins s1 σ H1 vs us Q I1 r1 q1) he hpl
end
end L2
namespace HT
open PySem PyProof.Rows
noncomputable def lexLt : List Int -> List Int -> Bool
  | [], [] => false
  | [], _ :: _ => true
  | _ :: _, [] => false
  | x :: xs, y :: ys => if x = y then lexLt xs ys else decide (x < y)
theorem xw6 (x y : Int) (xs ys : List Int) : lexLt (x :: xs) (y :: ys) = if x = y then lexLt xs ys else decide (x < y) := rfl
theorem xj4 : lexLt [] [] = false := rfl
theorem xd7 (y : Int) (ys : List Int) : lexLt [] (y :: ys) = true := rfl
theorem xd8 (x : Int) (xs : List Int) : lexLt (x :: xs) [] = false := rfl
theorem wi3 (A : Around) (s : Shared) (a : Int) (t : Tok) (c : Int) (u : Tok) : ∃ e, SeqAt.EqAt A s (.int a t) (.int c u) e /\ (e = true ↔ a = c) :=
  ⟨(a == c), SeqAt.EqAt.int_int a t c u, by simp⟩
theorem wi4 (A : Around) (s : Shared) (a : Int) (t : Tok) (c : Int) (u : Tok) (prog : Program) (w : World) (E : Value -> Shared -> Prop) (Q : Value -> Shared -> Prop) (h : Q (.bool (decide (a < c))) s) :
    wpAny (model prog w) A (richCompare .Lt (.int a t) (.int c u)) Q E s :=
  (PyProof.Rows.lt_int h : wpAny (model prog w) A (compareOp .Lt (.int a t) (.int c u)) Q E s)
section
open PySem.SeqAt
open PySem.AutoSeq1 (wpAny_loadPart')
open PySem.MeetsSeq PySem.MeetsSeq2 PySem.MeetsSeq3
theorem xj5 (l b : Addr) (items items2 : Array Value) (n n2 : Nat) (dd dd2 : Option Addr) (sl sl2 : Array (Option Value)) (ns ms : List Int) (hi : IntsAre items.toList ns) (hj : IntsAre items2.toList ms) :
    Meets (Builtin.«tuple.__lt__» ⟨[.ref l, .ref b], []⟩)
      (fun _ R s => s.heap.get? l = some { cls := .type "tuple", dict := dd, data := .seq items n, slots := sl } /\ s.heap.get? b = some { cls := .type "tuple", dict := dd2, data := .seq items2 n2, slots := sl2 } /\
        R (.ok (.ret (.bool (lexLt ns ms)))) s) :=
  .of_wp fun prog w A R s h => by
    obtain ⟨hp, g, d, tk, os⟩ := s; obtain ⟨hl, hb, h⟩ := h
    have f2 := AutoSeq1.sub_tuple_tuple
    have z1 : items.size = ns.length := by rw [<- hi.length]; simp
    have z2 : items2.size = ms.length := by rw [<- hj.length]; simp
    wp_walk using wpAny_loadPart' hl, wpAny_loadPart' hb, wpAny_forIn_list _ (fun zd5 b s' => b.1 = none /\ s' = ⟨hp, g, d, tk, os⟩ /\ ∃ (vs ws : List Value) (ns' ms' : List Int), zd5 = vs.zip ws /\
      IntsAre vs ns' /\ IntsAre ws ms' /\ ns'.length + items2.size = ms'.length + items.size /\ R (.ok (.ret (.bool (lexLt ns' ms')))) ⟨hp, g, d, tk, os⟩) _
    case turn =>
      rintro ⟨y, x⟩ zd5 b s' ⟨hb', rfl, vs, ws, ns', ms', hz, hvi, hwi, hlen, hR⟩
      cases hvi with
      | nil => rw [List.zip_nil_left] at hz; cases hz
      | cons a t hvi' =>
        cases hwi with
        | nil => rw [List.zip_nil_right] at hz; cases hz
        | cons c u hwi' =>
          rw [List.zip_cons_cons] at hz
          injection hz with hyx hrest
          injection hyx with hy hx
          subst hy hx
          rw [xw6] at hR
          simp only [List.length_cons] at hlen
          obtain ⟨e, he, hiff⟩ := wi3 A.in1 ⟨hp, g, d, tk, os⟩ a t c u
          refine wpAny_bind (he prog w _ _ ?_)
          cases e with
          | true =>
            rw [if_pos (hiff.mp rfl)] at hR
            wp_walk
            exact ⟨rfl, rfl, _, _, _, _, hrest, hvi', hwi', by omega, hR⟩
          | false =>
            rw [if_neg (fun q => absurd (hiff.mpr q) Bool.false_ne_true)] at hR
            have hri := wi4 A.in1 ⟨hp, g, d, tk, os⟩ a t c u prog w
            wp_walk using hri
            exact ⟨_, rfl, by simpa using hR⟩
    case fin =>
      rintro ⟨b1, b2⟩ s' ⟨hb', rfl, vs, ws, ns', ms', hz, hvi, hwi, hlen, hR⟩
      simp only at hb'
      subst hb'
      have hv : lexLt ns' ms' = decide (items.size < items2.size) := by
        cases hvi with
        | nil =>
          cases hwi with
          | nil =>
            simp only [List.length_nil] at hlen
            rw [xj4]
            exact (decide_eq_false (by omega)).symm
          | cons c u hw =>
            simp only [List.length_nil, List.length_cons] at hlen
            rw [xd7]
            exact (decide_eq_true (by omega)).symm
        | cons a t hv =>
          cases hwi with
          | nil =>
            simp only [List.length_nil, List.length_cons] at hlen
            rw [xd8]
            exact (decide_eq_false (by omega)).symm
          | cons c u hw =>
            rw [List.zip_cons_cons] at hz
            cases hz
      rw [hv] at hR
      wp_walk
      exact ⟨_, rfl, by simpa [Builtin.Tuple.tupleCompareSizes] using hR⟩
    case h =>
      exact ⟨rfl, rfl, items.toList, items2.toList, ns, ms, rfl, hi, hj, by omega, h⟩
end
section
variable {prog : Program} {w : World} {A : Around} {E : Value -> Shared -> Prop} {s : Shared}
theorem lt_tupInts {l b : Addr} {items items2 : Array Value} {ns ms : List Int} {Q : Value -> Shared -> Prop} (hl : IsTup s.heap l items) (hb : IsTup s.heap b items2) (hi : IntsAre items.toList ns) (hj : IntsAre items2.toList ms)
    (hu : A.units < cLine) (h : Q (.bool (lexLt ns ms)) s) : wpAny (model prog w) A (compareOp .Lt (.ref l) (.ref b)) Q E s := by
  obtain ⟨⟨cls, dd, data, sl⟩, ho, hc, n, hd⟩ := id hl
  obtain ⟨⟨cls2, dd2, data2, sl2⟩, ho2, hc2, n2, hd2⟩ := id hb
  simp only at hc hd hc2 hd2
  subst hc hd hc2 hd2
  exact richCompare_meets_room (op := .Lt) ⟨_, ho, rfl⟩ ⟨_, ho2, rfl⟩ PySem.F.slot_tuple_lt PySem.F.entry_tuple_lt (PySem.F.args_tuple_lt_2 _ _) (xj5 l b items items2 n n2 dd dd2 sl sl2 ns ms hi hj)
    ⟨ho, ho2, show Value.bool (lexLt ns ms) ≠ Value.notImplemented /\ Q (.bool (lexLt ns ms)) s from ⟨(fun x => nomatch x), h⟩⟩ hu
noncomputable def sIx (n d : Nat) : Option Int -> Nat
  | none => d
  | some v => if v < 0 then (v + (n : Int)).toNat else min v.toNat n
theorem sIx_none (n d : Nat) : sIx n d none = d := rfl
theorem sIx_nat (n d k : Nat) : sIx n d (some (k : Int)) = min k n := by
  show (if (k : Int) < 0 then ((k : Int) + (n : Int)).toNat else min (k : Int).toNat n) = min k n
  rw [if_neg (by omega), Int.toNat_natCast]
end
end HT
namespace L2
open PySem PySem.Spec PyProof.Rows
noncomputable abbrev TO := St -> Hp -> (Option Int -> Hp -> Prop) -> Prop
noncomputable def PO (X : Cx) (e : Option Expr) (t : TO) : Prop :=
  ∀ (pins : List (Addr × Obj)) (s : Shared) (σ : St) (H : Hp) (Q : Option Int -> Hp -> Prop), Inv X pins σ H s -> t σ H Q ->
    wpAny (model X.prog X.w) X.A (evalPart e X.env) (fun u s' => ∃ o H', Inv X pins σ H' s' /\ IsPart u o /\ Q o H') X.xe s
noncomputable def ws4 : TO := fun _ H Q => Q none H
noncomputable def kb4 (t : TE) : TO := fun σ H Q => t σ H fun x H1 => ∃ i, x = .int i /\ Q (some i) H1
theorem yy6 {ns : List Int} : ∀ {us : List Value}, ze5 (ns.map V.int) us -> IntsAre us ns := by
  induction ns with
  | nil => intro us r; rw [List.map_nil] at r; cases r; exact .nil
  | cons n ns ih =>
    intro us r
    rw [List.map_cons] at r
    cases r with
    | cons r1 r2 =>
      obtain ⟨t, e⟩ := r1
      subst e
      exact .cons n t (ih r2)
section
variable {X : Cx} {e : Expr} {te : TE} {lo hi : Option Expr} {tl th : TO} {pos p2 : Pos}
theorem wp1 : PO X none ws4 := by
  intro pins s σ H Q I h
  rw [evalPart_none]
  exact wpAny_pure ⟨none, H, I, .none, h⟩
theorem wp2 (h : PE X e te) : PO X (some e) (kb4 te) := by
  intro pins s σ H Q I hw
  rw [evalPart_some]
  refine thn (h pins s σ H _ I hw) fun u s1 ⟨x, H1, I1, r1, q1⟩ => ?_
  obtain ⟨i, rfl, q⟩ := q1
  obtain ⟨t, rfl⟩ := r1
  exact ⟨some i, H1, I1, .int i t, q⟩
noncomputable def SlR (X : Cx) (r : V -> Option Int -> Option Int -> Hp -> VK -> Prop) : Prop :=
  ∀ (pins : List (Addr × Obj)) (s : Shared) (σ : St) (H : Hp) (x : V) (v vl vu : Value) (lo hi : Option Int) (sl : Addr) (Q : VK), Inv X pins σ H s -> zh6 x v -> s.heap.IsSliceOf sl vl vu .none -> IsPart vl lo -> IsPart vu hi -> r x lo hi H Q ->
    ∃ T id, typeLookup (.type T) "__getitem__" = pure (some (.builtin id)) /\ s.TypeIs v T /\ wpAny (model X.prog X.w) X.A (getItem v (.ref sl)) (EP X pins σ Q) X.xe s
noncomputable def tSl (r : V -> Option Int -> Option Int -> Hp -> VK -> Prop) (te : TE) (tl th : TO) : TE := fun σ H Q => te σ H fun x H1 => tl σ H1 fun l H2 => th σ H2 fun u H3 => r x l u H3 Q
theorem wi5 {r : V -> Option Int -> Option Int -> Hp -> VK -> Prop} (hr : SlR X r) (he : PE X e te) (hl : PO X lo tl) (hu : PO X hi th) : PE X (.Subscript e (.Slice lo hi none p2) pos) (tSl r te tl th) := by
  intro pins s σ H Q I h
  refine Subscript_ (thn (he pins s σ H _ I h) fun v s1 ⟨x, H1, I1, r1, q1⟩ => ?_)
  refine wpAny_Slice (thn (hl pins s1 σ H1 _ I1 q1) fun vl s2 ⟨l, H2, I2, pl, q2⟩ => thn (hu pins s2 σ H2 _ I2 q2) fun vu s3 ⟨u, H3, I3, pu, q3⟩ => ?_)
  rw [evalPart_none]
  refine wpAny_pure ?_
  have I4 : Inv X pins σ H3 { s3 with heap := s3.heap.push { cls := .type "slice", data := .fields #[vl, vu, .none] } } := I3.kept (t' := s3.toks) fun b ob q => Heap.get?_push_of_some _ q
  obtain ⟨T, id, hT, ht, hg⟩ := hr pins { s3 with heap := s3.heap.push { cls := .type "slice", data := .fields #[vl, vu, .none] } } σ H3 x v vl vu l u s3.heap.objs.size Q I4 r1 (Heap.IsSliceOf.new ..) pl pu q3
  show wpAny (model X.prog X.w) X.A (subscriptTail e (.Slice lo hi none p2) v (.ref s3.heap.objs.size)) (EP X pins σ Q) X.xe { s3 with heap := s3.heap.push { cls := .type "slice", data := .fields #[vl, vu, .none] } }
  exact tail_any (ops := [.ref s3.heap.objs.size, v]) ht hT hg (by with_unfolding_all rfl)
noncomputable def xg5 (xs : List V) (lo hi : Option Int) : List V := (xs.drop (HT.sIx xs.length 0 lo)).take (HT.sIx xs.length xs.length hi - HT.sIx xs.length 0 lo)
theorem xr4 (xs : List V) (lo hi : Option Int) : (xg5 xs lo hi).length <= xs.length := by
  unfold xg5
  rw [List.length_take, List.length_drop]
  omega
noncomputable def kf0 (K : PySem.W.Frag) : R2 := fun x y H Q => ∃ a b ns ms, x = .ref a /\ y = .ref b /\ SqT K H a (ns.map V.int) /\ SqT K H b (ms.map V.int) /\ Q (.bl (HT.lexLt ns ms)) H
theorem wu6 (hu : X.A.units < cLine) : OpR X (compareOp .Lt) (kf0 X.K) := by
  intro pins s σ H x y v u Q I rx ry h
  obtain ⟨a, b, ns, ms, rfl, rfl, ha, hb, q⟩ := h
  cases rx
  cases ry
  obtain ⟨its, r1, p1, _⟩ := I.tuple ha
  obtain ⟨its2, r2, p2, _⟩ := I.tuple hb
  have i1 : IntsAre its.toArray.toList ns := yy6 r1
  have i2 : IntsAre its2.toArray.toList ms := yy6 r2
  exact HT.lt_tupInts p1 p2 i1 i2 hu ⟨.bl (HT.lexLt ns ms), H, I, rfl, q⟩
end
end L2
namespace L2
open PySem PySem.Spec PyProof.Rows
noncomputable def ixN (n : Nat) (i : Int) : Option Nat := if 0 <= i then (if i < n then some i.toNat else none) else if -(n : Int) <= i then some (i + n).toNat else none
noncomputable def atI {α : Type} (xs : List α) (i : Int) : Option α := (ixN xs.length i).bind fun j => xs[j]?
theorem ys8 {n : Nat} {i : Int} {j : Nat} (h : ixN n i = some j) : seqIndex? i n = some j /\ j < n /\ -(n : Int) <= i /\ i < n := by
  unfold ixN at h
  by_cases h0 : 0 <= i
  . rw [if_pos h0] at h
    by_cases h1 : i < n
    . rw [if_pos h1] at h
      have e : i.toNat = j := Option.some.inj h
      exact ⟨by rw [seqIndex_of h0 h1, e], by omega, by omega, h1⟩
    . rw [if_neg h1] at h; cases h
  . rw [if_neg h0] at h
    by_cases h1 : -(n : Int) <= i
    . rw [if_pos h1] at h
      have e : (i + n).toNat = j := Option.some.inj h
      exact ⟨by rw [seqIndex_neg (by omega) h1, e], by omega, h1, by omega⟩
    . rw [if_neg h1] at h; cases h
theorem zy7 {α : Type} {xs : List α} {i : Int} {v : α} (h : atI xs i = some v) : ∃ j, seqIndex? i xs.length = some j /\ xs[j]? = some v /\ j < xs.length /\ -(xs.length : Int) <= i /\ i < xs.length := by
  unfold atI at h
  cases e : ixN xs.length i with
  | none => rw [e] at h; cases h
  | some j =>
    rw [e] at h
    obtain ⟨h1, h2, h3, h4⟩ := ys8 e
    exact ⟨j, h1, h, h2, h3, h4⟩
theorem xd9 {α : Type} {xs : List α} {j : Nat} {v : α} (h : xs[j]? = some v) : atI xs (j : Int) = some v := by
  have hj : j < xs.length := (List.getElem?_eq_some_iff.mp h).1
  have e : ixN xs.length (j : Int) = some j := by
    unfold ixN
    rw [if_pos (by omega), if_pos (by omega)]; simp
  unfold atI; rw [e]; exact h
theorem zq0 {α : Type} (xs : List α) (v : α) : atI (xs ++ [v]) (-1) = some v := by
  have hl : (xs ++ [v]).length = xs.length + 1 := by simp
  have e : ixN (xs ++ [v]).length (-1) = some xs.length := by
    unfold ixN
    rw [hl, if_neg (by decide), if_pos (by omega)]
    congr 1
    omega
  unfold atI
  rw [e]
  show (xs ++ [v])[xs.length]? = some v
  simp
noncomputable def ye1 (b : Expr) : Prop := ∀ o i, subscripted b false o i = operate [o, i] (getItem o i)
noncomputable def IxR (X : Cx) (r : R2) : Prop :=
  ∀ (value slice : Expr) (pins : List (Addr × Obj)) (s : Shared) (σ : St) (H : Hp) (x y : V) (v u : Value) (Q : VK), Inv X pins σ H s -> zh6 x v -> zh6 y u -> r x y H Q ->
    subscripted slice false v u = operate [v, u] (getItem v u) -> wpAny (model X.prog X.w) X.A (subscriptTail value slice v u) (EP X pins σ Q) X.xe s
noncomputable def MtR (X : Cx) (id : String) (r : V -> List V -> Hp -> VK -> Prop) : Prop :=
  ∀ (pins : List (Addr × Obj)) (s : Shared) (σ : St) (H : Hp) (x : V) (xs : List V) (v : Value) (us : List Value) (Q : VK), Inv X pins σ H s -> zh6 x v -> ze5 xs us -> r x xs H Q ->
    wpAny (model X.prog X.w) X.A (call (.builtin id) (v :: us)) (EP X pins σ Q) X.xe s
section
variable {X : Cx} {a b : Expr} {ta tb : TE} {pos : Pos}
theorem IxR.or {r r' : R2} (h : IxR X r) (h' : IxR X r') : IxR X (fun x y H Q => r x y H Q \/ r' x y H Q) := by
  intro value slice pins s σ H x y v u Q I rx ry q hs
  rcases q with q | q
  . exact h value slice pins s σ H x y v u Q I rx ry q hs
  . exact h' value slice pins s σ H x y v u Q I rx ry q hs
theorem xk1 {r : R2} (hr : IxR X r) (ha : PE X a ta) (hb : PE X b tb) (hs : ye1 b) : PE X (.Subscript a b pos) (tOp r ta tb) := by
  intro pins s σ H Q I h
  exact Subscript_ (wh6 ha hb I h fun v u s2 x y H2 I2 rx ry q => hr a b pins s2 σ H2 x y v u Q I2 rx ry q (hs _ _))
noncomputable def wy2 (K : PySem.W.Frag) : R2 := fun x y H Q => ∃ p xs i v, x = .ref p /\ y = .int i /\ SqL K H p xs /\ atI xs i = some v /\ Q v H
noncomputable def wy3 (K : PySem.W.Frag) : R2 := fun x y H Q => ∃ p xs i v, x = .ref p /\ y = .int i /\ SqT K H p xs /\ atI xs i = some v /\ Q v H
noncomputable def wy4 : R2 := fun x y H Q => ∃ z i c, x = .str z /\ y = .int i /\ z.length <= sizeLine /\ atI z.cps.toList i = some c /\ Q (.str ⟨#[c]⟩) H
theorem xe0 : IxR X (wy2 X.K) := by
  intro value slice pins s σ H x y v u Q I rx ry h hs
  obtain ⟨p, xs, i, z, rfl, rfl, hq, he, q⟩ := h
  cases rx
  obtain ⟨t, rfl⟩ := ry
  obtain ⟨its, r, pl, hz⟩ := I.list hq
  obtain ⟨j, h1, h2, h3, h4, h5⟩ := zy7 he
  obtain ⟨w, ew, rw'⟩ := r.get h2
  have hl := r.length
  have hn := yh3
  have fin : EP X pins σ Q w s := ⟨z, H, I, rw', q⟩
  by_cases h0 : 0 <= i
  . have hj : i.toNat = j := by
      rw [seqIndex_of h0 h5] at h1
      exact Option.some.inj h1
    exact item_listR pl.isList h0 (by omega) (by rw [hj]; simpa using ew) fin hs
  . have hj : (i + (its.toArray.size : Int)).toNat = j := by
      rw [seqIndex_neg (by omega) h4] at h1
      rw [List.size_toArray, <- hl]
      exact Option.some.inj h1
    exact subscriptTail_builtinR (x := w) pl.isList.typeIs slot_list_getitem.lookup
      (wpAny_getItem_list_neg (Q := fun r s' => r = w /\ EP X pins σ Q r s') pl.isList (by omega) (by rw [List.size_toArray] <;> omega) (by omega) (by rw [hj]; simpa using ew) ⟨rfl, fin⟩) hs
theorem wu7 : IxR X (wy3 X.K) := by
  intro value slice pins s σ H x y v u Q I rx ry h hs
  obtain ⟨p, xs, i, z, rfl, rfl, hq, he, q⟩ := h
  cases rx
  obtain ⟨t, rfl⟩ := ry
  obtain ⟨its, r, pl, hz⟩ := I.tuple hq
  obtain ⟨j, h1, h2, h3, h4, h5⟩ := zy7 he
  obtain ⟨w, ew, rw'⟩ := r.get h2
  have hl := r.length
  have hn := yh3
  have fin : EP X pins σ Q w s := ⟨z, H, I, rw', q⟩
  exact subscriptTail_builtinR (x := w) pl.typeIs slot_tuple_getitem.lookup
    (getItem_tuple (j := j) (Q := fun r s' => r = w /\ EP X pins σ Q r s') pl (by omega) (by omega) (by rw [List.size_toArray, <- hl]; exact h1) (by simpa using ew) ⟨rfl, fin⟩) hs
theorem wu8 : IxR X wy4 := by
  intro value slice pins s σ H x y v u Q I rx ry h hs
  obtain ⟨z, i, c, rfl, rfl, hz, he, q⟩ := h
  obtain ⟨t, rfl⟩ := rx
  obtain ⟨t', rfl⟩ := ry
  obtain ⟨j, h1, h2, h3, h4, h5⟩ := zy7 he
  have hl : z.cps.toList.length = z.length := by simp [Str.length]
  rw [hl] at h1 h4 h5
  have hn := yh3
  exact tail_any (typeIs_str s z t) slot_str_getitem.lookup (getItem_str (c := c) (by
    have e1 : decide (i < -(2 ^ 63 : Int)) = false := decide_eq_false (by omega)
    have e2 : decide (i >= 2 ^ 63) = false := decide_eq_false (by omega)
    rw [e1, e2, Bool.or_false]) (by rw [h1]; simpa using h2) ⟨.str ⟨#[c]⟩, H, I.tok _, ⟨_, rfl⟩, q⟩) hs
noncomputable def rIx (K : PySem.W.Frag) : R2 := fun x y H Q => wy2 K x y H Q \/ wy3 K x y H Q \/ wy4 x y H Q
theorem wb9 : IxR X (rIx X.K) := xe0.or (wu7.or wu8)
theorem xw7 (its : List Value) (n j : Nat) (u : Value) : Obj.mapSeq (·.setIfInBounds j u) { cls := .type "list", data := .seq its.toArray n } = { cls := .type "list", data := .seq (its.set j u).toArray n } := by
  simp [Obj.mapSeq]
theorem Inv.lst {pins : List (Addr × Obj)} {σ : St} {H : Hp} {s : Shared} {p : Addr} {xs : List V} (I : Inv X pins σ H s) (h : H p = some (.lst xs)) :
    ∃ (its : List Value) (n : Nat), ze5 xs its /\ s.heap.get? p = some { cls := .type "list", data := .seq its.toArray n } /\ xs.length <= sizeLine := by
  obtain ⟨z, its, n, r, e⟩ := I.hok p _ h
  exact ⟨its, n, r, e, z⟩
theorem Inv.lstUpd {pins : List (Addr × Obj)} {σ : St} {H : Hp} {s : Shared} {p : Addr} {xs ys : List V} {its its' : List Value} {n n' : Nat} {f : Obj -> Obj} (I : Inv X pins σ H s) (h : H p = some (.lst xs))
    (ho : s.heap.get? p = some { cls := .type "list", data := .seq its.toArray n }) (hf : f { cls := .type "list", data := .seq its.toArray n } = { cls := .type "list", data := .seq its'.toArray n' }) (r : ze5 ys its') (hz : ys.length <= sizeLine) (t : Nat) :
    Inv X pins σ (upd H p (.lst ys)) { s with heap := s.heap.update p f, toks := t } := by
  have e : (s.heap.update p f).get? p = some { cls := .type "list", data := .seq its'.toArray n' } := by
    rw [Heap.get?_update_self f ho (by rw [hf] <;> rfl), hf]
  refine I.write (x := p) (e := p) (by rw [h]; trivial) (.inl rfl) (fun b u hb q => (Heap.get?_update_other _ _ (Ne.symm hb)).trans q) ⟨_, e⟩ ?_
  exact ⟨hz, its', n', r, e⟩
noncomputable def kb5 : V -> V -> V -> Hp -> (Hp -> Prop) -> Prop := fun o i v H Q => ∃ p xs k j, o = .ref p /\ i = .int k /\ H p = some (.lst xs) /\ ixN xs.length k = some j /\ Q (upd H p (.lst (xs.set j v)))
theorem wi6 : wx7 X kb5 := by
  intro pins s σ H o i v ov iv u Q I ro ri rv h
  obtain ⟨p, xs, k, j, rfl, rfl, hp, hj, q⟩ := h
  cases ro
  obtain ⟨t, rfl⟩ := ri
  obtain ⟨its, n, r, ho, hz⟩ := I.lst hp
  obtain ⟨h1, h2, h3, h4⟩ := ys8 hj
  have hl := r.length
  have hn := yh3
  have I' : Inv X pins σ (upd H p (.lst (xs.set j v))) { s with heap := s.heap.update p (Obj.mapSeq (·.setIfInBounds j u)) } :=
    I.lstUpd hp ho (xw7 its n j u) (r.set rv j) (by rw [List.length_set]; exact hz) s.toks
  by_cases h0 : 0 <= k
  . have hk : k.toNat = j := by
      rw [seqIndex_of h0 h4] at h1
      exact Option.some.inj h1
    exact PySem.W.ki_setAt ho h0 (by omega) (by rw [List.size_toArray, <- hl]; exact h4) (by rw [hk]; exact ⟨_, I', q⟩)
  . have hk : (k + (its.toArray.size : Int)).toNat = j := by
      rw [seqIndex_neg (by omega) h3] at h1
      rw [List.size_toArray, <- hl]
      exact Option.some.inj h1
    exact PySem.W.ki_setBack ho (by omega) (by rw [List.size_toArray, <- hl]; exact h3) (by omega) (by rw [hk]; exact ⟨_, I', q⟩)
theorem xm0 (lo hi : Option Int) (n : Nat) : (sliceBounds lo hi none n).1 = ((HT.sIx n 0 lo : Nat) : Int) /\ (sliceBounds lo hi none n).2.1 = ((HT.sIx n n hi : Nat) : Int) /\ (sliceBounds lo hi none n).2.2 = 1 := by
  refine ⟨?_, ?_, rfl⟩
  . cases lo with
    | none => simp [sliceBounds, HT.sIx]
    | some i =>
      simp only [sliceBounds, HT.sIx, Option.getD_none, show (1 : Int) > 0 by decide, if_true]
      by_cases h : i < 0
      . simp only [h, if_true] <;> omega
      . simp only [h, if_false] <;> omega
  . cases hi with
    | none => simp [sliceBounds, HT.sIx]
    | some i =>
      simp only [sliceBounds, HT.sIx, Option.getD_none, show (1 : Int) > 0 by decide, if_true]
      by_cases h : i < 0
      . simp only [h, if_true] <;> omega
      . simp only [h, if_false] <;> omega
theorem xj6 (its : List Value) (lo hi : Option Int) : slicePick its.toArray lo hi none = ((its.drop (HT.sIx its.length 0 lo)).take (HT.sIx its.length its.length hi - HT.sIx its.length 0 lo)).toArray := by
  obtain ⟨h1, h2, h3⟩ := xm0 lo hi its.toArray.size
  unfold slicePick
  rw [h1, h2, h3]
  simp only [sliceRange_one, pick_run, List.size_toArray] <;> rfl
noncomputable def kf1 (K : PySem.W.Frag) : V -> Option Int -> Option Int -> Hp -> VK -> Prop := fun x lo hi H Q => ∃ a xs, x = .ref a /\ SqL K H a xs /\ ∀ p, H p = none -> Q (.ref p) (upd H p (.lst (xg5 xs lo hi)))
theorem wp3 : SlR X (kf1 X.K) := by
  intro pins s σ H x v vl vu lo hi sl Q I rx hs pl pu h
  obtain ⟨a, xs, rfl, hx, q⟩ := h
  cases rx
  obtain ⟨its, r, ht, hz⟩ := I.list hx
  have hlen := r.length
  refine ⟨"list", _, slot_list_getitem.lookup, ht.isList.typeIs, ?_⟩
  refine wpAny_getItem_list_slice ht.isList hs pl pu .none (by simp) ?_ (by rw [List.size_toArray] <;> omega)
  rw [xj6, <- hlen]
  refine ⟨.ref s.heap.objs.size, _, I.laid (t' := s.toks) (o := .lst (xg5 xs lo hi)) (fun b ob q => Heap.get?_push_of_some _ q) (Nat.le_refl _) ?_, rfl, q _ (I.hok.fresh (Nat.le_refl _))⟩
  exact ⟨Nat.le_trans (xr4 xs lo hi) hz, _, 0, (r.drop (HT.sIx xs.length 0 lo)).take (HT.sIx xs.length xs.length hi - HT.sIx xs.length 0 lo), Heap.get?_push_size _ rfl⟩
noncomputable def zw8 : V -> Bool
  | .non => true
  | .bl _ => true
  | .int _ => true
  | .str _ => true
  | _ => false
noncomputable def eqV : V -> V -> Bool
  | .non, .non => true
  | .bl a, .bl b => a == b
  | .bl a, .int b => (if a then 1 else 0) == b
  | .int a, .bl b => a == (if b then 1 else 0)
  | .int a, .int b => a == b
  | .str a, .str b => a == b
  | _, _ => false
theorem wu9 {A : Around} {s : Shared} {y x : V} {u v : Value} (ry : zh6 y u) (rx : zh6 x v) (fy : zw8 y = true) (fx : zw8 x = true) : SeqAt.EqAt A s u v (eqV y x) := by
  cases y with
  | non =>
    cases ry
    cases x with
    | non => cases rx; exact SeqAt.EqAt.same _
    | bl b => cases rx; exact SeqAt.EqAt.none_bool b
    | int b => obtain ⟨t, rfl⟩ := rx; exact SeqAt.EqAt.none_int b t
    | str b => obtain ⟨t, rfl⟩ := rx; exact SeqAt.EqAt.none_str b t
    | _ => exact absurd (show false = true from fx) Bool.false_ne_true
  | bl a =>
    cases ry
    cases x with
    | non => cases rx; exact SeqAt.EqAt.bool_none a
    | bl b => cases rx; exact SeqAt.EqAt.bool_bool a b
    | int b => obtain ⟨t, rfl⟩ := rx; exact SeqAt.EqAt.bool_int a b t
    | str b => obtain ⟨t, rfl⟩ := rx; exact SeqAt.EqAt.bool_str a b t
    | _ => exact absurd (show false = true from fx) Bool.false_ne_true
  | int a =>
    obtain ⟨t', rfl⟩ := ry
    cases x with
    | non => cases rx; exact SeqAt.EqAt.int_none a t'
    | bl b => cases rx; exact SeqAt.EqAt.int_bool a t' b
    | int b => obtain ⟨t, rfl⟩ := rx; exact SeqAt.EqAt.int_int a t' b t
    | str b => obtain ⟨t, rfl⟩ := rx; exact SeqAt.EqAt.int_str a t' b t
    | _ => exact absurd (show false = true from fx) Bool.false_ne_true
  | str a =>
    obtain ⟨t', rfl⟩ := ry
    cases x with
    | non => cases rx; exact SeqAt.EqAt.str_none a t'
    | bl b => cases rx; exact SeqAt.EqAt.str_bool a t' b
    | int b => obtain ⟨t, rfl⟩ := rx; exact SeqAt.EqAt.str_int a t' b t
    | str b => obtain ⟨t, rfl⟩ := rx; exact SeqAt.EqAt.str_str a t' b t
    | _ => exact absurd (show false = true from fx) Bool.false_ne_true
  | _ => exact absurd (show false = true from fy) Bool.false_ne_true
noncomputable def eqU (x : V) (u : Value) : Bool := match u with
  | .none => eqV .non x
  | .bool b => eqV (.bl b) x
  | .int i _ => eqV (.int i) x
  | .str z _ => eqV (.str z) x
  | _ => false
theorem wc0 {x y : V} {u : Value} (r : zh6 y u) (f : zw8 y = true) : eqU x u = eqV y x := by
  cases y with
  | non => cases r; rfl
  | bl b => cases r; rfl
  | int i => obtain ⟨t, rfl⟩ := r; rfl
  | str z => obtain ⟨t, rfl⟩ := r; rfl
  | _ => exact absurd (show false = true from f) Bool.false_ne_true
theorem xe1 {x : V} : ∀ {xs : List V} {us : List Value}, ze5 xs us -> xs.all zw8 = true -> us.any (eqU x) = xs.any fun y => eqV y x
  | _, _, .nil, _ => rfl
  | y :: xs, u :: us, .cons r t, f => by
    rw [List.all_cons, Bool.and_eq_true] at f
    rw [List.any_cons, List.any_cons, wc0 r f.1, xe1 t f.2]
theorem yv6 {A : Around} {s : Shared} {x : V} {v : Value} (rx : zh6 x v) (fx : zw8 x = true) : ∀ {xs : List V} {us : List Value}, ze5 xs us -> xs.all zw8 = true -> ∀ u ∈ us, SeqAt.EqAt A s u v (eqU x u)
  | _, _, .nil, _ => fun u hu => by cases hu
  | y :: xs, u :: us, .cons r t, f => fun u' hu => by
    rw [List.all_cons, Bool.and_eq_true] at f
    rcases List.mem_cons.mp hu with rfl | hu
    . rw [wc0 r f.1]; exact wu9 r rx f.1 fx
    . exact yv6 rx fx t f.2 u' hu
noncomputable def inV (x : V) (xs : List V) : Bool := xs.any fun y => eqV y x
noncomputable def rIn (K : PySem.W.Frag) (neg : Bool) : R2 := fun x y H Q => ∃ p xs, y = .ref p /\ (SqL K H p xs \/ SqT K H p xs) /\ zw8 x = true /\ xs.all zw8 = true /\ Q (.bl (if neg then !inV x xs else inV x xs)) H
theorem wc1 : OpR X (compareOp .In) (rIn X.K false) := by
  intro pins s σ H x y v u Q I rx ry h
  obtain ⟨p, xs, rfl, hq, fx, fs, q⟩ := h
  cases ry
  rcases hq with hq | hq
  . obtain ⟨its, r, pl, hz⟩ := I.list hq
    refine SeqAt.in_listAt (eqU x) pl.isList (fun w hw => yv6 rx fx r fs w (by simpa using hw)) ⟨.bl _, H, I, rfl, ?_⟩
    rw [show its.toArray.any (eqU x) = its.any (eqU x) by simp, xe1 r fs]
    exact q
  . obtain ⟨its, r, pl, hz⟩ := I.tuple hq
    refine SeqAt.in_tupleAt (eqU x) pl (fun w hw => yv6 rx fx r fs w (by simpa using hw)) ⟨.bl _, H, I, rfl, ?_⟩
    rw [show its.toArray.any (eqU x) = its.any (eqU x) by simp, xe1 r fs]
    exact q
theorem zu4 : zn9 X (.builtin "len") (fun xs H Q => ∃ p ys, xs = [.ref p] /\ (SqL X.K H p ys \/ SqT X.K H p ys) /\ Q (.int ys.length) H) := by
  intro pins s σ H xs us Q I r h
  obtain ⟨p, ys, rfl, hq, q⟩ := h
  obtain ⟨u, rfl, rx⟩ := yi8 r
  cases rx
  have hn := yh3
  rcases hq with hq | hq
  . obtain ⟨its, r', pl, hz⟩ := I.list hq
    have hlen := r'.length
    exact Calls.call_len_list pl.isList (by simp only [List.size_toArray] <;> omega) ⟨.int ys.length, H, I.tok _, ⟨s.toks + 1, by rw [List.size_toArray, hlen]⟩, q⟩
  . obtain ⟨its, r', pl, hz⟩ := I.tuple hq
    have hlen := r'.length
    exact len_tuple pl (by simp only [List.size_toArray] <;> omega) ⟨.int ys.length, H, I.tok _, ⟨s.toks + 1, by rw [List.size_toArray, hlen]⟩, q⟩
theorem xm1 : zn9 X (.builtin "len") (fun xs H Q => ∃ z, xs = [.str z] /\ z.length <= sizeLine /\ Q (.int z.length) H) := by
  intro pins s σ H xs us Q I r h
  obtain ⟨z, rfl, hz, q⟩ := h
  obtain ⟨u, rfl, t, rfl⟩ := yi8 r
  have hn := yh3
  exact len_str (by omega) ⟨.int z.length, H, I.tok _, ⟨_, rfl⟩, q⟩
theorem yp1 : zn9 X (.type "tuple") (fun xs H Q => ∃ p ys, xs = [.ref p] /\ ((SqL X.K H p ys /\ ∀ l, H l = none -> Q (.ref l) (upd H l (.tup ys))) \/ (SqT X.K H p ys /\ Q (.ref p) H))) := by
  intro pins s σ H xs us Q I r h
  obtain ⟨p, ys, rfl, h⟩ := h
  obtain ⟨u, rfl, rx⟩ := yi8 r
  cases rx
  rcases h with ⟨hq, q⟩ | ⟨hq, q⟩
  . obtain ⟨its, r', pl, hz⟩ := I.list hq
    have hlen := r'.length
    refine call_tuple_list pl.isList (fun h' kp => ?_) (by simp only [List.size_toArray] <;> omega)
    have I1 : Inv X pins σ H { s with heap := h' } := I.kept (t' := s.toks) kp
    have I2 : Inv X pins σ (upd H h'.objs.size (.tup ys)) { s with heap := h'.push { cls := .type "tuple", data := .seq its.toArray } } :=
      I1.laid (t' := s.toks) (fun b o e => Heap.get?_push_of_some _ e) (Nat.le_refl _) (show zs5 X.prog X.w _ _ _ (.tup ys) from ⟨hz, its, r', IsTup.new _ _⟩)
    exact ⟨.ref h'.objs.size, _, I2, rfl, q _ (I1.hok.fresh (Nat.le_refl _))⟩
  . obtain ⟨its, r', pl, hz⟩ := I.tuple hq
    exact call_tuple_same pl ⟨.ref p, H, I, rfl, q⟩
noncomputable def tyV (K : PySem.W.Frag) (T : String) (x : V) (H : Hp) : Prop := match x with
  | .str _ => T = "str"
  | .int _ => T = "int"
  | .ref p => (T = "list" /\ ∃ xs, SqL K H p xs) \/ (T = "tuple" /\ ∃ o, K.lookup p = some o /\ o.cls = .type "tuple" /\ o.dict = none) \/
      (T = "dict" /\ ((∃ kvs, H p = some (.dK kvs)) \/ ∃ kvs, H p = some (.dT kvs))) \/ (T = "set" /\ ∃ S n, H p = some (.set S n))
  | _ => False
theorem wc2 {pins : List (Addr × Obj)} {σ : St} {H : Hp} {s : Shared} {T : String} {x : V} {v : Value} (I : Inv X pins σ H s) (r : zh6 x v) (ty : tyV X.K T x H) :
    s.TypeIs v T /\ ∀ a, v = .ref a -> ∃ ob, s.heap.get? a = some ob /\ ob.dict = none := by
  cases x with
  | str z =>
    obtain ⟨t, rfl⟩ := r
    cases (show T = "str" from ty)
    exact ⟨typeIs_str s z t, fun _ e => nomatch e⟩
  | int i =>
    obtain ⟨t, rfl⟩ := r
    cases (show T = "int" from ty)
    exact ⟨typeIs_int s i t, fun _ e => nomatch e⟩
  | ref p =>
    cases r
    rcases ty with ⟨rfl, xs, hq⟩ | ⟨rfl, o, hk, hc, hd⟩ | ⟨rfl, hk⟩ | ⟨rfl, S, n, hk⟩
    . obtain ⟨its, _, pl, _⟩ := I.list hq
      refine ⟨pl.isList.typeIs, fun a e => ?_⟩
      cases e
      obtain ⟨o, n, e, c, hd, _⟩ := pl
      exact ⟨o, e, hd⟩
    . refine ⟨⟨o, I.kIn p o hk, hc⟩, fun a e => ?_⟩
      cases e
      exact ⟨o, I.kIn _ o hk, hd⟩
    . have z : ∃ o, s.heap.get? p = some o /\ o.ExactDict := by
        rcases hk with ⟨kvs, hk⟩ | ⟨kvs, hk⟩
        . obtain ⟨_, _, _, _, o, _, _, e, ex, _⟩ := I.hok p _ hk
          exact ⟨o, e, ex⟩
        . obtain ⟨_, _, _, _, o, _, _, e, ex, _⟩ := I.hok p _ hk
          exact ⟨o, e, ex⟩
      obtain ⟨o, e, ex⟩ := z
      refine ⟨⟨o, e, ex.1⟩, fun a e2 => ?_⟩
      cases e2
      exact ⟨o, e, ex.2.1⟩
    . obtain ⟨o, _, _, _, e, ex, _⟩ := I.hok p _ hk
      refine ⟨⟨o, e, ex.1⟩, fun a e2 => ?_⟩
      cases e2
      exact ⟨o, e, ex.2.1⟩
  | _ => exact False.elim ty
noncomputable def kf2 (K : PySem.W.Frag) (T : String) (r : V -> List V -> Hp -> VK -> Prop) (to : TE) : TE := fun σ H Q => to σ H fun x H1 => tyV K T x H1 /\ r x [] H1 Q
noncomputable def tBM (K : PySem.W.Frag) (T : String) (r : V -> List V -> Hp -> VK -> Prop) (to : TE) (t : TA) : TE := fun σ H Q => to σ H fun x H1 => tyV K T x H1 /\ t σ H1 fun xs H2 => r x xs H2 Q
variable {o e : Expr} {es : List Expr} {to : TE} {t : TA} {name : Str} {apos cpos : Pos} {T id : String} {r : V -> List V -> Hp -> VK -> Prop}
theorem wv0 (pa : PlainAttrs T) (slot : Slot T name id) (hty : typeOf (.builtin id) = pure (.type "method_descriptor")) (hm : MtR X id r) (ho : PE X o to)
    (hbase : attributeBase o name X.env (eval o X.env) = eval o X.env := by rfl) (hline : (apos.endLine == cpos.line) = true := by rfl) : PE X (.Call (.Attribute o name apos) [] [] cpos) (kf2 X.K T r to) := by
  intro pins s σ H Q I h
  refine wpAny_Call_method0_late hbase hline (thn (ho pins s σ H _ I h) fun v s1 ⟨x, H1, I1, r1, ty, q1⟩ => ?_)
  obtain ⟨h1, h2⟩ := wc2 I1 r1 ty
  exact ⟨T, id, pa, slot, hty, h1, h2, Calls.callWith_builtin rfl (PySem.evalArgs_none (hm pins s1 σ H1 x [] v [] Q I1 r1 .nil q1))⟩
theorem wn0 (pa : PlainAttrs T) (slot : Slot T name id) (hty : typeOf (.builtin id) = pure (.type "method_descriptor")) (hm : MtR X id r) (ho : PE X o to) (ha : PA X (e :: es) t)
    (hbase : attributeBase o name X.env (eval o X.env) = eval o X.env := by rfl)
    (hfew : ((backTo cpos (starEach (e :: es) X.env)).all (fun x => !x.1) && (backToKw cpos (keywordEach [] X.env)).all (fun x => x.1.isSome)
      && decide ((e :: es).length + ([] : List Keyword).length + (if ([] : List Keyword).isEmpty then 0 else 1) < 30)) = true := by rfl)
    (hline : (apos.endLine == cpos.line) = true := by rfl) (hs : starEach (e :: es) X.env = (false, eval e X.env) :: starEach es X.env := by rfl) (hplain : (backTo cpos (starEach es X.env)).any (·.1) = false := by rfl) :
    PE X (.Call (.Attribute o name apos) (e :: es) [] cpos) (tBM X.K T r to t) := by
  intro pins s σ H Q I h
  refine wpAny_Call_method_late hbase hfew hline rfl (thn (ho pins s σ H _ I h) fun v s1 ⟨x, H1, I1, r1, ty, q1⟩ => ?_)
  obtain ⟨h1, h2⟩ := wc2 I1 r1 ty
  refine ⟨T, id, pa, slot, hty, h1, h2, ?_⟩
  have hA := ha cpos pins s1 σ H1 _ I1 q1
  rw [hs] at hA |-
  refine Calls.callWith_builtin (by show (false || (backTo cpos (starEach es X.env)).any (·.1)) = false; rw [hplain] <;> rfl) (Calls.evalArgs_plain ?_)
  exact thn hA fun us s2 ⟨vs, H2, I2, r2, q2⟩ => hm pins s2 σ H2 x vs v us Q I2 r1 r2 q2
end
end L2
namespace L2
open PySem PySem.Spec PyProof.Rows
noncomputable def MtM (X : Cx) (id : String) (r : V -> List V -> Hp -> VK -> Prop) : Prop :=
  ∀ (pins : List (Addr × Obj)) (s : Shared) (σ : St) (H : Hp) (x : V) (xs : List V) (v : Value) (us : List Value) (Q : VK), Inv X pins σ H s -> zh6 x v -> ze5 xs us -> r x xs H Q ->
    wpAny (model X.prog X.w) X.A (call (.builtin id) (v :: us)) (EP X pins σ Q) X.xe s
theorem ze5.one : ∀ {x : V} {us : List Value}, ze5 [x] us -> ∃ u, us = [u] /\ zh6 x u
  | _, _, .cons r .nil => ⟨_, rfl, r⟩
theorem ze5.zero : ∀ {us : List Value}, ze5 [] us -> us = []
  | _, .nil => rfl
theorem ze5.dropLast {xs : List V} {us : List Value} (h : ze5 xs us) : ze5 xs.dropLast us.dropLast := by
  induction h with
  | nil => exact .nil
  | cons r t ih =>
    cases t with
    | nil => exact .nil
    | cons q t' => exact .cons r ih
theorem ze5.rep {xs : List V} {us : List Value} (h : ze5 xs us) : ∀ k : Nat, ze5 (List.replicate k xs).flatten (List.replicate k us).flatten
  | 0 => .nil
  | k + 1 => by
    rw [List.replicate_succ, List.replicate_succ, List.flatten_cons, List.flatten_cons]
    exact ze5.append h (ze5.rep h k)
theorem xw8 {α : Type} (l : List α) : l.eraseIdx (l.length - 1) = l.dropLast := by
  induction l with
  | nil => rfl
  | cons a r ih =>
    cases r with
    | nil => rfl
    | cons b r =>
      have e : (a :: b :: r).length - 1 = ((b :: r).length - 1) + 1 := by
        have h1 : (a :: b :: r).length = r.length + 2 := rfl
        have h2 : (b :: r).length = r.length + 1 := rfl
        omega
      rw [e, List.eraseIdx_cons_succ, ih]
      all_goals rfl
section
variable {X : Cx} {pins : List (Addr × Obj)} {σ : St} {H : Hp} {s : Shared} {l b : Addr} {xs ys zs : List V}
theorem Inv.lset {its its' : List Value} {n : Nat} {f : Array Value -> Array Value} {t' : Nat} (I : Inv X pins σ H s) (hH : H l = some (.lst xs))
    (e : s.heap.get? l = some { cls := .type "list", data := .seq its.toArray n }) (hf : f its.toArray = its'.toArray) (hv : ze5 ys its') (hz : ys.length <= sizeLine) :
    Inv X pins σ (upd H l (.lst ys)) { s with heap := s.heap.update l (Obj.mapSeq f), toks := t' } := by
  have q := PySem.IsL.update e f
  rw [hf] at q
  refine I.write (x := l) (e := l) (by rw [hH]; exact trivial) (.inl rfl) (fun b' u hb hu => (Heap.get?_update_other s.heap (Obj.mapSeq f) (Ne.symm hb)).trans hu) ⟨_, q⟩ ?_
  exact ⟨hz, its', _, hv, q⟩
theorem Inv.lnew {its : List Value} {t' : Nat} (I : Inv X pins σ H s) (hv : ze5 ys its) (hz : ys.length <= sizeLine) :
    Inv X pins σ (upd H s.heap.objs.size (.lst ys)) { s with heap := s.heap.push { cls := .type "list", data := .seq its.toArray }, toks := t' } :=
  I.laid (fun _ _ q => Heap.get?_push_of_some _ q) (Nat.le_refl _) ⟨hz, its, 0, hv, Heap.get?_push_size _ rfl⟩
theorem Inv.fresh (I : Inv X pins σ H s) : H s.heap.objs.size = none := I.hok.fresh (Nat.le_refl _)
theorem Inv.lstM (I : Inv X pins σ H s) (hH : H l = some (.lst xs)) : xs.length <= sizeLine /\ ∃ (its : List Value) (n : Nat), ze5 xs its /\ xs.length = its.length /\ s.heap.get? l = some { cls := .type "list", data := .seq its.toArray n } := by
  obtain ⟨z, its, n, r, e⟩ := I.hok l _ hH
  exact ⟨z, its, n, r, r.length, e⟩
end
section
variable {X : Cx}
noncomputable def ws5 : V -> List V -> Hp -> VK -> Prop := fun x vs H Q => ∃ l xs y, x = .ref l /\ vs = [y] /\ H l = some (.lst xs) /\ xs.length < sizeLine /\ Q .non (upd H l (.lst (xs ++ [y])))
theorem xh5 : MtM X "list.append" ws5 := by
  intro pins s σ H x vs v us Q I rx rv h
  obtain ⟨l, xs, y, rfl, rfl, hH, hz, q⟩ := h
  cases rx
  obtain ⟨u, rfl, ru⟩ := rv.one
  obtain ⟨z, its, n, r, hl, e⟩ := I.lstM hH
  refine call_meets F.slot_list_append ⟨_, e, rfl⟩ F.entry_list_append (F.args_list_append_2 _ _) (PySem.list_append l its.toArray n u (by rw [List.size_toArray]; omega)) ⟨e, ?_⟩
  refine ⟨.non, _, I.lset (its' := its ++ [u]) hH e (by simp) (r.append (.cons ru .nil)) ?_, rfl, q⟩
  rw [List.length_append, List.length_singleton]
  omega
noncomputable def kf3 : V -> List V -> Hp -> VK -> Prop := fun x vs H Q => ∃ l xs y, x = .ref l /\ vs = [] /\ H l = some (.lst xs) /\ xs[xs.length - 1]? = some y /\ Q y (upd H l (.lst xs.dropLast))
theorem wv1 : MtM X "list.pop" kf3 := by
  intro pins s σ H x vs v us Q I rx rv h
  obtain ⟨l, xs, y, rfl, rfl, hH, hy, q⟩ := h
  cases rx
  have hus := rv.zero
  subst hus
  obtain ⟨z, its, n, r, hl, e⟩ := I.lstM hH
  obtain ⟨u, hu, ru⟩ := r.get hy
  have hy' : its.toArray[its.toArray.size - 1]? = some u := by
    show its.toArray[its.length - 1]? = some u
    rw [<- Array.getElem?_toList, <- hl]
    exact hu
  refine call_meets F.slot_list_pop ⟨_, e, rfl⟩ F.entry_list_pop (F.args_list_pop_1 _) (MeetsSeq.list_pop_last l its.toArray n u hy' (by rw [List.size_toArray]; omega)) ⟨e, ?_⟩
  refine ⟨y, _, I.lset (its' := its.dropLast) hH e ?_ r.dropLast ?_, ru, q⟩
  . show its.toArray.eraseIdxIfInBounds (its.toArray.size - 1) = its.dropLast.toArray
    rw [List.size_toArray, List.eraseIdxIfInBounds_toArray, xw8]
  . rw [List.length_dropLast]
    omega
end
end L2
namespace Att
open PySem PySem.W PySem.Calls PyProof.Rows
theorem yy7 {P : Params} {h : Heap} : ∀ (ns : List Int) (vs : List Value), WellAll P h vs (ns.map WData.int) -> IntsAre vs ns := by
  intro ns
  induction ns with
  | nil =>
    intro vs w
    rw [List.map_nil] at w
    cases w
    exact .nil
  | cons n ns ih =>
    intro vs w
    rw [List.map_cons] at w
    cases w with
    | cons a b =>
      cases a
      exact .cons _ _ (ih _ b)
theorem wc3 {l : OpenLaw} {n : Nat} (hn : l.most = some n) {P : Params} {h : Heap} {args : List WData} {vals : List Value}
    (hpre : l.row.toRowW.claim.pre args = true) (hwl : WellAll P h vals args) :
    ∃ a vs ns, vals = [Value.ref a] /\ args = [WData.list (ns.map WData.int)] /\ h.get? a = some { cls := .type "list", data := .seq vs.toArray } /\ IntsAre vs ns /\ ns.length <= n := by
  have hsh : WShape.hasAll [] args [.list .int] = true := (pre_splitW hpre).1
  have hc : l.pre.holds [] { args := args } = true := (pre_splitW hpre).2
  obtain ⟨d, r, rfl, h1, h2⟩ := hasAllW_cons hsh
  obtain rfl := hasAllW_nil h2
  obtain ⟨xs, rfl, h3⟩ := hasW_list h1
  obtain ⟨ns, rfl⟩ := items_int h3
  have hlen : ns.length <= n := by
    unfold OpenLaw.pre at hc
    have h4 : (WTm.not (.lt (.lit (.int (n : Int))) (.len (.arg 0)))).holds [] { args := [.list (ns.map .int)] } = true := by
      have h4 := (holds_andW hc).1
      rw [hn] at h4
      exact h4
    have h5 := condW_of h4 (w_not (w_lt w_lit (w_len_list (w_arg rfl))))
    rw [List.length_map] at h5
    refine Nat.le_of_not_lt fun q => ?_
    have q' : (n : Int) < ((ns.length : Nat) : Int) := by omega
    first
      | (rw [decide_eq_true q'] at h5; exact absurd h5 (by decide))
      | (simp at h5; omega)
  cases hwl with
  | cons w1 w2 =>
    cases w2
    cases w1 with
    | list ho hall => exact ⟨_, _, ns, rfl, rfl, ho, yy7 ns _ hall, hlen⟩
theorem wc4 (l : OpenLaw) (args : List WData) : l.row.toRowW.claim.post args (.bool true) args = true :=
  postW_of (r := l.row.toRowW) (X := (true == true))
    (show WShape.has [] (.bool true) .bool = true by first | rfl | decide | simp [WShape.has, WShape.arms, WShape.armsAll])
    (show (WTm.eq .res (.lit (.bool true))).value [] { args := args, res := some (.bool true), after := args } = some (.bool (true == true)) from w_eq_bool (w_res rfl) w_lit) rfl
theorem attach_call {l : OpenLaw} {n : Nat} {q : Program} {loose : List Str} {XP : (Str -> Option Value) -> Heap -> Prop} {YP : World -> Heap -> Prop} {d : DefRec}
    (hn : l.most = some n) (hdf : d.params.defaults = [])
    (call : ∀ (w : World) (s₀ s₁ : Shared) (mg mb : Str -> Option Value) (fa : Addr) (o : Obj) (pm cd doc : Value) (a : Addr) (vs : List Value) (ns : List Int),
      Ground q loose [] XP w s₀ mg mb s₁.heap -> YP w s₁.heap ->
      s₁.heap.get? fa = some o -> o.data = .func (docDef d.name d.params d.body d.scope pm cd doc) -> s₁.heap.CodeRec cd d.name -> mg d.name = some (.ref fa) ->
      s₁.heap.get? a = some { cls := .type "list", data := .seq vs.toArray } -> IntsAre vs ns -> ns.length <= n -> s₁.gens = #[] ->
      codeAny (model l.prog w) callerA (.call (.ref fa) ⟨[.ref a], []⟩) (fun r s' => r = .ok (.ret (.bool true)) /\ OldK s₁.heap s'.heap /\ s'.os = s₁.os /\ AllBare s'.gens) s₁) :
    WalkO q loose XP YP l.row.toRowW d [] (fun f vs => PySem.call f vs) := by
  intro w s₀ s₁ mg mb G Y fa o pm cd doc dV kV ho hd hcd hD hmg hg args vals as hpre hlay hrd hwl hlo
  obtain rfl : dV = .none := Dflts.none hD hdf
  obtain rfl : kV = .none := Dflts.noKw hD
  obtain ⟨a, vs, ns, rfl, rfl, hobj, hints, hlen⟩ := wc3 hn hpre hwl
  refine enter_call (codeAny_mono (call w s₀ s₁ mg mb fa o pm cd doc a vs ns G Y ho (fd_plain hd) hcd hmg hobj hints hlen hg) fun r s' hq => ?_)
  obtain ⟨rfl, h2, h3, h4⟩ := hq
  exact ⟨.inl ⟨.bool true, .bool true, [], rfl, fun _ => rfl, .bool true, wc4 l _, fun _ => ⟨List.Pairwise.nil, fun _ hm => (nomatch hm)⟩⟩, h2, h3, h4⟩
end Att
namespace L2
open PySem PySem.Spec PyProof.Rows
theorem xh6 : ∀ {vs : List Value} {ns : List Int}, IntsAre vs ns -> ze5 (ns.map V.int) vs
  | _, _, .nil => .nil
  | _, _, .cons n t h => .cons ⟨t, rfl⟩ (xh6 h)
noncomputable def wm5 (H : Hp) : Prop := ∀ b, H b = none \/ ∃ o xs, H b = some (.frz o (.lst xs))
theorem wi7 {P : Program} {w : World} {K : PySem.W.Frag} {mg mb : Str -> Option Value} {CX : CXT} {k : Nat} {fa a : Addr} {fd : FuncData} {x : Str} {sp : Sp} {s₁ : Shared} {vs : List Value} {ns : List Int}
    (KX : K.In s₁.heap) (hns : s₁.heap.Ns mainGlobals mg) (hb : s₁.heap.Ns builtinsNs mb) (hbb : ∀ x : Str, x ≠ "__name__" -> mb x = bootBuiltins x) (hlim : s₁.heap.NoLimit) (hg : s₁.gens = #[])
    (ha : s₁.heap.get? a = some { cls := .type "list", data := .seq vs.toArray }) (hi : IntsAre vs ns) (hl : ns.length <= sizeLine) (hr : Room k callerA)
    (F : ∀ base : Heap, K.In base -> base.Ns mainGlobals mg -> FnOk P w K mg base CX k fa fd [x] sp) (hbind : ∀ (s : Shared) (u : Value), BindsTo s fd ⟨[u], []⟩ [(x, u)])
    (hsp : ∀ H : Hp, wm5 H -> SqL K H a (ns.map V.int) -> sp [.ref a] H (fun v _ => v = .bl true) fun _ _ _ => False)
    (hCX : ∀ H e s', CX [] H s₁ (fun _ _ _ => False) e s' -> False) :
    codeAny (model P w) callerA (.call (.ref fa) ⟨[.ref a], []⟩) (fun r s' => r = .ok (.ret (.bool true)) /\ OldK s₁.heap s'.heap /\ s'.os = s₁.os /\ AllBare s'.gens) s₁ := by
  have rv := xh6 hi
  have lenV := hi.length
  have core : ∀ H : Hp, wm5 H -> SqL K H a (ns.map V.int) -> HOk P w H s₁.heap -> (∀ b, H b ≠ none -> b = a) -> (H a ≠ none -> K.lookup a = none) ->
      codeAny (model P w) callerA (.call (.ref fa) ⟨[.ref a], []⟩) (fun r s' => r = .ok (.ret (.bool true)) /\ OldK s₁.heap s'.heap /\ s'.os = s₁.os /\ AllBare s'.gens) s₁ := by
    intro H hO hS hok hA hK
    have base_of : ∀ {b : Addr} {o : Obj}, s₁.heap.get? b = some o -> H b = none -> (yn8 s₁.heap H).get? b = some o := fun e n => wh3 e n
    have noA : ∀ {b : Addr} {o : Obj} {es : Array DictEntry} {ep : Nat}, s₁.heap.get? b = some o -> o.data = .dict es ep -> H b = none := fun {b o es ep} e d => by
      cases q : H b with
      | none => rfl
      | some u =>
        have e' : b = a := hA b (by rw [q]; simp)
        subst e'
        rw [ha] at e; cases e
        have d' : Data.seq vs.toArray _ = Data.dict es ep := d
        cases d'
    have nsK : ∀ {b : Addr} {m : Str -> Option Value}, s₁.heap.Ns b m -> (yn8 s₁.heap H).Ns b m := fun {b m} ⟨o, es, ep, e, d, r⟩ => ⟨o, es, ep, base_of e (noA e d), d, r⟩
    have hKb : K.In (yn8 s₁.heap H) := fun b o e => base_of (KX b o e) (by
      cases q : H b with
      | none => rfl
      | some u =>
        have e' : b = a := hA b (by rw [q]; simp)
        subst e'
        rw [hK (by rw [q]; simp)] at e; cases e)
    have hM : Mod K mg (yn8 s₁.heap H) := ⟨hKb, nsK hns, ⟨mb, nsK hb, hbb⟩, let ⟨mc, h1, h2⟩ := hlim; ⟨mc, nsK h1, h2⟩⟩
    have e0 : Env0 P w K mg (yn8 s₁.heap H) callerA [] s₁ H := ⟨rfl, hM, fun b o e => wo3 e, Nat.le_of_eq (wa2 _ _), trivial, fun b hb => absurd (show b ∈ ([] : List Addr) from hb) (by simp), hok, .of_eq hg⟩
    refine codeAny_mono ((F _ hKb (nsK hns)).run callerA [] s₁ H ⟨[.ref a], []⟩ [.ref a] [.ref a] _ _ hr e0 (hbind s₁ (.ref a)) (.cons rfl .nil) (hsp H hO hS)) fun r s' h => ?_
    cases r with
    | error e => exact (hCX H e s' h).elim
    | ok fl =>
      cases fl with
      | next => exact False.elim h
      | brk => exact False.elim h
      | cont => exact False.elim h
      | ret u =>
        obtain ⟨v, H', os, bare, un, hok', r', q⟩ := h
        have q' : v = .bl true := q
        subst q'
        obtain rfl : u = Value.bool true := r'
        refine ⟨rfl, OldK.of_keep fun b o e => ?_, os, bare⟩
        cases q : H b with
        | none => exact un.keep b o e q (by intro z; exact absurd (show b ∈ ([] : List Addr) from z) (by simp)) (by simp)
        | some u =>
          rcases hO b with z | ⟨ob, xs, z⟩
          . rw [q] at z; cases z
          . have z2 := un.frzs b ob _ z
            obtain ⟨e1, _⟩ := hok b _ z
            obtain ⟨e2, _⟩ := hok' b _ z2
            rw [e] at e1; cases e1
            exact e2
  cases hk : K.lookup a with
  | some o =>
    have e := KX a o hk
    rw [ha] at e
    cases e
    refine core (fun _ => none) (fun _ => .inl rfl) (.inr ⟨_, vs.toArray, _, hk, rfl, rfl, rfl, by rw [List.size_toArray, lenV]; exact hl, by simpa using rv⟩) (fun b u z => by have z' : (none : Option HO) = some u := z; cases z') (fun b z => absurd rfl z) fun z => absurd rfl z
  | none =>
    refine core (fun b => if b = a then some (.frz { cls := .type "list", data := .seq vs.toArray } (.lst (ns.map V.int))) else none) (fun b => ?_) (.inl (.inr ⟨{ cls := .type "list", data := .seq vs.toArray }, if_pos rfl⟩)) (fun b u z => ?_) (fun b z => ?_) fun _ => hk
    . by_cases hb : b = a
      . exact .inr ⟨_, _, if_pos hb⟩
      . exact .inl (if_neg hb)
    . by_cases hb : b = a
      . have z' := (if_pos hb).symm.trans z
        cases z'
        subst hb
        exact ⟨ha, by rw [List.length_map]; exact hl, vs, _, rv, ha⟩
      . have z' := (if_neg hb).symm.trans z
        cases z'
    . by_cases hb : b = a
      . exact hb
      . exact absurd (if_neg hb) z
end L2
namespace L2
open PySem PySem.Spec PyProof.Rows
theorem wp4 {l : PySem.W.OpenLaw} {n k : Nat} {q : Program} {loose : List Str} {XP : (Str -> Option Value) -> Heap -> Prop} {YP : World -> Heap -> Prop} {d : DefRec} {K : Params -> PySem.W.Frag} {CX : World -> CXT} {sp : World -> Sp} {x : Str}
    (hn : l.most = some n) (hn2 : n <= sizeLine) (hdf : d.params.defaults = []) (hr : Room k callerA)
    (hY : ∀ (w : World) (h : Heap), YP w h -> (K w.params).In h)
    (F : ∀ (w : World) (mg : Str -> Option Value) (fa : Addr) (h : Heap), (K w.params).In h -> h.Ns mainGlobals mg -> mg d.name = some (.ref fa) ->
      ∃ fd : FuncData, (∀ (s : Shared) (u : Value), BindsTo s fd ⟨[u], []⟩ [(x, u)]) /\
        ∀ base : Heap, (K w.params).In base -> base.Ns mainGlobals mg -> FnOk l.prog w (K w.params) mg base (CX w) k fa fd [x] (sp w))
    (hsp : ∀ (w : World) (H : Hp) (a : Addr) (ns : List Int), ns.length <= n -> wm5 H -> SqL (K w.params) H a (ns.map V.int) -> sp w [.ref a] H (fun v _ => v = .bl true) fun _ _ _ => False)
    (hCX : ∀ (w : World) (H : Hp) (s : Shared) (e : Value) (s' : Shared), CX w [] H s (fun _ _ _ => False) e s' -> False) :
    PySem.W.WalkO q loose XP YP l.row.toRowW d [] (fun f vs => PySem.call f vs) := by
  refine Att.attach_call hn hdf fun w s₀ s₁ mg mb fa o pm cd doc a vs ns G Y ho hd hcd hmg hobj hints hlen hg => ?_
  have KX := hY w _ Y
  obtain ⟨fd, hb, hF⟩ := F w mg fa _ KX G.T.g hmg
  exact wi7 KX G.T.g G.T.b G.T.builtins G.T.nolimit hg hobj hints (Nat.le_trans hlen hn2) hr hF hb (fun H hO hS => hsp w H a ns hlen hO hS) fun H e s' => hCX w H s₁ e s'
end L2
namespace L2
open PySem PySem.Spec PyProof.Rows
noncomputable def ye2 (s : Stmt) (j : Nat) : Stmt := match s with
  | .ClassDef _ _ _ body _ _ _ _ _ _ _ => body.getD j (.Pass ⟨0, 0, 0, 0⟩)
  | _ => .Pass ⟨0, 0, 0, 0⟩
noncomputable def zg2 (s : Stmt) : Arguments := match s with
  | .FunctionDef _ a _ _ _ _ _ _ _ _ => a
  | _ => { posonlyargs := [], args := [], vararg := none, kwonlyargs := [], kw_defaults := [], kwarg := none, defaults := [] }
noncomputable def ze7 (s : Stmt) : List Stmt := match s with
  | .FunctionDef _ _ b _ _ _ _ _ _ _ => b
  | _ => []
noncomputable def zb4 (s : Stmt) : Scope := match s with
  | .FunctionDef _ _ _ _ _ _ sc _ _ _ => sc
  | _ => { kind := .function, names := [], isGenerator := false, isCoroutine := false }
noncomputable abbrev CX0 : CXT := fun _ _ _ _ _ _ => False
noncomputable abbrev E0 : XK := fun _ _ _ => False
theorem yy8 {X : Cx} : yf2 CX0 X E0 := fun _ _ _ _ _ _ _ h => h.elim
structure Fun (K : PySem.W.Frag) (x qual : Str) (st : Stmt) (f : Addr) (fd : FuncData) : Prop where
  ex : ∃ (oc : Value) (od : Option Addr) (kV doc pm : Value) (an : Option Addr) (cdv ct : Value) (osl : Array (Option Value)),
    fd = PySem.W.fnOf x qual (zg2 st) (ze7 st) (zb4 st) .none kV doc pm an cdv ct /\ K.lookup f = some ⟨oc, od, .func fd, osl⟩ /\ PySem.W.codeIn K cdv qual = true
  kp : PySem.W.keepIn K (.ref f) = true
section
variable {P : Program} {w : World} {K : PySem.W.Frag} {mg : Str -> Option Value} {base : Heap}
theorem Fun.ok {x qual : Str} {st : Stmt} {f : Addr} {fd : FuncData} {N ps : List Str} {k : Nat} {sp : Sp} (F : Fun K x qual st f fd) (S : FnScope N ps (zb4 st)) (len : ∀ vs H Q E, sp vs H Q E -> vs.length = ps.length)
    (hbody : ∀ (cdv : Value) (A : Around) (outer : List Env) (s : Shared) (H : Hp) (vs : List V) (Q : VK) (E : XK), Room k (A.deeper (envOfC qual (zb4 st) s.heap.objs.size f cdv)) -> sp vs H Q E ->
      ∃ t, PSs (yk5 CX0 P w K mg base N qual (zb4 st) f cdv A outer s H E).nox (ze7 st) t /\ t { nx := fun _ H' => Q .non H', rt := Q } (start N vs) H) : FnOk P w K mg base CX0 (k + 1) f fd ps sp := by
  obtain ⟨oc, od, kV, doc, pm, an, cdv, ct, osl, rfl, lk, hcd⟩ := F.ex
  refine wz8 lk hcd S len fun A outer s H vs Q E hr hsp => ?_
  obtain ⟨t, h, q⟩ := hbody cdv A outer s H vs Q E hr hsp
  exact ⟨t, h.nox, q⟩
theorem Fun.binds {x qual : Str} {st : Stmt} {f : Addr} {fd : FuncData} {ps : List Str} (F : Fun K x qual st f fd)
    (h : ∀ (kV doc pm : Value) (an : Option Addr) (cdv ct : Value) (us : List Value), us.length = ps.length -> bindArgs (PySem.W.fnOf x qual (zg2 st) (ze7 st) (zb4 st) .none kV doc pm an cdv ct) ⟨us, []⟩ = pure (ps.zip us)) : zz2 K fd ps [] := by
  obtain ⟨oc, od, kV, doc, pm, an, cdv, ct, osl, rfl, lk, hcd⟩ := F.ex
  exact .all (h kV doc pm an cdv ct)
theorem zq3 {x qual : Str} {st : Stmt} {f : Addr} {oc : Value} {od an : Option Addr} {osl : Array (Option Value)} {kV doc pm cdv ct : Value} (l : K.lookup f = some ⟨oc, od, .func (PySem.W.fnOf x qual (zg2 st) (ze7 st) (zb4 st) .none kV doc pm an cdv ct), osl⟩)
    (c : PySem.W.codeIn K cdv qual = true) (k : PySem.W.keepIn K (.ref f) = true) : Fun K x qual st f (PySem.W.fnOf x qual (zg2 st) (ze7 st) (zb4 st) .none kV doc pm an cdv ct) := ⟨⟨oc, od, kV, doc, pm, an, cdv, ct, osl, rfl, l, c⟩, k⟩
end
theorem xh7 {n : Nat} (h : n <= 1000) : n < sizeLine := Nat.lt_of_le_of_lt h (by decide)
section
variable {X : Cx}
theorem pv (i : Nat) {x : Str} {pos : Pos} (hN : X.N[i]? = some x := by rfl) (hv : Vis X.env.scope x := by first | exact Or.inl rfl | exact Or.inr (Or.inl rfl) | exact Or.inr (Or.inr rfl)) (hd : (x == ("__debug__" : Str)) = false := by decide)
    (hcd : (x == ("__classdict__" : Str)) = false := by decide) : PE X (.Name x pos) (wx5 i) := yk9 hN hv hd hcd
end
theorem kc1 {c A B : Prop} [Decidable c] (h1 : c -> A) (h2 : ¬ c -> B) : if c then A else B := by
  by_cases h : c
  . rw [if_pos h]
    exact h1 h
  . rw [if_neg h]
    exact h2 h
noncomputable def yf9 (H H' : Hp) : Prop := ∀ b o, H b = some o -> H' b = some o
theorem yf9.refl (H : Hp) : yf9 H H := fun _ _ h => h
theorem yf9.trans {H H1 H2 : Hp} (a : yf9 H H1) (b : yf9 H1 H2) : yf9 H H2 := fun c o h => b c o (a c o h)
theorem yf9.free {H H' : Hp} (e : yf9 H H') {l : Addr} (h : H' l = Option.none) : H l = Option.none := by
  cases q : H l with
  | none => rfl
  | some o =>
    rw [e l o q] at h
    cases h
theorem yf9.seq {K : PySem.W.Frag} {H H' : Hp} {a : Addr} {xs : List V} (e : yf9 H H') (h : SqL K H a xs) : SqL K H' a xs := by
  rcases h with (h | ⟨o, h⟩) | h
  . exact .inl (.inl (e _ _ h))
  . exact .inl (.inr ⟨o, e _ _ h⟩)
  . exact .inr h
end L2
namespace L2
open PySem PySem.Spec PyProof.Rows
structure M1 (X : Cx) (o : Expr) (m : Str) (apos : Pos) (e : Expr) (cpos : Pos) : Prop where
  base : attributeBase o m X.env (eval o X.env) = eval o X.env
  few : ((backTo cpos (starEach [e] X.env)).all (fun x => !x.1) && (backToKw cpos (keywordEach [] X.env)).all (fun x => x.1.isSome)
    && decide (([e] : List Expr).length + ([] : List Keyword).length + (if ([] : List Keyword).isEmpty then 0 else 1) < 30)) = true
  line : (apos.endLine == cpos.line) = true
  trees : backTo cpos (starEach [e] X.env) = [(false, eval e X.env)]
structure M2 (X : Cx) (o : Expr) (m : Str) (apos : Pos) (e f : Expr) (cpos : Pos) : Prop where
  base : attributeBase o m X.env (eval o X.env) = eval o X.env
  few : ((backTo cpos (starEach [e, f] X.env)).all (fun x => !x.1) && (backToKw cpos (keywordEach [] X.env)).all (fun x => x.1.isSome)
    && decide (([e, f] : List Expr).length + ([] : List Keyword).length + (if ([] : List Keyword).isEmpty then 0 else 1) < 30)) = true
  line : (apos.endLine == cpos.line) = true
  trees : backTo cpos (starEach [e, f] X.env) = [(false, eval e X.env), (false, eval f X.env)]
end L2
namespace L2
open PySem PySem.Spec PyProof.Rows
structure Dn (K : PySem.W.Frag) (mg : Str -> Option Value) (x : Str) (st : Stmt) (ps : List Str) (f : Addr) (fd : FuncData) : Prop where
  F : Fun K x x st f fd
  b : zz2 K fd ps []
  m : mg x = some (.ref f)
section
variable {X : Cx} {x : Str} {st : Stmt} {ps : List Str} {f : Addr} {fd : FuncData} {k : Nat} {sp : Sp} {p pos : Pos} {e : Expr} {es : List Expr} {t : TA}
theorem xw9 (D : Dn X.K X.mg x st ps f fd) (G : FnOk X.prog X.w X.K X.mg X.base CX0 k f fd ps sp) (hr : Room k X.A) (hg : Gl X x) (ha : PA X (e :: es) t)
    (hdb : (x == ("__debug__" : Str)) = false := by decide) (he : starEach (e :: es) X.env = (false, eval e X.env) :: starEach es X.env := by rfl) (hpl : (backTo pos (starEach es X.env)).any (·.1) = false := by rfl) :
    PE X (.Call (.Name x p) (e :: es) [] pos) (xl1 sp [] E0 t) := wo8 G hr hg D.m D.F.kp D.b .nil yy8 ha hdb he hpl
theorem wv2 (D : Dn X.K X.mg x st ps f fd) (G : FnOk X.prog X.w X.K X.mg X.base CX0 k f fd ps sp) (hr : Room k X.A) (hg : Gl X x)
    (hdb : (x == ("__debug__" : Str)) = false := by decide) : PE X (.Call (.Name x p) [] [] pos) (xl1 sp [] E0 xz6) := wi0 G hr hg D.m D.F.kp D.b .nil yy8 hdb
end
theorem wi8 {H : Hp} {p : Addr} (h : H p = none) (o : HO) : yf9 H (upd H p o) := fun b u q => by rw [zg5 (zy6 q h)]; exact q
theorem xk2 {n : Nat} (h : n <= 1000) : n <= sizeLine := Nat.le_of_lt (xh7 h)
end L2
namespace L2
open PySem PySem.Spec PyProof.Rows
theorem ym5 {env : Env} : ∀ (names : List (Str × NameKind)) (cs : List (Str × Addr)),
    (∀ y ∈ names, y.2 = .free -> ∃ c, env.cells.lookup y.1 = some c) -> (∀ x c, cs.lookup x = some c -> env.cells.lookup x = some c) ->
    ∃ cl, (forIn names cs fun (y : Str × NameKind) (r : List (Str × Addr)) =>
        (if (y.2 == .free) = true then (do let a <- cellOf env y.1; pure (ForInStep.yield ((y.1, a) :: r))) else pure (ForInStep.yield r) : Sem (ForInStep (List (Str × Addr))))) = pure cl /\
      (∀ x c, cl.lookup x = some c -> env.cells.lookup x = some c) /\ (∀ x c, cs.lookup x = some c -> ∃ c', cl.lookup x = some c') /\ (∀ y ∈ names, y.2 = .free -> ∃ c, cl.lookup y.1 = some c)
  | [], cs, _, hc => ⟨cs, rfl, hc, fun x c h => ⟨c, h⟩, fun y hy => absurd hy (List.not_mem_nil)⟩
  | (n, k) :: r, cs, hn, hc => by
    have hr : ∀ y ∈ r, y.2 = .free -> ∃ c, env.cells.lookup y.1 = some c := fun y hy => hn y (List.mem_cons_of_mem _ hy)
    by_cases hk : k = .free
    . subst hk
      obtain ⟨c, e⟩ := hn (n, .free) List.mem_cons_self rfl
      have hc' : ∀ x c', ((n, c) :: cs).lookup x = some c' -> env.cells.lookup x = some c' := fun x c' h => by
        rw [List.lookup_cons] at h
        cases hx : x == n with
        | true =>
          rw [hx] at h
          have e1 : x = n := by simpa using hx
          have e2 : c = c' := Option.some.inj h
          rw [e1, <- e2]; exact e
        | false => rw [hx] at h; exact hc x c' h
      obtain ⟨cl, h1, h2, h3, h4⟩ := ym5 (env := env) r ((n, c) :: cs) hr hc'
      refine ⟨cl, ?_, h2, fun x c' h => ?_, fun y hy hf => ?_⟩
      . rw [List.forIn_cons]
        have e0 : cellOf env n = pure c := by unfold cellOf; rw [e]
        simp only [e0]
        exact h1
      . cases hx : x == n with
        | true =>
          have e1 : x = n := by simpa using hx
          exact h3 x c (by rw [List.lookup_cons, hx])
        | false => exact h3 x c' (by rw [List.lookup_cons, hx]; exact h)
      . rcases List.mem_cons.mp hy with e1 | hy
        . rw [e1]; exact h3 n c (by rw [List.lookup_cons]; simp)
        . exact h4 y hy hf
    . obtain ⟨cl, h1, h2, h3, h4⟩ := ym5 (env := env) r cs hr hc
      refine ⟨cl, ?_, h2, h3, fun y hy hf => ?_⟩
      . rw [List.forIn_cons]
        have e0 : (k == NameKind.free) = false := by simpa using hk
        simp only [e0]
        exact h1
      . rcases List.mem_cons.mp hy with e1 | hy
        . rw [e1] at hf; exact absurd hf hk
        . exact h4 y hy hf
theorem yy9 {env : Env} {scope : Scope} (h : ∀ y ∈ scope.names, y.2 = .free -> ∃ c, env.cells.lookup y.1 = some c) :
    ∃ cl, closureFor scope env = pure cl /\ (∀ x c, cl.lookup x = some c -> env.cells.lookup x = some c) /\ (∀ y ∈ scope.names, y.2 = .free -> ∃ c, cl.lookup y.1 = some c) := by
  obtain ⟨cl, h1, h2, _, h4⟩ := ym5 (env := env) scope.names [] h (fun x c e => by simp at e)
  refine ⟨cl, ?_, h2, h4⟩
  have e : ((forIn scope.names [] fun (y : Str × NameKind) (r : List (Str × Addr)) =>
        (if (y.2 == .free) = true then (do let a <- cellOf env y.1; pure (ForInStep.yield ((y.1, a) :: r))) else pure (ForInStep.yield r) : Sem (ForInStep (List (Str × Addr))))) >>= fun s => pure s) = pure cl := by rw [h1]; rfl
  exact e
structure CScope (sc : Scope) (NX N : List Str) (pick : List (Option Nat)) (scope : Scope) : Prop where
  kind : scope.kind = .function
  nocell : ∀ y ∈ scope.names, y.2 ≠ .cell
  names : ∀ y ∈ scope.names, y.2 = .local -> scope.names.lookup y.1 = some .local
  frees : ∀ y ∈ scope.names, y.2 = .free -> sc.names.lookup y.1 = some .cell \/ sc.names.lookup y.1 = some .free
  pk : ∀ p ∈ N.zip pick, ∀ j ∈ p.2, NX[j]? = some p.1 /\ scope.names.lookup p.1 = some .free
  nd : N.Nodup
  len : pick.length = N.length
noncomputable def yg0 (pick : List (Option Nat)) (σ : St) : St := pick.map fun o => o.bind fun j => (σ[j]?).join
noncomputable def cxB (X : Cx) (N : List Str) (scope : Scope) (cl : List (Str × Addr)) (fp : List Addr) (s : Shared) (H : Hp) : Cx where
  prog := X.prog
  w := X.w
  K := X.K
  mg := X.mg
  base := X.base
  A := X.A
  N := N
  s₀ := s
  H₀ := H
  env := compEnvC scope cl s.heap.objs.size X.env
  outer := X.stack
  stack := X.stack
  ex := fp
  fn := fun _ => false
  calm := X.calm
  pn := []
  xe := fun _ _ => False
noncomputable def PTs (X : Cx) (ifs : List Expr) (t : TT) : Prop :=
  ∀ (pins : List (Addr × Obj)) (s : Shared) (σ : St) (H : Hp) (Q : Bool -> Hp -> Prop), Inv X pins σ H s -> t σ H Q ->
    wpAny (model X.prog X.w) X.A (forIn ifs true fun c r => if r = true then do let ok <- isTrue c X.env (eval c X.env); pure (ForInStep.yield ok) else pure (ForInStep.yield r)) (TP X pins σ Q) X.xe s
noncomputable def kf4 : TT := fun _ H Q => Q true H
theorem wv3 {X : Cx} : PTs X [] kf4 := fun pins s σ H Q I h => wpAny_tests_nil ⟨H, I, h⟩
section
variable {prog : Program} {w : World} {A : Around} {R : Result -> Shared -> Prop} {s : Shared}
theorem wc5 {elt target iter : Expr} {ifs : List Expr} {scope : Scope} {pos : Pos} {it acc : Value} {env : Env} (I : Nat -> Shared -> Prop)
    (turn : ∀ n s, I n s -> wpAny (model prog w) A (pyNext it) (fun r s1 => match r with
      | none => R (.ok .next) s1
      | some v => wpAny (model prog w) A (letOwnedTupleGo target it v) (fun _ s1 => wpAny (model prog w) A (assign target env v) (fun _ s2 =>
          wpAny (model prog w) A (forIn ifs true fun c r => if r = true then do let ok <- isTrue c env (eval c env); pure (ForInStep.yield ok) else pure (ForInStep.yield r)) (fun ok s3 =>
            if ok = true then wpAny (model prog w) A (eval elt env) (fun x s4 =>
              wpAny (model prog w) A (call (.builtin "list.append") [acc, x]) (fun _ s5 => ∃ m, m < n /\ I m s5) (fun _ _ => False) s4) (fun _ _ => False) s3
            else ∃ m, m < n /\ I m s3) (fun _ _ => False) s2) (fun _ _ => False) s1) (fun _ _ => False) s1) (fun _ _ => False) s)
    (n : Nat) (h : I n s) : codeAny (model prog w) A (.compLoop (.ListComp elt [⟨target, iter, ifs, 0⟩] scope pos) 0 it acc env) R s := by
  refine codeAny_loop rfl I (fun n s hI => ?_) n h
  show wpAny _ A ((compTurn (.ListComp elt [⟨target, iter, ifs, 0⟩] scope pos) 0 it acc env).onRaise (fun x => do noteFrame x env; theTreesLotGoes x)) _ _ s
  refine wpAny_noted ?_
  rw [compTurn_list]
  refine wpAny_bind (wpAny_standAt (wpAny_bind (wpAny_mono (turn n s hI) (fun r s1 h1 => ?_) fun _ _ z => z.elim)))
  cases r with
  | none => exact wpAny_pure h1
  | some v =>
    refine wpAny_bind (wpAny_mono h1 (fun _ s1 h1 => wpAny_bind (wpAny_mono h1 (fun _ s2 h2 => wpAny_bind (wpAny_mono h2 (fun ok s3 h3 => ?_) fun _ _ z => z.elim)) fun _ _ z => z.elim)) fun _ _ z => z.elim)
    cases ok with
    | false => exact wpAny_pure ⟨rfl, h3⟩
    | true =>
      exact wpAny_bind (wpAny_bind (wpAny_mono h3 (fun x s4 h4 => wpAny_bind (wpAny_mono h4 (fun _ s5 h5 => wpAny_pure (wpAny_pure ⟨rfl, h5⟩)) fun _ _ z => z.elim)) fun _ _ z => z.elim))
end
noncomputable def wh1 (pick : List (Option Nat)) (wi : TI) (g : TG) (tt : TT) (te : TE) (σ : St) (H : Hp) (Q : Addr -> Hp -> Prop) : Prop := wi σ H fun J H1 => ∀ D, H1 D = none ->
  ∃ W : Nat -> Nat -> St -> Hp -> Prop, (∃ m, W 0 m (yg0 pick σ) (upd H1 D (.lst []))) /\ ∀ i m σ' H', W i m σ' H' ->
    (J.stop i H' /\ Q D H') \/ (J.go i H' /\ ∀ x H2, J.yld i H' x H2 -> g x σ' H2 fun σ3 H3 => tt σ3 H3 fun b H4 =>
      if b = true then te σ3 H4 fun y H5 => ∃ ys, H5 D = some (.lst ys) /\ ys.length < sizeLine /\ ∃ m', m' < m /\ W (i + 1) m' σ3 (upd H5 D (.lst (ys ++ [y]))) else ∃ m', m' < m /\ W (i + 1) m' σ3 H4)
noncomputable def kb6 (pick : List (Option Nat)) (wi : TI) (g : TG) (tt : TT) (te : TE) : TE := fun σ H Q => wh1 pick wi g tt te σ H fun D H' => Q (.ref D) H'
section
variable {X : Cx} {sc : Scope} {NX N : List Str} {pick : List (Option Nat)} {elt tg iter : Expr} {ifs : List Expr} {scope : Scope} {pos : Pos} {wi : TI} {g : TG} {tt : TT} {te : TE}
theorem zs2 {env : Env} : ∀ {names : List (Str × NameKind)} {x : Str} {k : NameKind}, (∀ y ∈ names, y.2 ≠ .cell) ->
    (names.map fun (n, k) => if (k == NameKind.free && env.scope.kind == .function && env.kindOf n == some .cell) then (n, NameKind.cell) else (n, k)).lookup x = some k -> (k = .cell \/ k = .free) -> (x, NameKind.free) ∈ names
  | [], _, _, _, h, _ => by simp at h
  | (n, k0) :: r, x, k, hn, h, hk => by
    have hr : ∀ y ∈ r, y.2 ≠ .cell := fun y hy => hn y (List.mem_cons_of_mem _ hy)
    have h' : List.lookup x ((if (k0 == NameKind.free && env.scope.kind == .function && env.kindOf n == some .cell) = true then (n, NameKind.cell) else (n, k0)) :: (r.map fun (n, k) => if (k == NameKind.free && env.scope.kind == .function && env.kindOf n == some .cell) then (n, NameKind.cell) else (n, k))) = some k := h
    by_cases hc : (k0 == NameKind.free && env.scope.kind == .function && env.kindOf n == some .cell) = true
    . rw [if_pos hc, List.lookup_cons] at h'
      cases hx : x == n with
      | true =>
        have e1 : x = n := by simpa using hx
        have e2 : k0 = .free := by
          simp only [Bool.and_eq_true, beq_iff_eq] at hc
          exact hc.1.1
        rw [e1, e2]; exact List.mem_cons_self
      | false => rw [hx] at h'; exact List.mem_cons_of_mem _ (zs2 hr h' hk)
    . rw [if_neg hc, List.lookup_cons] at h'
      cases hx : x == n with
      | true =>
        rw [hx] at h'
        have e1 : x = n := by simpa using hx
        have e2 : k0 = k := Option.some.inj h'
        have e3 : k0 = .free := by
          rcases hk with z | z
          . exact absurd (e2.trans z) (hn (n, k0) List.mem_cons_self)
          . exact e2.trans z
        rw [e1, e3]; exact List.mem_cons_self
      | false => rw [hx] at h'; exact List.mem_cons_of_mem _ (zs2 hr h' hk)
theorem yi9 {env : Env} : ∀ {names : List (Str × NameKind)} {x : Str}, names.lookup x = some .free ->
    (names.map fun (n, k) => if (k == NameKind.free && env.scope.kind == .function && env.kindOf n == some .cell) then (n, NameKind.cell) else (n, k)).lookup x = some .cell \/
    (names.map fun (n, k) => if (k == NameKind.free && env.scope.kind == .function && env.kindOf n == some .cell) then (n, NameKind.cell) else (n, k)).lookup x = some .free
  | [], _, h => by simp at h
  | (n, k0) :: r, x, h => by
    have ih := @yi9 env r x
    show List.lookup x ((if (k0 == NameKind.free && env.scope.kind == .function && env.kindOf n == some .cell) = true then (n, NameKind.cell) else (n, k0)) :: _) = _ \/ List.lookup x ((if (k0 == NameKind.free && env.scope.kind == .function && env.kindOf n == some .cell) = true then (n, NameKind.cell) else (n, k0)) :: _) = _
    rw [List.lookup_cons] at h
    cases hx : x == n with
    | true =>
      rw [hx] at h
      have e : k0 = .free := Option.some.inj h
      subst e
      by_cases hc : (NameKind.free == NameKind.free && env.scope.kind == .function && env.kindOf n == some .cell) = true
      . rw [if_pos hc]; left; rw [List.lookup_cons, hx]
      . rw [if_neg hc]; right; rw [List.lookup_cons, hx]
    | false =>
      rw [hx] at h
      rcases ih h with z | z
      . left
        by_cases hc : (k0 == NameKind.free && env.scope.kind == .function && env.kindOf n == some .cell) = true
        . rw [if_pos hc, List.lookup_cons, hx]; exact z
        . rw [if_neg hc, List.lookup_cons, hx]; exact z
      . right
        by_cases hc : (k0 == NameKind.free && env.scope.kind == .function && env.kindOf n == some .cell) = true
        . rw [if_pos hc, List.lookup_cons, hx]; exact z
        . rw [if_neg hc, List.lookup_cons, hx]; exact z
theorem wc6 {pins : List (Addr × Obj)} {σ : St} {H : Hp} {s : Shared} {cl : List (Str × Addr)} {fp : List Addr} {h' : Heap} {tk : Nat} (S : CScope sc NX N pick scope) (hsc : X.env.scope = sc) (hNX : X.N = NX)
    (I : Inv X pins σ H s) (hf : ∀ b ∈ fp, yi0 X pins H b) (ho : ∀ b ∈ fp, ∃ o, s.heap.get? b = some o)
    (c1 : ∀ x c, cl.lookup x = some c -> X.env.cells.lookup x = some c) (c2 : ∀ y ∈ scope.names, y.2 = .free -> ∃ c, cl.lookup y.1 = some c)
    (hns : h'.Ns s.heap.objs.size fun _ => none) (hk : ∀ b o, s.heap.get? b = some o -> h'.get? b = some o) :
    Inv (cxB X N scope cl fp s H) [] (yg0 pick σ) H { s with heap := h', toks := tk } := by
  have lt : ∀ b ∈ fp, b < s.heap.objs.size := fun b hb => by obtain ⟨o, e⟩ := ho b hb; exact Heap.lt_size e
  refine ⟨⟨I.ok.mod, S.kind, I.ok.glob, I.ok.blt, Nat.le_refl _, fun x y c h1 h2 => I.ok.inj x y c (c1 x c h1) (c1 y c h2), fun x hx => ?_, fun x c z => absurd z (by simp [cxB]), I.ok.hd, I.ok.frames, .inl rfl,
    fun b hb => ⟨Nat.ne_of_lt (lt b hb), fun x c e => (hf b hb).2.2.2.2.1 x c (c1 x c e)⟩, I.bs, Nat.le_trans I.ok.bsz I.sz, fun b o e hb => ?_, fun b hb z => ?_, I.stack, I.stkFree⟩,
    rfl, I.bare, Un.kept hk, ⟨_, hns, fun i x v h1 h2 h3 => ?_⟩, fun x c e => ?_, I.hok.fresh (Nat.le_refl _), fun x c e => I.freeC x c (c1 x c e), fun p hp => absurd (show p ∈ ([] : List (Addr × Obj)) from hp) (by simp), I.hok.kept hk, ?_⟩
  . have hx' : (relabel scope X.env).names.lookup x = some .cell \/ (relabel scope X.env).names.lookup x = some .free := hx
    have hm : (x, NameKind.free) ∈ scope.names := by
      rcases hx' with z | z
      . exact zs2 S.nocell z (.inl rfl)
      . exact zs2 S.nocell z (.inr rfl)
    exact c2 _ hm rfl
  . rcases (hf b hb).2.2.2.1 with z | z
    . exact I.ok.noex b o e z
    . exact absurd (Nat.lt_of_lt_of_le (Heap.lt_size e) (Nat.le_trans I.ok.bsz z)) (Nat.lt_irrefl _)
  . rcases List.mem_cons.mp (I.stkSub b z) with z | z
    . exact (hf b hb).2.1 z
    . exact (hf b hb).2.2.1 z
  ·
    have hN' : N[i]? = some x := h1
    have h2' : (yg0 pick σ)[i]? = some (some v) := h2
    unfold yg0 at h2'
    rw [List.getElem?_map] at h2'
    cases ep : pick[i]? with
    | none => rw [ep] at h2'; cases h2'
    | some o =>
      rw [ep] at h2'
      cases o with
      | none => cases h2'
      | some j =>
        have h4 : (σ[j]?).join = some v := Option.some.inj h2'
        have h5 : σ[j]? = some (some v) := by
          cases e : σ[j]? with
          | none => rw [e] at h4; cases h4
          | some q => rw [e] at h4; exact congrArg some h4
        have hz : (x, some j) ∈ N.zip pick := by
          refine List.mem_of_getElem? (i := i) ?_
          rw [List.getElem?_zip_eq_some]; exact ⟨hN', ep⟩
        obtain ⟨h6, h7⟩ := S.pk _ hz j rfl
        have hfr : (x, NameKind.free) ∈ scope.names := PySem.mem_of_lookup h7
        have hcf := S.frees _ hfr rfl
        have hcf' : X.env.kindOf x = some .cell \/ X.env.kindOf x = some .free := by
          show X.env.scope.names.lookup x = _ \/ X.env.scope.names.lookup x = _
          rw [hsc]; exact hcf
        obtain ⟨m, hn, hl⟩ := I.loc
        obtain ⟨u, ru, lk⟩ := hl j x v (by rw [hNX]; exact h6) h5 (.inr hcf')
        refine ⟨u, ru, .inr ⟨yi9 h7, ?_⟩⟩
        obtain ⟨c, ec⟩ := c2 _ hfr rfl
        refine ⟨c, ec, ?_⟩
        rcases lk with ⟨k1, _⟩ | ⟨_, c', ec', hcell⟩
        . rcases hcf' with z | z
          . rw [k1] at z; cases z
          . rw [k1] at z; cases z
        . have e' := c1 x c ec
          rw [ec'] at e'
          cases e'
          obtain ⟨o, e1, e2⟩ := hcell
          exact ⟨o, hk _ _ e1, e2⟩
  . obtain ⟨v, o, e1, e2⟩ := I.cell x c (c1 x c e)
    exact ⟨v, o, hk _ _ e1, e2⟩
  . show (yg0 pick σ).length = N.length
    unfold yg0
    rw [List.length_map]; exact S.len
theorem xx0 {pins : List (Addr × Obj)} {σ σ' : St} {H H' : Hp} {s s' : Shared} {cl : List (Str × Addr)} {fp : List Addr} (I : Inv X pins σ H s) (hf : ∀ b ∈ fp, yi0 X pins H b)
    (J : Inv (cxB X N scope cl fp s H) [] σ' H' s') : Inv X pins σ H' s' :=
  I.call' (ch := fp) J.os J.base J.hok J.bare fun b hb => ⟨(hf b hb).2.2.2.1, (hf b hb).2.1, (hf b hb).2.2.2.2.1, (hf b hb).2.2.2.2.2⟩
theorem yz0 {pins : List (Addr × Obj)} {σ : St} {H2 : Hp} {s2 : Shared} {cl : List (Str × Addr)} {J : It} {fp : List Addr} {it : Addr} {tn : Nat -> Heap -> Prop} {RR : Value -> Addr -> Result -> Shared -> Prop} {E : Value -> Shared -> Prop} {Q : Addr -> Hp -> Prop}
    (S : CScope sc NX N pick scope) (hsc : X.env.scope = sc) (hNX : X.N = NX) (hc : X.calm = true)
    (hg : ∀ cl fp s H, PG (cxB X N scope cl fp s H) tg g) (ht : ∀ cl fp s H, PTs (cxB X N scope cl fp s H) ifs tt) (he : ∀ cl fp s H, PE (cxB X N scope cl fp s H) elt te)
    (I2 : Inv X pins σ H2 s2) (T : Turn X.prog X.w X.K tg J fp it tn) (st2 : tn 0 s2.heap) (f2 : ∀ b ∈ fp, yi0 X pins H2 b)
    (c1 : ∀ x c, cl.lookup x = some c -> X.env.cells.lookup x = some c) (c2 : ∀ y ∈ scope.names, y.2 = .free -> ∃ c, cl.lookup y.1 = some c)
    (q : ∀ D, H2 D = none -> ∃ W : Nat -> Nat -> St -> Hp -> Prop, (∃ m, W 0 m (yg0 pick σ) (upd H2 D (.lst []))) /\ ∀ i m σ' H', W i m σ' H' ->
      (J.stop i H' /\ Q D H') \/ (J.go i H' /\ ∀ x H2, J.yld i H' x H2 -> g x σ' H2 fun σ3 H3 => tt σ3 H3 fun b H4 =>
        if b = true then te σ3 H4 fun y H5 => ∃ ys, H5 D = some (.lst ys) /\ ys.length < sizeLine /\ ∃ m', m' < m /\ W (i + 1) m' σ3 (upd H5 D (.lst (ys ++ [y]))) else ∃ m', m' < m /\ W (i + 1) m' σ3 H4))
    (fin : ∀ D C H' s', Inv X pins σ H' s' -> H' C = none -> X.s₀.heap.objs.size <= C -> C ≠ X.env.locals -> (∀ x c, X.env.cells.lookup x = some c -> c ≠ C) -> (∀ p ∈ X.pn ++ pins, p.1 ≠ C) -> (∃ m, s'.heap.Ns C m) -> Q D H' -> RR (.ref D) C (.ok .next) s') :
    wpAny (model X.prog X.w) X.A (newList []) (fun acc s3 => wpAny (model X.prog X.w) X.A (newFunctionEnv scope X.env.globals cl [] X.env.qual none .none (some X.env)) (fun cenv s4 =>
      codeAny (model X.prog X.w) X.A (.compStart (.ListComp elt [⟨tg, iter, ifs, 0⟩] scope pos) 0 (.ref it) acc { cenv with scope := relabel scope X.env }) (RR acc cenv.locals) s4) E s3) E s2 := by
  have hD : H2 s2.heap.objs.size = none := I2.hok.fresh (Nat.le_refl _)
  obtain ⟨W, ⟨m0, w0⟩, turn⟩ := q _ hD
  refine wpAny_newObj_type (wpAny_newFunctionEnv S.nocell (by intro y hy; simp at hy) (fun h1 hns hsb => ?_) S.kind)
  have I3 : Inv X pins σ (upd H2 s2.heap.objs.size (.lst [])) { s2 with heap := s2.heap.push { cls := .type "list", dict := none, data := .seq ([] : List Value).toArray } } :=
    I2.lnew (t' := s2.toks) (its := []) (ys := []) .nil (Nat.zero_le _)
  have ne : ∀ b ∈ fp, b ≠ s2.heap.objs.size := fun b hb z => by
    obtain ⟨o, e, _⟩ := T.obj _ _ st2 b hb
    exact absurd (Heap.lt_size e) (by rw [z]; exact Nat.lt_irrefl _)
  have f3 : ∀ b ∈ fp, yi0 X pins (upd H2 s2.heap.objs.size (.lst [])) b := fun b hb => ⟨by rw [zg5 (ne b hb)]; exact (f2 b hb).1, (f2 b hb).2⟩
  have ho3 : ∀ b ∈ fp, ∀ o, s2.heap.get? b = some o -> (s2.heap.push { cls := .type "list", dict := none, data := .seq ([] : List Value).toArray }).get? b = some o := fun b _ o e => Heap.get?_push_of_some _ e
  have st3 := T.keep _ _ _ st2 ho3
  generalize hH3 : s2.heap.push { cls := .type "list", dict := none, data := .seq ([] : List Value).toArray } = H3 at hns hsb I3 ho3 st3 |-
  dsimp only at hns hsb |-
  have hk : ∀ b o, H3.get? b = some o -> h1.get? b = some o := fun b o e => hsb.extBut b o (Nat.ne_of_lt (Heap.lt_size e)) (Heap.get?_push_of_some _ e)
  have B0 : Inv (cxB X N scope cl fp { s2 with heap := H3 } (upd H2 s2.heap.objs.size (.lst []))) [] (yg0 pick σ) (upd H2 s2.heap.objs.size (.lst [])) { s2 with heap := h1, toks := s2.toks + ([] : List (Str × Value)).length } :=
    wc6 (s := { s2 with heap := H3 }) S hsc hNX I3 f3 (fun b hb => by obtain ⟨o, e, _⟩ := T.obj _ _ st3 b hb; exact ⟨o, e⟩) c1 c2 hns hk
  have st4 : tn 0 h1 := T.keep _ _ _ st3 fun b _ o e => hk b o e
  have fpY : ∀ {H' : Hp}, (∀ b ∈ fp, H' b = none) -> ∀ b ∈ fp, yi0 (cxB X N scope cl fp { s2 with heap := H3 } (upd H2 s2.heap.objs.size (.lst []))) [] H' b := fun hn b hb =>
    ⟨hn b hb, (B0.ok.exf b hb).1, B0.ok.exfs b hb, .inl hb, (B0.ok.exf b hb).2, fun p hp => absurd (show p ∈ ([] : List (Addr × Obj)) from hp) (by simp)⟩
  have loop : ∀ s4 : Shared, s4 = { s2 with heap := h1, toks := s2.toks + ([] : List (Str × Value)).length } ->
      codeAny (model X.prog X.w) X.A (.compLoop (.ListComp elt [⟨tg, iter, ifs, 0⟩] scope pos) 0 (.ref it) (.ref s2.heap.objs.size) (compEnvC scope cl H3.objs.size X.env)) (RR (.ref s2.heap.objs.size) H3.objs.size) s4 := by
    rintro s4 rfl
    refine wc5 (fun n s' => ∃ i σ' H', Inv (cxB X N scope cl fp { s2 with heap := H3 } (upd H2 s2.heap.objs.size (.lst []))) [] σ' H' s' /\ tn i s'.heap /\ (∀ b ∈ fp, H' b = none) /\ W i n σ' H') ?_ m0
      ⟨0, _, _, B0, st4, fun b hb => (f3 b hb).1, w0⟩
    rintro n s5 ⟨i, σ5, H5, I5, st5, fr5, w5⟩
    rcases turn i n σ5 H5 w5 with ⟨stop, qn⟩ | ⟨go, step⟩
    . refine thn (T.done (cxB X N scope cl fp { s2 with heap := H3 } (upd H2 s2.heap.objs.size (.lst []))) rfl rfl rfl hc i [] s5 σ5 H5 _ I5 (fpY fr5) st5 stop) fun r s6 ⟨hr, I6⟩ => ?_
      subst hr
      obtain ⟨m, hm, _⟩ := I6.loc
      have sz : X.s₀.heap.objs.size <= H3.objs.size := I3.sz
      refine fin _ _ H5 s6 (xx0 I3 f3 I6) I6.free sz (Nat.ne_of_gt I3.lt) (fun x c e z => ?_) (fun p hp z => ?_) ⟨m, hm⟩ qn
      . obtain ⟨v, z2⟩ := I3.cell x c e
        exact absurd z2.lt (by rw [z]; exact Nat.lt_irrefl _)
      . exact absurd (Heap.lt_size (I3.pin p hp).1) (by rw [z]; exact Nat.lt_irrefl _)
    . refine thn (T.item (cxB X N scope cl fp { s2 with heap := H3 } (upd H2 s2.heap.objs.size (.lst []))) rfl rfl rfl hc i [] s5 σ5 H5 _ I5 (fpY fr5) st5 go) fun r s6 ⟨u, hr, h6⟩ => ?_
      subst hr
      refine thn h6 fun _ s7 ⟨x, H7, I7, r7, y7, st7, fr7⟩ => ?_
      have I7' := I7.pinned (fpY fr7) (T.obj _ _ st7)
      have back : ∀ {σ8 : St} {H8 : Hp} {s8 : Shared}, Inv (cxB X N scope cl fp { s2 with heap := H3 } (upd H2 s2.heap.objs.size (.lst []))) ([] ++ ym2 fp s7.heap) σ8 H8 s8 ->
          tn (i + 1) s8.heap /\ ∀ b ∈ fp, H8 b = none := fun {σ8 H8 s8} I8 => by
        refine ⟨T.keep _ _ _ st7 fun b hb o e => (I8.pin (b, o) (List.mem_append_right _ (List.mem_append_right _ (yg6 hb e)))).1, fun b hb => ?_⟩
        obtain ⟨o, e, d⟩ := T.obj _ _ st7 b hb
        exact (I8.pin (b, o) (List.mem_append_right _ (List.mem_append_right _ (yg6 hb e)))).2.1
      refine thn (hg _ _ _ _ _ s7 σ5 H7 x u _ I7' r7 (step x H7 y7)) fun _ s8 ⟨σ8, H8, I8, q8⟩ => ?_
      refine thn (ht _ _ _ _ _ s8 σ8 H8 _ I8 q8) fun ok s9 ⟨H9, I9, q9⟩ => ?_
      cases ok with
      | false =>
        rw [if_neg (by decide)] at q9 |-
        obtain ⟨m', hm, w9⟩ := q9
        obtain ⟨b1, b2⟩ := back I9
        exact ⟨m', hm, i + 1, σ8, H9, I9.unpinned, b1, b2, w9⟩
      | true =>
        rw [if_pos rfl] at q9 |-
        refine thn (he _ _ _ _ _ s9 σ8 H9 _ I9 q9) fun v s10 ⟨y, H10, I10, ry, ys, hys, hlen, m', hm, w10⟩ => ?_
        have ap := xh5 (X := cxB X N scope cl fp { s2 with heap := H3 } (upd H2 s2.heap.objs.size (.lst []))) ([] ++ ym2 fp s7.heap) s10 σ8 H10 (.ref s2.heap.objs.size) [y] (.ref s2.heap.objs.size) [v]
          (fun z H' => z = .non /\ H' = upd H10 s2.heap.objs.size (.lst (ys ++ [y]))) I10 rfl (.cons ry .nil) ⟨_, ys, y, rfl, rfl, hys, hlen, rfl, rfl⟩
        refine thn ap fun z s11 ⟨z', H11, I11, _, _, e11⟩ => ?_
        subst e11
        obtain ⟨b1, b2⟩ := back I11
        exact ⟨m', hm, i + 1, σ8, _, I11.unpinned, b1, b2, w10⟩
  exact codeAny_compStart_list (loop _ rfl) (T.self _ _ _ _ _ st4 (loop _ rfl))
theorem wp5 (S : CScope sc NX N pick scope) (hsc : X.env.scope = sc) (hNX : X.N = NX) (hc : X.calm = true) (hi : PI X tg iter wi)
    (hg : ∀ cl fp s H, PG (cxB X N scope cl fp s H) tg g) (ht : ∀ cl fp s H, PTs (cxB X N scope cl fp s H) ifs tt) (he : ∀ cl fp s H, PE (cxB X N scope cl fp s H) elt te)
    (hs : ∀ x, foldedSetIterable iter X.env x = pure x := by intro _; rfl) : PE X (.ListComp elt [⟨tg, iter, ifs, 0⟩] scope pos) (kb6 pick wi g tt te) := by
  intro pins s σ H Q I h
  rw [eval_ListComp]
  have hfr : ∀ y ∈ scope.names, y.2 = .free -> ∃ c, X.env.cells.lookup y.1 = some c := fun y hy hf => I.ok.has y.1 (by
    show X.env.scope.names.lookup y.1 = _ \/ X.env.scope.names.lookup y.1 = _
    rw [hsc]; exact S.frees y hy hf)
  obtain ⟨cl, hcl, c1, c2⟩ := yy9 hfr
  refine wpAny_comprehension_free (use := none) rfl hs hcl S.kind S.names (thn (hi pins s σ H _ I h) fun v s1 h1 => thn h1 fun itv s2 h2 => ?_)
  obtain ⟨it, fp, tn, J, H2, e, I2, T, st2, f2, q⟩ := h2
  subst e
  refine yz0 (RR := fun acc C => compPost (model X.prog X.w) X.A X.xe none (EP X pins σ Q) acc C) (Q := fun D H' => Q (.ref D) H') S hsc hNX hc hg ht he I2 T st2 f2 c1 c2 q ?_
  intro D C H' s' I' n1 n2 n3 n4 n5 ⟨m, hm⟩ q'
  exact ⟨m, hm, fun h' hb => ⟨.ref D, H', I'.turned (t' := s'.toks) (it := C) (fun b o hbc e => (hb.2 b hbc).trans e) n1 n3 (.inr n2) n4 n5, rfl, q'⟩⟩
noncomputable def kb7 (i : Nat) (pick : List (Option Nat)) (wi : TI) (g : TG) (tt : TT) (te : TE) : TS := fun D σ H => wh1 pick wi g tt te σ H fun A H' => D.nx (σ.set i (some (.ref A))) H'
theorem wp6 {i : Nat} {y : Str} {py spos : Pos} (hN : X.N.Nodup) (hi' : X.N[i]? = some y) (hy : X.env.scope.names.lookup y = some .local)
    (hsw : swapsWith (.ListComp elt [⟨tg, iter, ifs, 0⟩] scope pos) (some (.Name y py)) spos.line X.env = pure true)
    (S : CScope sc NX N pick scope) (hsc : X.env.scope = sc) (hNX : X.N = NX) (hc : X.calm = true) (hi : PI X tg iter wi)
    (hg : ∀ cl fp s H, PG (cxB X N scope cl fp s H) tg g) (ht : ∀ cl fp s H, PTs (cxB X N scope cl fp s H) ifs tt) (he : ∀ cl fp s H, PE (cxB X N scope cl fp s H) elt te)
    (hs : ∀ x, foldedSetIterable iter X.env x = pure x := by intro _; rfl) : PS X (.Assign [.Name y py] (.ListComp elt [⟨tg, iter, ifs, 0⟩] scope pos) spos) (kb7 i pick wi g tt te) := by
  intro pins s σ H D I h
  have hfr : ∀ y ∈ scope.names, y.2 = .free -> ∃ c, X.env.cells.lookup y.1 = some c := fun y hy hf => I.ok.has y.1 (by
    show X.env.scope.names.lookup y.1 = _ \/ X.env.scope.names.lookup y.1 = _
    rw [hsc]; exact S.frees y hy hf)
  obtain ⟨cl, hcl, c1, c2⟩ := yy9 hfr
  rw [exec_Assign_Name_used _ _ _ _ hsw]
  refine wpAny_bind (wpAny_standAt (wpAny_bind ?_))
  show wpAny _ X.A (do let _ <- comprehension (.ListComp elt [⟨tg, iter, ifs, 0⟩] scope pos) scope X.env _ (newList []) false (eval iter X.env) (some (assign (.Name y py) X.env))) _ _ s
  refine wpAny_bind (wpAny_mono (wpAny_comprehension_free (use := some (assign (.Name y py) X.env)) (Q := fun _ s' => SP X pins D .next s') rfl hs hcl S.kind S.names
    (thn (hi pins s σ H _ I h) fun v s1 h1 => thn h1 fun itv s2 h2 => ?_)) (fun _ s' hq => wpAny_pure (wpAny_pure hq)) fun _ _ e => e)
  obtain ⟨it, fp, tn, J, H2, e, I2, T, st2, f2, q⟩ := h2
  subst e
  refine yz0 (RR := fun acc C => compPost (model X.prog X.w) X.A X.xe (some (assign (.Name y py) X.env)) (fun _ s' => SP X pins D .next s') acc C) (Q := fun A H' => D.nx (σ.set i (some (.ref A))) H') S hsc hNX hc hg ht he I2 T st2 f2 c1 c2 q ?_
  intro A C H' s' I' n1 n2 n3 n4 n5 ⟨m, hm⟩ q'
  show wpAny _ X.A (assign (.Name y py) X.env (.ref A)) _ _ _
  refine wpAny_assign_Name (xg8 (v := .ref A) I' hN hi' (.inl hy) rfl (fun s2 J2 sb => ?_) (.inr hy))
  obtain ⟨a, sb, ha⟩ := sb
  have hne : C ≠ a := by
    rcases ha with z | z
    . rw [z]; exact n3
    . exact fun w => n4 _ _ z w.symm
  refine ⟨m, hm.sameBut sb hne, fun h' hb => ?_⟩
  exact ⟨_, H', J2.turned (t' := s2.toks) (it := C) (fun b o hbc e => (hb.2 b hbc).trans e) n1 n3 (.inr n2) n4 n5, q'⟩
end
end L2
namespace L2
open PySem PySem.Spec PyProof.Rows
section
variable {X : Cx} {tg : Expr}
theorem xm2 : ∀ {ys : List Str} {us : List Value}, ze5 (ys.map V.str) us -> StrsAre us ys
  | [], _, .nil => .nil
  | y :: ys, _, .cons r t => by
    obtain ⟨k, rfl⟩ := r
    exact .cons y k (xm2 t)
theorem wp7 : MtR X "str.join" (fun x xs H Q => ∃ (z : Str) (a : Addr) (ys : List Str), x = .str z /\ xs = [.ref a] /\ SqL X.K H a (ys.map V.str) /\ z.length <= 16 /\ (ys.map (·.length)).sum + ys.length <= 1048576 /\ Q (.str (Txt.join z ys)) H) := by
  intro pins s σ H x xs v us Q I rx r h
  obtain ⟨z, a, ys, rfl, rfl, hq, hz, hw, q⟩ := h
  obtain ⟨t, rfl⟩ := rx
  obtain ⟨u, rfl, ru⟩ := yi8 r
  cases (show u = Value.ref a from ru)
  obtain ⟨its, rv, p, hl⟩ := I.list hq
  exact join_listW p.isList (by simpa using xm2 rv) hz hw fun t' k => ⟨.str _, H, I.tok k, ⟨_, rfl⟩, q⟩
end
end L2
namespace L2
open PySem PySem.Spec PyProof.Rows
mutual
inductive Dp (K : PySem.W.Frag) (H : Hp) : V -> PyData -> Prop
  | non : Dp K H .non .none
  | bl (b : Bool) : Dp K H (.bl b) (.bool b)
  | int (i : Int) : Dp K H (.int i) (.int i)
  | str (x : Str) : Dp K H (.str x) (.str x)
  | lst {a : Addr} {xs : List V} {ds : List PyData} : SqL K H a xs -> DpAll K H xs ds -> Dp K H (.ref a) (.list ds)
  | tup {a : Addr} {xs : List V} {ds : List PyData} : SqT K H a xs -> DpAll K H xs ds -> Dp K H (.ref a) (.tuple ds)
inductive DpAll (K : PySem.W.Frag) (H : Hp) : List V -> List PyData -> Prop
  | nil : DpAll K H [] []
  | cons {v : V} {vs : List V} {d : PyData} {ds : List PyData} : Dp K H v d -> DpAll K H vs ds -> DpAll K H (v :: vs) (d :: ds)
end
section
variable {X : Cx} {pins : List (Addr × Obj)} {σ : St} {H : Hp} {s : Shared}
mutual
theorem Dp.reads (I : Inv X pins σ H s) : ∀ {v : V} {d : PyData} {u : Value}, Dp X.K H v d -> zh6 v u -> ∃ as, Reads s.heap u d as
  | _, _, u, .non, r => by cases (show u = Value.none from r); exact ⟨_, .none⟩
  | _, _, u, .bl b, r => by cases (show u = Value.bool b from r); exact ⟨_, .bool b⟩
  | _, _, u, .int i, r => by obtain ⟨t, rfl⟩ := r; exact ⟨_, .int i t⟩
  | _, _, u, .str x, r => by obtain ⟨t, rfl⟩ := r; exact ⟨_, .str x t⟩
  | _, _, u, .lst (a := a) h hs, r => by
    cases (show u = Value.ref a from r)
    obtain ⟨its, rv, p, hz⟩ := I.list h
    obtain ⟨as, ra⟩ := DpAll.reads I hs rv
    obtain ⟨o, e, c, n, d⟩ := p.isList
    exact ⟨_, .list e c d (by simpa using ra)⟩
  | _, _, u, .tup (a := a) h hs, r => by
    cases (show u = Value.ref a from r)
    obtain ⟨its, rv, p, hz⟩ := I.tuple h
    obtain ⟨as, ra⟩ := DpAll.reads I hs rv
    obtain ⟨o, e, c, n, d⟩ := p
    exact ⟨_, .tuple e c d (by simpa using ra)⟩
theorem DpAll.reads (I : Inv X pins σ H s) : ∀ {vs : List V} {ds : List PyData} {us : List Value}, DpAll X.K H vs ds -> ze5 vs us -> ∃ as, ReadsAll s.heap us ds as
  | _, _, _, .nil, .nil => ⟨_, .nil⟩
  | _, _, _, .cons h hs, .cons r rs => by
    obtain ⟨as, ra⟩ := Dp.reads I h r
    obtain ⟨bs, rb⟩ := DpAll.reads I hs rs
    exact ⟨_, .cons ra rb⟩
end
end
section
variable {X : Cx}
noncomputable def wy5 (K : PySem.W.Frag) (neg : Bool) : R2 := fun x y H Q => ∃ d e, Dp K H x d /\ Dp K H y e /\ d.canLay0 = true /\ e.canLay0 = true /\ d.depth <= 60 /\ Q (.bl (if neg then !PyData.eqv d e else PyData.eqv d e)) H
theorem wv4 (hu : X.A.units + 64 < cLine) : OpR X (compareOp .Eq) (wy5 X.K false) := by
  intro pins s σ H x y v u Q I rx ry h
  obtain ⟨d, e, hx, hy, cx, cy, dz, q⟩ := h
  obtain ⟨as, ra⟩ := hx.reads I rx
  obtain ⟨bs, rb⟩ := hy.reads I ry
  exact SeqAt.compareEq_reads ra rb cx cy (by have := Nat.min_le_left d.depth e.depth; omega) ⟨.bl _, H, I, rfl, q⟩
theorem wv5 (hu : X.A.units + 64 < cLine) : OpR X (compareOp .NotEq) (wy5 X.K true) := by
  intro pins s σ H x y v u Q I rx ry h
  obtain ⟨d, e, hx, hy, cx, cy, dz, q⟩ := h
  obtain ⟨as, ra⟩ := hx.reads I rx
  obtain ⟨bs, rb⟩ := hy.reads I ry
  exact SeqAt.compareNe_reads ra rb cx cy (by have := Nat.min_le_left d.depth e.depth; omega) ⟨.bl _, H, I, rfl, q⟩
end
end L2
namespace L2
open PySem PySem.Spec PyProof.Rows
section
variable {prog : Program} {w : World} {A : Around} {E : Value -> Shared -> Prop} {s : Shared} {env : Env}
theorem xr5 {l : Addr} {items : Array Value} {elts : List Expr} {k : Nat} {pos : Pos} {Q : Unit -> Shared -> Prop} (hh : A.handled = none) (hl : s.heap.IsList l items) (hn : (assignEach elts env).length = items.size)
    (hstar : (assignEach elts env).findIdx? (·.1) = none) (h : ∀ h', Heap.ExtBut s.heap.objs.size s.heap h' -> wpAny (model prog w) A (assignInOrder ((assignEach elts env).map (·.2)) items.toList) Q E { s with heap := h' }) :
    wpAny (model prog w) A (assign (.Tuple elts k pos) env (.ref l)) Q E s := by
  rw [assign_Tuple]
  refine wpAny_bind (wpAny_standAt ?_)
  unfold unpack
  rw [hn, hstar]
  exact wpAny_bind (wpAny_holding (PySem.W.kun_itemsOf hh hl h))
end
section
variable {X : Cx} {pos : Pos}
noncomputable def wy6 (K : PySem.W.Frag) (n : Nat) (t : TGs) : TG := fun v σ H Q => ∃ a xs, v = .ref a /\ SqL K H a xs /\ xs.length = n /\ t xs σ H Q
theorem wv6 {es : List Expr} {k : Nat} {t : TGs} {n : Nat} (hc : X.calm = true) (h : PGs X es t)
    (hn : (assignEach es X.env).length = n := by rfl) (hst : (assignEach es X.env).findIdx? (·.1) = none := by rfl) : PG X (.Tuple es k pos) (wy6 X.K n t) := by
  intro pins s σ H v u Q I r hw
  obtain ⟨a, xs, e1, hq, hl, hw⟩ := hw
  subst e1
  cases r
  obtain ⟨its, rv, ht, hz⟩ := I.list hq
  refine xr5 (I.ok.hd hc) ht.isList (by simp [hn, <- hl, rv.length]) hst fun h' hx => ?_
  have I1 : Inv X pins σ H { s with heap := h' } := I.kept (t' := s.toks) fun b o e => hx b o (Nat.ne_of_lt (Heap.lt_size e)) e
  exact h pins _ σ H xs _ Q I1 (by simpa using rv) hw
end
end L2
namespace L2
open PySem PySem.Spec PyProof.Rows
inductive AreC : List Expr -> List V -> Prop
  | nil : AreC [] []
  | int {i : Int} {j : Nat} {pos : Pos} {es : List Expr} {vs : List V} : AreC es vs -> AreC (.Constant (.int i) j pos :: es) (.int i :: vs)
  | str {x : Str} {j : Nat} {pos : Pos} {es : List Expr} {vs : List V} : AreC es vs -> AreC (.Constant (.str x) j pos :: es) (.str x :: vs)
  | bl {b : Bool} {j : Nat} {pos : Pos} {es : List Expr} {vs : List V} : AreC es vs -> AreC (.Constant (.bool b) j pos :: es) (.bl b :: vs)
  | non {j : Nat} {pos : Pos} {es : List Expr} {vs : List V} : AreC es vs -> AreC (.Constant .none j pos :: es) (.non :: vs)
noncomputable def xc0 (vs : List V) : TA := fun _ H Q => Q vs H
theorem wc7 {X : Cx} {es : List Expr} {vs : List V} (h : AreC es vs) : PA X es (xc0 vs) := by
  induction h with
  | nil => exact yb5
  | int _ ih => exact fun pos pins s σ H Q I q => zo1 (t := xc0 _) zr6 ih rfl pos pins s σ H Q I q
  | str _ ih => exact fun pos pins s σ H Q I q => zo1 (t := xc0 _) wa4 ih rfl pos pins s σ H Q I q
  | bl _ ih => exact fun pos pins s σ H Q I q => zo1 (t := xc0 _) wm6 ih rfl pos pins s σ H Q I q
  | non _ ih => exact fun pos pins s σ H Q I q => zo1 (t := xc0 _) wa3 ih rfl pos pins s σ H Q I q
end L2
namespace L2
open PySem PySem.Spec PyProof.Rows
set_option genInjectivity true in
inductive D where
  | non | bl (b : Bool) | int (i : Int) | str (x : Str) | ty (n : String)
  | tup (xs : List D) | con (xs : List D) | lst (o : Bool) (xs : List D) | dic (o : Bool) (ks : List Key) (vs : List D) | obj (o : Bool) (C : Str) (ns : List Str) (vs : List D)
mutual
noncomputable def D.imm : D -> Bool
  | .tup xs => D.imms xs
  | .con xs => D.imms xs
  | .lst o xs => !o && D.imms xs
  | .dic o _ vs => !o && D.imms vs
  | .obj o _ _ vs => !o && D.imms vs
  | _ => true
noncomputable def D.imms : List D -> Bool
  | [] => true
  | d :: ds => d.imm && D.imms ds
end
noncomputable def kd : HO -> Bool
  | .lst _ => true
  | .tup _ => true
  | .dK _ => true
  | .ins _ _ _ => true
  | .frz _ _ => true
  | _ => false
noncomputable def tf : HO -> Bool
  | .tup _ => true
  | .frz _ _ => true
  | _ => false
theorem ya4 {o : HO} (h : tf o = true) : kd o = true := by cases o <;> first | rfl | cases h
noncomputable def SqF (K : PySem.W.Frag) (H : Hp) (a : Addr) (xs : List V) : Prop := (∃ o, H a = some (.frz o (.lst xs))) \/
  ∃ (o : Obj) (its : Array Value) (n : Nat), K.lookup a = some o /\ o.cls = .type "list" /\ o.dict = none /\ o.data = .seq its n /\ its.size <= sizeLine /\ ze5 xs its.toList
mutual
inductive Rep (K : PySem.W.Frag) (κ : Str -> Addr) (H : Hp) : V -> D -> List Addr -> Prop
  | non : Rep K κ H .non .non []
  | bl (b : Bool) : Rep K κ H (.bl b) (.bl b) []
  | int (i : Int) : Rep K κ H (.int i) (.int i) []
  | str (x : Str) : Rep K κ H (.str x) (.str x) []
  | ty (n : String) : Rep K κ H (.ty n) (.ty n) []
  | tup {a : Addr} {vs : List V} {ds : List D} : SqT K H a vs -> Reps K κ H vs ds [] -> Rep K κ H (.ref a) (.tup ds) []
  | con {a : Addr} {vs : List V} {ds : List D} : SqF K H a vs -> Reps K κ H vs ds [] -> Rep K κ H (.ref a) (.con ds) []
  | lst {a : Addr} {vs : List V} {ds : List D} {fp : List Addr} : H a = some (.lst vs) -> Reps K κ H vs ds fp -> Rep K κ H (.ref a) (.lst true ds) (a :: fp)
  | lstF {a : Addr} {o : Obj} {vs : List V} {ds : List D} : H a = some (.frz o (.lst vs)) -> Reps K κ H vs ds [] -> Rep K κ H (.ref a) (.lst false ds) []
  | dic {a : Addr} {kvs : List (Key × V)} {ks : List Key} {ds : List D} {fp : List Addr} : H a = some (.dK kvs) -> kvs.map (·.1) = ks -> Reps K κ H (kvs.map (·.2)) ds fp -> Rep K κ H (.ref a) (.dic true ks ds) (a :: fp)
  | dicF {a : Addr} {o : Obj} {kvs : List (Key × V)} {ks : List Key} {ds : List D} : H a = some (.frz o (.dK kvs)) -> kvs.map (·.1) = ks -> Reps K κ H (kvs.map (·.2)) ds [] -> Rep K κ H (.ref a) (.dic false ks ds) []
  | obj {a dx : Addr} {C : Str} {fs : List (Str × V)} {ns : List Str} {ds : List D} {fp : List Addr} : H a = some (.ins (κ C) dx fs) -> fs.map (·.1) = ns -> Reps K κ H (fs.map (·.2)) ds fp -> Rep K κ H (.ref a) (.obj true C ns ds) (a :: fp)
  | objF {a dx : Addr} {o : Obj} {C : Str} {fs : List (Str × V)} {ns : List Str} {ds : List D} : H a = some (.frz o (.ins (κ C) dx fs)) -> fs.map (·.1) = ns -> Reps K κ H (fs.map (·.2)) ds [] -> Rep K κ H (.ref a) (.obj false C ns ds) []
inductive Reps (K : PySem.W.Frag) (κ : Str -> Addr) (H : Hp) : List V -> List D -> List Addr -> Prop
  | nil : Reps K κ H [] [] []
  | cons {v : V} {vs : List V} {d : D} {ds : List D} {f g : List Addr} : Rep K κ H v d f -> Reps K κ H vs ds g -> Reps K κ H (v :: vs) (d :: ds) (f ++ g)
end
section
variable {K : PySem.W.Frag} {κ : Str -> Addr} {H H' : Hp}
theorem SqT.tf (t : ∀ a o, H a = some o -> tf o = true -> H' a = some o) {a : Addr} {xs : List V} (h : SqT K H a xs) : SqT K H' a xs := by
  rcases h with (h | ⟨o, h⟩) | h
  . exact .inl (.inl (t _ _ h rfl))
  . exact .inl (.inr ⟨o, t _ _ h rfl⟩)
  . exact .inr h
theorem SqF.tf (t : ∀ a o, H a = some o -> tf o = true -> H' a = some o) {a : Addr} {xs : List V} (h : SqF K H a xs) : SqF K H' a xs := h.elim (fun ⟨o, h⟩ => .inl ⟨o, t _ _ h rfl⟩) .inr
theorem SqF.l {a : Addr} {xs : List V} (h : SqF K H a xs) : SqL K H a xs := h.elim (fun ⟨o, h⟩ => .inl (.inr ⟨o, h⟩)) .inr
theorem zq4 {P : Addr -> Prop} : ∀ a ∈ ([] : List Addr), P a := fun _ h => nomatch h
theorem Reps.move (t : ∀ a o, H a = some o -> tf o = true -> H' a = some o) {vs : List V} {ds : List D} {fp : List Addr} (h : Reps K κ H vs ds fp) : (∀ a ∈ fp, H' a = H a) -> Reps K κ H' vs ds fp :=
  Reps.rec (motive_1 := fun v d fp _ => (∀ a ∈ fp, H' a = H a) -> Rep K κ H' v d fp) (motive_2 := fun vs ds fp _ => (∀ a ∈ fp, H' a = H a) -> Reps K κ H' vs ds fp)
    (fun _ => .non) (fun b _ => .bl b) (fun b _ => .int b) (fun b _ => .str b) (fun b _ => .ty b) (fun h _ ih _ => .tup (h.tf t) (ih zq4)) (fun h _ ih _ => .con (h.tf t) (ih zq4))
    (fun h _ ih k => .lst ((k _ List.mem_cons_self).trans h) (ih fun a ha => k a (List.mem_cons_of_mem _ ha))) (fun h _ ih _ => .lstF (t _ _ h rfl) (ih zq4))
    (fun h e _ ih k => .dic ((k _ List.mem_cons_self).trans h) e (ih fun a ha => k a (List.mem_cons_of_mem _ ha))) (fun h e _ ih _ => .dicF (t _ _ h rfl) e (ih zq4))
    (fun h e _ ih k => .obj ((k _ List.mem_cons_self).trans h) e (ih fun a ha => k a (List.mem_cons_of_mem _ ha))) (fun h e _ ih _ => .objF (t _ _ h rfl) e (ih zq4))
    (fun _ => .nil) (fun _ _ i1 i2 k => .cons (i1 fun a ha => k a (List.mem_append_left _ ha)) (i2 fun a ha => k a (List.mem_append_right _ ha))) h
theorem Reps.nil_fp {vs : List V} {fp : List Addr} (h : Reps K κ H vs [] fp) : vs = [] /\ fp = [] := by cases h; exact ⟨rfl, rfl⟩
theorem Reps.one_inv {vs : List V} {d : D} {fp : List Addr} (r : Reps K κ H vs [d] fp) : ∃ v, vs = [v] /\ Rep K κ H v d fp := by
  cases r with
  | cons h hs =>
    obtain ⟨rfl, rfl⟩ := hs.nil_fp
    exact ⟨_, rfl, by rw [List.append_nil]; exact h⟩
theorem Reps.one {v : V} {d : D} {f : List Addr} (h : Rep K κ H v d f) : Reps K κ H [v] [d] f := by have := Reps.cons h (Reps.nil (K := K) (κ := κ) (H := H)); rwa [List.append_nil] at this
theorem Rep.move (t : ∀ a o, H a = some o -> tf o = true -> H' a = some o) {v : V} {d : D} {fp : List Addr} (h : Rep K κ H v d fp) (k : ∀ a ∈ fp, H' a = H a) : Rep K κ H' v d fp := by
  obtain ⟨u, e, r⟩ := ((Reps.one h).move t k).one_inv
  cases e; exact r
theorem Reps.own {vs : List V} {ds : List D} {fp : List Addr} (h : Reps K κ H vs ds fp) : ∀ a ∈ fp, ∃ o, H a = some o /\ kd o = true /\ tf o = false :=
  Reps.rec (motive_1 := fun _ _ fp _ => ∀ a ∈ fp, ∃ o, H a = some o /\ kd o = true /\ tf o = false) (motive_2 := fun _ _ fp _ => ∀ a ∈ fp, ∃ o, H a = some o /\ kd o = true /\ tf o = false)
    zq4 (fun _ => zq4) (fun _ => zq4) (fun _ => zq4) (fun _ => zq4) (fun _ _ _ => zq4) (fun _ _ _ => zq4)
    (fun h _ ih a ha => (List.mem_cons.mp ha).elim (fun e => e ▸ ⟨_, h, rfl, rfl⟩) (ih a)) (fun _ _ _ => zq4)
    (fun h _ _ ih a ha => (List.mem_cons.mp ha).elim (fun e => e ▸ ⟨_, h, rfl, rfl⟩) (ih a)) (fun _ _ _ _ => zq4)
    (fun h _ _ ih a ha => (List.mem_cons.mp ha).elim (fun e => e ▸ ⟨_, h, rfl, rfl⟩) (ih a)) (fun _ _ _ _ => zq4)
    zq4 (fun _ _ i1 i2 a ha => (List.mem_append.mp ha).elim (i1 a) (i2 a)) h
theorem Rep.own {v : V} {d : D} {fp : List Addr} (h : Rep K κ H v d fp) : ∀ a ∈ fp, ∃ o, H a = some o /\ kd o = true /\ tf o = false := (Reps.one h).own
theorem Rep.imm {v : V} {d : D} {fp : List Addr} (h : Rep K κ H v d fp) (e : d.imm = true) : fp = [] := by
  cases h <;> first | rfl | exact nomatch e
theorem Reps.imm : ∀ {vs : List V} {ds : List D} {fp : List Addr}, Reps K κ H vs ds fp -> D.imms ds = true -> fp = []
  | _, _, _, .nil, _ => rfl
  | _, _, _, .cons h hs, e => by
    rw [D.imms, Bool.and_eq_true] at e
    rw [h.imm e.1, Reps.imm hs e.2]; rfl
theorem Reps.length : ∀ {vs : List V} {ds : List D} {fp : List Addr}, Reps K κ H vs ds fp -> vs.length = ds.length
  | _, _, _, .nil => rfl
  | _, _, _, .cons _ hs => by rw [List.length_cons, List.length_cons, Reps.length hs]
theorem Reps.get : ∀ {vs : List V} {ds : List D} {fp : List Addr} {i : Nat} {d : D}, Reps K κ H vs ds fp -> ds[i]? = some d -> ∃ v f, vs[i]? = some v /\ Rep K κ H v d f /\ ∀ a ∈ f, a ∈ fp
  | _, _, _, _, _, .nil, e => by simp at e
  | _, _, _, 0, _, .cons h _, e => by simp at e; subst e; exact ⟨_, _, rfl, h, fun a ha => List.mem_append_left _ ha⟩
  | _, _, _, i + 1, _, .cons _ hs, e => by
    obtain ⟨v, f, h1, h2, h3⟩ := Reps.get (i := i) hs (by simpa using e)
    exact ⟨v, f, by simpa using h1, h2, fun a ha => List.mem_append_right _ (h3 a ha)⟩
theorem Reps.append : ∀ {vs : List V} {ds : List D} {f : List Addr} {us : List V} {es : List D} {g : List Addr}, Reps K κ H vs ds f -> Reps K κ H us es g -> Reps K κ H (vs ++ us) (ds ++ es) (f ++ g)
  | _, _, _, _, _, _, .nil, r => r
  | _, _, _, _, _, _, .cons h hs, r => by rw [List.append_assoc]; exact .cons h (Reps.append hs r)
theorem Reps.split : ∀ {vs : List V} {d : D} {ds : List D} {fp : List Addr}, Reps K κ H vs (d :: ds) fp -> ∃ v us f g, vs = v :: us /\ Rep K κ H v d f /\ Reps K κ H us ds g /\ fp = f ++ g
  | _, _, _, _, .cons h hs => ⟨_, _, _, _, rfl, h, hs, rfl⟩
theorem Reps.nilp : ∀ {vs : List V} {ds : List D}, Reps K κ H vs ds [] -> Paired (fun v d => Rep K κ H v d []) vs ds := by
  intro vs ds h
  generalize e : ([] : List Addr) = fp at h
  induction h using Reps.rec (motive_1 := fun _ _ _ _ => True) with
  | nil => exact .nil
  | cons h hs _ ih =>
    obtain ⟨e1, e2⟩ := List.append_eq_nil_iff.mp e.symm
    subst e1; subst e2
    exact .cons h (ih rfl)
  | _ => trivial
theorem Reps.ofp : ∀ {vs : List V} {ds : List D}, Paired (fun v d => Rep K κ H v d []) vs ds -> Reps K κ H vs ds []
  | _, _, .nil => .nil
  | _, _, .cons h hs => .cons (f := []) (g := []) h (Reps.ofp hs)
end
theorem Paired.takeN {α β : Type} {R : α -> β -> Prop} : ∀ {l₁ : List α} {l₂ : List β} (n : Nat), Paired R l₁ l₂ -> Paired R (l₁.take n) (l₂.take n)
  | _, _, 0, _ => .nil
  | _, _, _ + 1, .nil => .nil
  | _, _, n + 1, .cons h t => .cons h (Paired.takeN n t)
theorem Paired.dropN {α β : Type} {R : α -> β -> Prop} : ∀ {l₁ : List α} {l₂ : List β} (n : Nat), Paired R l₁ l₂ -> Paired R (l₁.drop n) (l₂.drop n)
  | _, _, 0, r => r
  | _, _, _ + 1, .nil => .nil
  | _, _, n + 1, .cons _ t => Paired.dropN n t
theorem Paired.app {α β : Type} {R : α -> β -> Prop} : ∀ {l₁ : List α} {l₂ : List β} {m₁ : List α} {m₂ : List β}, Paired R l₁ l₂ -> Paired R m₁ m₂ -> Paired R (l₁ ++ m₁) (l₂ ++ m₂)
  | _, _, _, _, .nil, r => r
  | _, _, _, _, .cons h t, r => .cons h (Paired.app t r)
structure SameK (H H' : Hp) : Prop where
  keep : ∀ a o, H a = some o -> kd o = true -> H' a = some o
  grow : ∀ a, H' a = none -> H a = none
theorem SameK.refl (H : Hp) : SameK H H := ⟨fun _ _ h _ => h, fun _ h => h⟩
theorem SameK.trans {H H1 H2 : Hp} (a : SameK H H1) (b : SameK H1 H2) : SameK H H2 := ⟨fun c o h k => b.keep c o (a.keep c o h k) k, fun c h => a.grow c (b.grow c h)⟩
theorem SameK.of {H H' : Hp} (h : yf9 H H') : SameK H H' := ⟨fun a o e _ => h a o e, fun a e => h.free e⟩
theorem SameK.new {H : Hp} {p : Addr} (h : H p = none) (o : HO) : SameK H (upd H p o) := .of (wi8 h o)
section
variable {K : PySem.W.Frag} {κ : Str -> Addr} {H H' : Hp}
theorem Rep.same (e : SameK H H') {v : V} {d : D} {fp : List Addr} (r : Rep K κ H v d fp) : Rep K κ H' v d fp :=
  r.move (fun a o h t => e.keep a o h (ya4 t)) fun a ha => by obtain ⟨o, h, k, _⟩ := r.own a ha; rw [h]; exact e.keep a o h k
theorem Reps.same (e : SameK H H') {v : List V} {d : List D} {fp : List Addr} (r : Reps K κ H v d fp) : Reps K κ H' v d fp :=
  r.move (fun a o h t => e.keep a o h (ya4 t)) fun a ha => by obtain ⟨o, h, k, _⟩ := r.own a ha; rw [h]; exact e.keep a o h k
end
theorem PE.imp {X : Cx} {e : Expr} {t t' : TE} (h : PE X e t) (k : ∀ σ H Q, t' σ H Q -> t σ H Q) : PE X e t' := fun pins s σ H Q I q => h pins s σ H Q I (k σ H Q q)
theorem PT.imp {X : Cx} {e : Expr} {t t' : TT} (h : PT X e t) (k : ∀ σ H Q, t' σ H Q -> t σ H Q) : PT X e t' := fun pins s σ H Q I q => h pins s σ H Q I (k σ H Q q)
theorem PW.imp {X : Cx} {e : Expr} {t t' : TT} (h : PW X e t) (k : ∀ σ H Q, t' σ H Q -> t σ H Q) : PW X e t' := fun wh pins s σ H Q I q => h wh pins s σ H Q I (k σ H Q q)
theorem PA.imp {X : Cx} {e : List Expr} {t t' : TA} (h : PA X e t) (k : ∀ σ H Q, t' σ H Q -> t σ H Q) : PA X e t' := fun pos pins s σ H Q I q => h pos pins s σ H Q I (k σ H Q q)
theorem PS.imp {X : Cx} {st : Stmt} {t t' : TS} (h : PS X st t) (k : ∀ D σ H, t' D σ H -> t D σ H) : PS X st t' := fun pins s σ H D I q => h pins s σ H D I (k D σ H q)
theorem PSs.imp {X : Cx} {st : List Stmt} {t t' : TS} (h : PSs X st t) (k : ∀ D σ H, t' D σ H -> t D σ H) : PSs X st t' := fun pins s σ H D I q => h pins s σ H D I (k D σ H q)
noncomputable abbrev PSt := List (Option D)
noncomputable def WS (K : PySem.W.Frag) (κ : Str -> Addr) (H : Hp) (σ : St) (ps : PSt) : Prop := ∀ (i : Nat) (d : D), ps[i]? = some (some d) -> ∃ v fp, σ[i]? = some (some v) /\ Rep K κ H v d fp
theorem WS.same {K : PySem.W.Frag} {κ : Str -> Addr} {H H' : Hp} {σ : St} {ps : PSt} (w : WS K κ H σ ps) (e : SameK H H') : WS K κ H' σ ps := fun i d h => by
  obtain ⟨v, fp, h1, h2⟩ := w i d h
  exact ⟨v, fp, h1, h2.same e⟩
noncomputable def zw4 (K : PySem.W.Frag) (κ : Str -> Addr) (H : Hp) (d : D) (Q : VK) : Prop := ∀ v H' fv, SameK H H' -> (∀ a ∈ fv, H a = none) -> fv.Nodup -> Rep K κ H' v d fv -> Q v H'
noncomputable def wy7 (K : PySem.W.Frag) (κ : Str -> Addr) (H : Hp) (d : D) (Q : VK) : Prop := ∀ v H' fp, SameK H H' -> Rep K κ H' v d fp -> Q v H'
noncomputable def tV (K : PySem.W.Frag) (κ : Str -> Addr) (f : PSt -> Option D) : TE := fun σ H Q => ∃ ps d, WS K κ H σ ps /\ f ps = some d /\ wy7 K κ H d Q
noncomputable def tP (K : PySem.W.Frag) (κ : Str -> Addr) (f : PSt -> Option D) : TE := fun σ H Q => ∃ ps d, WS K κ H σ ps /\ f ps = some d /\ zw4 K κ H d Q
noncomputable def tQ (K : PySem.W.Frag) (κ : Str -> Addr) (f : PSt -> Option Bool) : TT := fun σ H Q => ∃ ps b, WS K κ H σ ps /\ f ps = some b /\ ∀ H', SameK H H' -> Q b H'
noncomputable def tVA (K : PySem.W.Frag) (κ : Str -> Addr) (f : PSt -> Option (List D)) : TA := fun σ H Q => ∃ ps ds, WS K κ H σ ps /\ f ps = some ds /\ ∀ vs H' fp, SameK H H' -> Reps K κ H' vs ds fp -> Q vs H'
noncomputable def tPA (K : PySem.W.Frag) (κ : Str -> Addr) (f : PSt -> Option (List D)) : TA := fun σ H Q => ∃ ps ds, WS K κ H σ ps /\ f ps = some ds /\ ∀ vs H' fv, SameK H H' -> (∀ a ∈ fv, H a = none) -> fv.Nodup -> Reps K κ H' vs ds fv -> Q vs H'
noncomputable abbrev QV (X : Cx) (κ : Str -> Addr) (e : Expr) (f : PSt -> Option D) : Prop := PE X e (tV X.K κ f)
noncomputable abbrev QP (X : Cx) (κ : Str -> Addr) (e : Expr) (f : PSt -> Option D) : Prop := PE X e (tP X.K κ f)
noncomputable abbrev QT (X : Cx) (κ : Str -> Addr) (e : Expr) (f : PSt -> Option Bool) : Prop := PT X e (tQ X.K κ f)
noncomputable abbrev QW (X : Cx) (κ : Str -> Addr) (e : Expr) (f : PSt -> Option Bool) : Prop := PW X e (tQ X.K κ f)
noncomputable abbrev QVA (X : Cx) (κ : Str -> Addr) (es : List Expr) (f : PSt -> Option (List D)) : Prop := PA X es (tVA X.K κ f)
noncomputable abbrev QPA (X : Cx) (κ : Str -> Addr) (es : List Expr) (f : PSt -> Option (List D)) : Prop := PA X es (tPA X.K κ f)
theorem zw4.see {K : PySem.W.Frag} {κ : Str -> Addr} {H : Hp} {d : D} {Q : VK} (h : wy7 K κ H d Q) : zw4 K κ H d Q := fun v H' fv s _ _ r => h v H' fv s r
theorem zw4.after {K : PySem.W.Frag} {κ : Str -> Addr} {H H1 : Hp} {d : D} {Q : VK} (h : zw4 K κ H d Q) (s : SameK H H1) : zw4 K κ H1 d Q :=
  fun v H' fv s' n nd r => h v H' fv (s.trans s') (fun a ha => s.grow a (n a ha)) nd r
theorem zw4.now {K : PySem.W.Frag} {κ : Str -> Addr} {H : Hp} {d : D} {Q : VK} {v : V} (h : zw4 K κ H d Q) (r : Rep K κ H v d []) : Q v H := h v H [] (.refl H) (fun _ h => absurd h (by simp)) List.nodup_nil r
theorem zw4.at {K : PySem.W.Frag} {κ : Str -> Addr} {H : Hp} {d : D} {Q : VK} {p : Addr} {o : HO} {fv : List Addr} (h : zw4 K κ H d Q) (hp : H p = none) (hn : ∀ a ∈ fv, H a = none) (nd : fv.Nodup) (r : Rep K κ (upd H p o) (.ref p) d fv) : Q (.ref p) (upd H p o) :=
  h _ _ fv (.new hp o) hn nd r
section
variable {X : Cx} {κ : Str -> Addr} {e a b : Expr} {f fa fb : PSt -> Option D}
theorem QP.v (h : QP X κ e f) : QV X κ e f := h.imp fun _ _ _ ⟨ps, d, w, e, q⟩ => ⟨ps, d, w, e, .see q⟩
noncomputable def zc0 (f : PSt -> Option D) : PSt -> Option D := fun ps => (f ps).bind fun d => if d.imm = true then some d else none
theorem QV.p (h : QV X κ e f) : QP X κ e (zc0 f) := h.imp fun σ H Q hh_ => by
  obtain ⟨ps, d, w, e, q⟩ := hh_
  unfold zc0 at e
  cases e1 : f ps with
  | none => rw [e1] at e; cases e
  | some d1 =>
    rw [e1] at e
    by_cases hi : d1.imm = true
    . have e2 : d1 = d := by simpa [hi] using e
      subst e2
      refine ⟨ps, d1, w, e1, fun v H' fp s r => ?_⟩
      have := r.imm hi; subst this
      exact q v H' [] s (fun _ h => absurd h (by simp)) List.nodup_nil r
    . simp [hi] at e
noncomputable def za0 (i : Nat) : PSt -> Option D := fun ps => (ps[i]?).join
theorem za2 (i : Nat) {x : Str} {pos : Pos} (hN : X.N[i]? = some x := by rfl) (hv : Vis X.env.scope x := by first | exact Or.inl rfl | exact Or.inr (Or.inl rfl) | exact Or.inr (Or.inr rfl)) (hd : (x == ("__debug__" : Str)) = false := by decide)
    (hcd : (x == ("__classdict__" : Str)) = false := by decide) : QV X κ (.Name x pos) (za0 i) := (yk9 hN hv hd hcd).imp fun σ H Q hh_ => by
  obtain ⟨ps, d, w, e, q⟩ := hh_
  have e' : ps[i]? = some (some d) := by
    unfold za0 at e
    cases q : ps[i]? with
    | none => rw [q] at e; cases e
    | some o => rw [q] at e; exact congrArg some e
  obtain ⟨v, fp, h1, h2⟩ := w i d e'
  exact ⟨v, h1, q v H fp (.refl H) h2⟩
noncomputable def fC (d : D) : PSt -> Option D := fun _ => some d
theorem za6 {i j pos} : QP X κ (.Constant (.int i) j pos) (fC (.int i)) := zr6.imp fun σ H Q ⟨ps, d, w, e, q⟩ => by cases e; exact q _ H [] (.refl H) (fun _ h => absurd h (by simp)) List.nodup_nil (.int i)
theorem zf9 {x j pos} : QP X κ (.Constant (.str x) j pos) (fC (.str x)) := wa4.imp fun σ H Q ⟨ps, d, w, e, q⟩ => by cases e; exact q _ H [] (.refl H) (fun _ h => absurd h (by simp)) List.nodup_nil (.str x)
theorem zs3 {b j pos} : QP X κ (.Constant (.bool b) j pos) (fC (.bl b)) := wm6.imp fun σ H Q ⟨ps, d, w, e, q⟩ => by cases e; exact q _ H [] (.refl H) (fun _ h => absurd h (by simp)) List.nodup_nil (.bl b)
theorem yl2 {j pos} : QP X κ (.Constant .none j pos) (fC .non) := wa3.imp fun σ H Q ⟨ps, d, w, e, q⟩ => by cases e; exact q _ H [] (.refl H) (fun _ h => absurd h (by simp)) List.nodup_nil .non
theorem xe2 {x : Str} {v : V} {u : Value} {d : D} {pos : Pos} (hg : Gl X x) (hm : X.mg x = some u) (r : zh6 v u) (hd : ∀ H, Rep X.K κ H v d []) (hdb : (x == ("__debug__" : Str)) = false := by decide) : QP X κ (.Name x pos) (fC d) :=
  (wo4 hg hm r hdb).imp fun σ H Q ⟨ps, d, w, e, q⟩ => by cases e; exact q _ H [] (.refl H) (fun _ h => absurd h (by simp)) List.nodup_nil (hd H)
noncomputable def f2 (g : D -> D -> Option D) (fa fb : PSt -> Option D) : PSt -> Option D := fun ps => (fa ps).bind fun x => (fb ps).bind fun y => g x y
noncomputable def POp (K : PySem.W.Frag) (κ : Str -> Addr) (g : D -> D -> Option D) : R2 := fun x y H Q => ∃ dx dy d fx fy, Rep K κ H x dx fx /\ Rep K κ H y dy fy /\ g dx dy = some d /\ zw4 K κ H d Q
theorem xe3 {g : D -> D -> Option D} {fa fb : PSt -> Option D} {ps : PSt} {d : D} (h : f2 g fa fb ps = some d) : ∃ x y, fa ps = some x /\ fb ps = some y /\ g x y = some d := by
  unfold f2 at h
  cases e1 : fa ps with
  | none => rw [e1] at h; cases h
  | some x =>
    rw [e1] at h
    cases e2 : fb ps with
    | none => rw [e2] at h; cases h
    | some y => rw [e2] at h; exact ⟨x, y, rfl, rfl, h⟩
theorem xm3 {r : R2} {g : D -> D -> Option D} {σ : St} {H : Hp} {Q : VK} (hr : ∀ x y H Q, POp X.K κ g x y H Q -> r x y H Q) (h : tP X.K κ (f2 g fa fb) σ H Q) : tOp r (tV X.K κ fa) (tV X.K κ fb) σ H Q := by
  obtain ⟨ps, d, w, e, q⟩ := h
  obtain ⟨x, y, e1, e2, e3⟩ := xe3 e
  exact ⟨ps, x, w, e1, fun v H1 fp s1 r1 => ⟨ps, y, w.same s1, e2, fun u H2 fq s2 r2 => hr _ _ _ _ ⟨x, y, d, fp, fq, r1.same s2, r2, e3, q.after (s1.trans s2)⟩⟩⟩
theorem zd2 {op : Operator} {g : D -> D -> Option D} {pos : Pos} (ho : OpR X (binaryOp op) (POp X.K κ g)) (ha : QV X κ a fa) (hb : QV X κ b fb) : QP X κ (.BinOp a op b pos) (f2 g fa fb) :=
  (zo8 ho ha hb).imp fun _ _ _ h => xm3 (fun _ _ _ _ h => h) h
theorem yb6 {op : CmpOp} {g : D -> D -> Option D} {pos : Pos} (ho : OpR X (compareOp op) (POp X.K κ g)) (ha : QV X κ a fa) (hb : QV X κ b fb) (hm : behindInMarks op b = false) : QP X κ (.Compare a [op] [b] pos) (f2 g fa fb) :=
  (xs9 ho ha hb hm).imp fun _ _ _ h => xm3 (fun _ _ _ _ h => h) h
noncomputable def dB : D -> Option Bool
  | .bl b => some b
  | _ => none
noncomputable def fB (f : PSt -> Option D) : PSt -> Option Bool := fun ps => (f ps).bind dB
theorem wp8 {f : PSt -> Option D} {ps : PSt} {b : Bool} (h : fB f ps = some b) : f ps = some (.bl b) := by
  unfold fB at h
  cases e : f ps with
  | none => rw [e] at h; cases h
  | some d => rw [e] at h; cases d <;> first | (cases h; rfl) | cases h
theorem Rep.is_bl {K : PySem.W.Frag} {H : Hp} {v : V} {b : Bool} {fp : List Addr} (r : Rep K κ H v (.bl b) fp) : v = .bl b := by cases r; rfl
theorem Rep.is_int {K : PySem.W.Frag} {H : Hp} {v : V} {b : Int} {fp : List Addr} (r : Rep K κ H v (.int b) fp) : v = .int b := by cases r; rfl
theorem Rep.is_str {K : PySem.W.Frag} {H : Hp} {v : V} {b : Str} {fp : List Addr} (r : Rep K κ H v (.str b) fp) : v = .str b := by cases r; rfl
theorem zf4 {op : CmpOp} {g : D -> D -> Option D} {pos : Pos} (ho : OpR X (compareOp op) (POp X.K κ g)) (ha : QV X κ a fa) (hb : QV X κ b fb) (hm : behindInMarks op b = false) : QT X κ (.Compare a [op] [b] pos) (fB (f2 g fa fb)) :=
  (xt0 ho ha hb hm).imp fun σ H Q ⟨ps, c, w, e, q⟩ => xm3 (Q := fun x H' => ∃ k, x = .bl k /\ Q k H') (fun _ _ _ _ h => h) ⟨ps, _, w, wp8 e, fun v H' fv s _ _ r => ⟨c, r.is_bl, q H' s⟩⟩
noncomputable def f3 (g g' : D -> D -> Option D) (fa fb fc : PSt -> Option D) : PSt -> Option D := fun ps => (fa ps).bind fun x => (fb ps).bind fun y => (g x y).bind fun k => match k with
  | .bl true => (fc ps).bind fun z => g' y z
  | .bl false => some (.bl false)
  | _ => none
noncomputable def zd9 : D -> Option Bool
  | .non => some false
  | .bl b => some b
  | .int i => some (i != 0)
  | .str y => if y.length <= sizeLine then some ((y.length : Int) != 0) else none
  | .lst _ xs => some (!xs.isEmpty)
  | .tup xs => some (!xs.isEmpty)
  | .con xs => some (!xs.isEmpty)
  | _ => none
theorem yb7 {K : PySem.W.Frag} {H : Hp} {vs : List V} {ds : List D} {fp : List Addr} (r : Reps K κ H vs ds fp) : ds.isEmpty = vs.isEmpty := by cases r <;> rfl
theorem xt3 {K : PySem.W.Frag} {H : Hp} {v : V} {d : D} {fp : List Addr} {b : Bool} (r : Rep K κ H v d fp) (h : zd9 d = some b) : wm4 K v H b := by
  cases r with
  | non => cases h; rfl
  | bl b => cases h; rfl
  | int i => cases h; rfl
  | str x =>
    rw [zd9] at h
    split at h
    . cases h; exact ⟨by assumption, rfl⟩
    . cases h
  | tup s rs => cases h; exact .inr (.inl ⟨_, s, by rw [yb7 rs]⟩)
  | con s rs => cases h; exact .inl ⟨_, s.l, by rw [yb7 rs]⟩
  | lst s rs => cases h; exact .inl ⟨_, .inl (.inl s), by rw [yb7 rs]⟩
  | lstF s rs => cases h; exact .inl ⟨_, .inl (.inr ⟨_, s⟩), by rw [yb7 rs]⟩
  | _ => cases h
noncomputable def fT (f : PSt -> Option D) : PSt -> Option Bool := fun ps => (f ps).bind zd9
theorem wp9 {f : PSt -> Option D} {ps : PSt} {b : Bool} (h : fT f ps = some b) : ∃ d, f ps = some d /\ zd9 d = some b := by
  unfold fT at h
  cases e : f ps with
  | none => rw [e] at h; cases h
  | some d => rw [e] at h; exact ⟨d, rfl, h⟩
theorem zr7 (ha : QV X κ a fa) (he : ∀ whole, isTrue a X.env whole = (do let v <- whole; standAt a.pos; holding [v] (truthy v)) := by intro _; rfl) : QT X κ a (fT fa) :=
  (xl8 ha he).imp fun σ H Q hh_ => by
    obtain ⟨ps, c, w, e, q⟩ := hh_
    obtain ⟨d, e1, e2⟩ := wp9 e
    exact ⟨ps, d, w, e1, fun v H' fp s r => ⟨c, xt3 r e2, q H' s⟩⟩
noncomputable def zf8 (f g : PSt -> Option Bool) : PSt -> Option Bool := fun ps => (f ps).bind fun c => if c = true then g ps else some false
noncomputable def zk8 (f g : PSt -> Option Bool) : PSt -> Option Bool := fun ps => (f ps).bind fun c => if c = true then some true else g ps
noncomputable def zh4 (f : PSt -> Option Bool) : PSt -> Option Bool := fun ps => (f ps).map (!·)
variable {pos : Pos} {zd5 : List Expr} {ta tb : PSt -> Option Bool}
theorem zr4 (ha : QT X κ a ta) : QW X κ (.BoolOp .And [a] pos) ta := wo5 ha
theorem yz1 (ha : QT X κ a ta) : QW X κ (.BoolOp .Or [a] pos) ta := wt0 ha
theorem zs7 (ha : QT X κ a ta) (hb : QW X κ (.BoolOp .And (b :: zd5) pos) tb) : QW X κ (.BoolOp .And (a :: b :: zd5) pos) (zf8 ta tb) :=
  (wt1 ha hb).imp fun σ H Q hh_ => by
    obtain ⟨ps, c, w, e, q⟩ := hh_
    unfold zf8 at e
    cases e1 : ta ps with
    | none => rw [e1] at e; cases e
    | some k =>
      rw [e1] at e
      refine ⟨ps, k, w, e1, fun H1 s1 => ?_⟩
      cases k with
      | true => rw [if_pos rfl]; exact ⟨ps, c, w.same s1, by simpa using e, fun H2 s2 => q H2 (s1.trans s2)⟩
      | false =>
        rw [if_neg Bool.false_ne_true]
        have : c = false := by simpa using e.symm
        subst this; exact q H1 s1
theorem xk3 (ha : QT X κ a ta) (hb : QW X κ (.BoolOp .Or (b :: zd5) pos) tb) : QW X κ (.BoolOp .Or (a :: b :: zd5) pos) (zk8 ta tb) :=
  (wz1 ha hb).imp fun σ H Q hh_ => by
    obtain ⟨ps, c, w, e, q⟩ := hh_
    unfold zk8 at e
    cases e1 : ta ps with
    | none => rw [e1] at e; cases e
    | some k =>
      rw [e1] at e
      refine ⟨ps, k, w, e1, fun H1 s1 => ?_⟩
      cases k with
      | true =>
        rw [if_pos rfl]
        have : c = true := by simpa using e.symm
        subst this; exact q H1 s1
      | false => rw [if_neg Bool.false_ne_true]; exact ⟨ps, c, w.same s1, by simpa using e, fun H2 s2 => q H2 (s1.trans s2)⟩
theorem ya5 (h : QW X κ a ta) : QT X κ a ta := PW.pt h
theorem yf0 (ha : QT X κ a ta) : QT X κ (.UnaryOp .Not a pos) (zh4 ta) :=
  (wa5 ha).imp fun σ H Q hh_ => by
    obtain ⟨ps, c, w, e, q⟩ := hh_
    unfold zh4 at e
    cases e1 : ta ps with
    | none => rw [e1] at e; cases e
    | some k =>
      rw [e1] at e
      have : c = !k := by simpa using e.symm
      subst this
      exact ⟨ps, k, w, e1, fun H1 s1 => q H1 s1⟩
noncomputable def yi1 (f g : PSt -> Option D) : PSt -> Option D := fun ps => (f ps).bind fun c => match c with
  | .bl true => g ps
  | .bl false => some (.bl false)
  | _ => none
noncomputable def fOr (f g : PSt -> Option D) : PSt -> Option D := fun ps => (f ps).bind fun c => match c with
  | .bl true => some (.bl true)
  | .bl false => g ps
  | _ => none
theorem wn1 {d : D} {α : Type} {x y : Option α} {z : α} (h : (match d with | .bl true => x | .bl false => y | _ => none) = some z) : ∃ b, d = .bl b /\ (if b = true then x else y) = some z := by
  cases d with
  | bl b => cases b <;> exact ⟨_, rfl, h⟩
  | _ => cases h
theorem yp7 {op} (h : QP X κ a fa) : QP X κ (.BoolOp op [a] pos) fa := wt2 h
theorem yz2 (ha : QP X κ a fa) (hb : QP X κ (.BoolOp .And (b :: zd5) pos) fb) : QP X κ (.BoolOp .And (a :: b :: zd5) pos) (yi1 fa fb) :=
  (wt3 ha hb).imp fun σ H Q hh_ => by
    obtain ⟨ps, d, w, e, q⟩ := hh_
    unfold yi1 at e
    cases e1 : fa ps with
    | none => rw [e1] at e; cases e
    | some k =>
      rw [e1] at e
      obtain ⟨c, rfl, e2⟩ := wn1 (x := fb ps) (y := some (.bl false)) e
      refine ⟨ps, _, w, e1, fun v H1 fv s1 _ _ r1 => ⟨c, r1.is_bl, ?_⟩⟩
      cases c with
      | true => rw [if_pos rfl] at e2 |-; exact ⟨ps, d, w.same s1, e2, q.after s1⟩
      | false =>
        rw [if_neg Bool.false_ne_true] at e2 |-
        cases e2; exact (q.after s1).now (.bl false)
theorem xx1 (ha : QP X κ a fa) (hb : QP X κ (.BoolOp .Or (b :: zd5) pos) fb) : QP X κ (.BoolOp .Or (a :: b :: zd5) pos) (fOr fa fb) :=
  (wz2 ha hb).imp fun σ H Q hh_ => by
    obtain ⟨ps, d, w, e, q⟩ := hh_
    unfold fOr at e
    cases e1 : fa ps with
    | none => rw [e1] at e; cases e
    | some k =>
      rw [e1] at e
      obtain ⟨c, rfl, e2⟩ := wn1 (d := k) (x := some (D.bl true)) (y := fb ps) (z := d) e
      refine ⟨ps, _, w, e1, fun v H1 fv s1 _ _ r1 => ⟨c, r1.is_bl, ?_⟩⟩
      cases c with
      | true => rw [if_pos rfl] at e2 |-; cases e2; exact (q.after s1).now (.bl true)
      | false => rw [if_neg Bool.false_ne_true] at e2 |-; exact ⟨ps, d, w.same s1, e2, q.after s1⟩
noncomputable def zk3 (f : PSt -> Option D) : PSt -> Option D := fun ps => (f ps).bind fun c => match c with
  | .int i => some (.int (-i))
  | _ => none
theorem yb8 (ha : QV X κ a fa) : QP X κ (.UnaryOp .USub a pos) (zk3 fa) :=
  (wz3 wt9 ha).imp fun σ H Q hh_ => by
    obtain ⟨ps, d, w, e, q⟩ := hh_
    unfold zk3 at e
    cases e1 : fa ps with
    | none => rw [e1] at e; cases e
    | some k =>
      rw [e1] at e
      cases k with
      | int i => cases e; exact ⟨ps, _, w, e1, fun v H1 fp s1 r1 => ⟨i, r1.is_int, (q.after s1).now (.int _)⟩⟩
      | _ => cases e
end
end L2
namespace L2
open PySem PySem.Spec PyProof.Rows
section
variable {X : Cx} {κ : Str -> Addr}
theorem Inv.lstR {pins : List (Addr × Obj)} {σ : St} {H : Hp} {s : Shared} {l : Addr} {xs : List V} (I : Inv X pins σ H s) (h : Rd H l (.lst xs)) :
    xs.length <= sizeLine /\ ∃ (its : List Value) (n : Nat), ze5 xs its /\ xs.length = its.length /\ s.heap.get? l = some { cls := .type "list", data := .seq its.toArray n } := by
  obtain ⟨z, its, n, r, e⟩ := h.ok I.hok
  exact ⟨z, its, n, r, r.length, e⟩
theorem wq0 : OpR X (binaryOp .Add) (fun x y H Q => ∃ l b xs zs, x = .ref l /\ y = .ref b /\ Rd H l (.lst xs) /\ Rd H b (.lst zs) /\ xs.length + zs.length <= sizeLine /\ ∀ p, H p = none -> Q (.ref p) (upd H p (.lst (xs ++ zs)))) := by
  intro pins s σ H x y v u Q I rx ry h
  obtain ⟨l, b, xs, zs, rfl, rfl, hH, hB, hz, q⟩ := h
  cases rx
  cases ry
  obtain ⟨z, its, n, r, hl, e⟩ := I.lstR hH
  obtain ⟨z2, its2, n2, r2, hl2, e2⟩ := I.lstR hB
  refine PySem.P.add_list e e2 ?_ (by rw [List.size_toArray, List.size_toArray]; omega)
  have ea : its.toArray ++ its2.toArray = (its ++ its2).toArray := by simp
  rw [ea]
  exact ⟨.ref _, _, I.lnew (t' := s.toks) (r.append r2) (by rw [List.length_append]; omega), rfl, q _ I.fresh⟩
theorem Rep.lst_inv {K : PySem.W.Frag} {H : Hp} {v : V} {o : Bool} {ds : List D} {fp : List Addr} (r : Rep K κ H v (.lst o ds) fp) : ∃ a vs g, v = .ref a /\ Rd H a (.lst vs) /\ Reps K κ H vs ds g /\ g.Sublist fp := by
  cases r with
  | lst h hs => exact ⟨_, _, _, rfl, .inl h, hs, List.sublist_cons_self _ _⟩
  | lstF h hs => exact ⟨_, _, _, rfl, .inr ⟨_, h⟩, hs, .refl _⟩
theorem Rep.lstT_inv {K : PySem.W.Frag} {H : Hp} {v : V} {ds : List D} {fp : List Addr} (r : Rep K κ H v (.lst true ds) fp) : ∃ a vs g, v = .ref a /\ H a = some (.lst vs) /\ Reps K κ H vs ds g /\ fp = a :: g := by
  cases r with
  | lst h hs => exact ⟨_, _, _, rfl, h, hs, rfl⟩
theorem Rep.objT_inv {K : PySem.W.Frag} {H : Hp} {v : V} {C : Str} {ns : List Str} {ds : List D} {fp : List Addr} (r : Rep K κ H v (.obj true C ns ds) fp) : ∃ a dx fs g, v = .ref a /\ H a = some (.ins (κ C) dx fs) /\ fs.map (·.1) = ns /\ Reps K κ H (fs.map (·.2)) ds g /\ fp = a :: g := by
  cases r with
  | obj h e hs => exact ⟨_, _, _, _, rfl, h, e, hs, rfl⟩
theorem Rep.tup_inv {K : PySem.W.Frag} {H : Hp} {v : V} {ds : List D} {fp : List Addr} (r : Rep K κ H v (.tup ds) fp) : ∃ a vs, v = .ref a /\ SqT K H a vs /\ Reps K κ H vs ds [] := by
  cases r with
  | tup h hs => exact ⟨_, _, rfl, h, hs⟩
theorem Reps.pair {K : PySem.W.Frag} {H : Hp} {vs : List V} {ds : List D} {fp : List Addr} (r : Reps K κ H vs ds fp) (h : D.imms ds = true) : Paired (fun v d => Rep K κ H v d []) vs ds := by
  have e := r.imm h
  subst e
  exact r.nilp
theorem Rep.con_inv {K : PySem.W.Frag} {H : Hp} {v : V} {ds : List D} {fp : List Addr} (r : Rep K κ H v (.con ds) fp) : ∃ a vs, v = .ref a /\ SqF K H a vs /\ Reps K κ H vs ds [] := by
  cases r with
  | con h hs => exact ⟨_, _, rfl, h, hs⟩
theorem xt4 {K : PySem.W.Frag} {H : Hp} {vs : List V} {ds : List D} {Q : VK} {p : Addr} (hp : H p = none) (r : Paired (fun v d => Rep K κ H v d []) vs ds) (q : zw4 K κ H (.lst true ds) Q) : Q (.ref p) (upd H p (.lst vs)) :=
  q.at hp (fv := [p]) (fun a ha => by simp at ha; subst ha; exact hp) (by simp) (.lst zj5 ((Reps.ofp r).same (.new hp _)))
theorem xt5 {K : PySem.W.Frag} {H : Hp} {vs : List V} {ds : List D} {Q : VK} {p : Addr} (hp : H p = none) (r : Paired (fun v d => Rep K κ H v d []) vs ds) (q : zw4 K κ H (.tup ds) Q) : Q (.ref p) (upd H p (.tup vs)) :=
  q.at hp (fv := []) (fun a ha => by simp at ha) (by simp) (.tup (.inl (.inl zj5)) ((Reps.ofp r).same (.new hp _)))
noncomputable def zc9 : D -> D -> Option D
  | .int i, .int j => some (.int (i + j))
  | .str x, .str y => if x.length + y.length <= sizeLine then some (.str (x ++ y)) else none
  | .lst _ xs, .lst _ ys => if (D.imms xs && D.imms ys && decide (xs.length + ys.length <= sizeLine)) = true then some (.lst true (xs ++ ys)) else none
  | _, _ => none
theorem bind_some {α β : Type} {o : Option α} {g : α -> Option β} {z : β} (h : o.bind g = some z) : ∃ x, o = some x /\ g x = some z := by
  cases o with
  | none => cases h
  | some x => exact ⟨x, rfl, h⟩
theorem zg9 {α : Type} {c : Prop} [Decidable c] {x : Option α} {z : α} (h : (if c then x else none) = some z) : c /\ x = some z := by
  by_cases k : c
  . rw [if_pos k] at h; exact ⟨k, h⟩
  . rw [if_neg k] at h; cases h
theorem zl1 : OpR X (binaryOp .Add) (POp X.K κ zc9) := by
  rintro pins s σ H x y v u Q I rx ry ⟨dx, dy, d, fx, fy, r1, r2, e, q⟩
  unfold zc9 at e
  split at e
  . rename_i i j
    cases e; exact yl1 pins s σ H x y v u Q I rx ry ⟨i, j, r1.is_int, r2.is_int, q.now (.int _)⟩
  . rename_i i j
    obtain ⟨hc, e⟩ := zg9 e
    cases e; exact xw1 pins s σ H x y v u Q I rx ry ⟨i, j, r1.is_str, r2.is_str, hc, q.now (.str _)⟩
  . rename_i o xs o' ys
    obtain ⟨hc, e⟩ := zg9 e
    simp only [Bool.and_eq_true, decide_eq_true_eq] at hc
    cases e
    obtain ⟨a, vs, g, rfl, h1, s1, _⟩ := r1.lst_inv
    obtain ⟨b, us, g', rfl, h2, s2, _⟩ := r2.lst_inv
    exact wq0 pins s σ H _ _ v u Q I rx ry ⟨a, b, vs, us, rfl, rfl, h1, h2, by rw [s1.length, s2.length]; exact hc.2, fun p hp => xt4 hp (Paired.app (s1.pair hc.1.1) (s2.pair hc.1.2)) q⟩
  . cases e
noncomputable def dII (C : Int -> Int -> Bool) (g : Int -> Int -> D) : D -> D -> Option D
  | .int i, .int j => if C i j = true then some (g i j) else none
  | _, _ => none
theorem yv7 {C : Int -> Int -> Bool} {g : Int -> Int -> D} {x y d : D} (h : dII C g x y = some d) : ∃ i j, x = .int i /\ y = .int j /\ C i j = true /\ d = g i j := by
  unfold dII at h
  split at h
  . obtain ⟨hc, h⟩ := zg9 h
    cases h; exact ⟨_, _, rfl, rfl, hc, rfl⟩
  . cases h
noncomputable def zl7 : D -> D -> Option D
  | .int i, .int j => some (.int (i - j))
  | _, _ => none
theorem yj0 : OpR X (binaryOp .Sub) (POp X.K κ zl7) := by
  rintro pins s σ H x y v u Q I rx ry ⟨dx, dy, d, fx, fy, r1, r2, e, q⟩
  unfold zl7 at e
  split at e
  . rename_i i j
    cases e; exact wt6 pins s σ H x y v u Q I rx ry ⟨i, j, r1.is_int, r2.is_int, q.now (.int _)⟩
  . cases e
noncomputable def yr6 (i j : Int) : Bool := (decide (-(2 ^ 64) < i) && decide (i < 2 ^ 64)) || (decide (-(2 ^ 64) < j) && decide (j < 2 ^ 64))
noncomputable def zq1 : D -> D -> Option D
  | .int i, .int j => if yr6 i j = true then some (.int (i * j)) else none
  | .str x, .int n => if (decide (x.length <= 1) && decide (-(2 ^ 63) <= n) && decide (n <= 16777216)) = true then some (.str (Txt.mul x n)) else none
  | _, _ => none
theorem xx2 : OpR X (binaryOp .Mult) (fun x y H Q => ∃ z n, x = .str z /\ y = .int n /\ MulOk z n /\ Q (.str (Txt.mul z n)) H) := by
  rintro pins s σ H x y v u Q I rx ry ⟨z, n, e1, e2, ok, q⟩
  subst e1 e2
  obtain ⟨t, rfl⟩ := rx
  obtain ⟨t', rfl⟩ := ry
  exact SB.mul ok fun t' k => ⟨.str _, H, I.tok k, ⟨_, rfl⟩, q⟩
theorem yg7 : OpR X (binaryOp .Mult) (POp X.K κ zq1) := by
  rintro pins s σ H x y v u Q I rx ry ⟨dx, dy, d, fx, fy, r1, r2, e, q⟩
  unfold zq1 at e
  split at e
  . rename_i i j
    obtain ⟨hc, e⟩ := zg9 e
    cases e
    refine yb4 pins s σ H x y v u Q I rx ry ⟨i, j, r1.is_int, r2.is_int, ?_, q.now (.int _)⟩
    unfold yr6 at hc
    simp only [Bool.or_eq_true, Bool.and_eq_true, decide_eq_true_eq] at hc
    exact hc
  . rename_i z n
    obtain ⟨hc, e⟩ := zg9 e
    simp only [Bool.and_eq_true, decide_eq_true_eq] at hc
    cases e
    exact xx2 pins s σ H _ _ v u Q I rx ry ⟨z, n, r1.is_str, r2.is_int, mulOk_of 1 16777216 hc.1.1 (by omega) hc.1.2 (by decide) (by decide), q.now (.str _)⟩
  . cases e
noncomputable def zh1 : D -> D -> Option D := dII (fun _ j => decide (0 < j)) fun i j => .int (i % j)
theorem zl5 : OpR X (binaryOp .Mod) (POp X.K κ zh1) := by
  rintro pins s σ H x y v u Q I rx ry ⟨dx, dy, d, fx, fy, r1, r2, e, q⟩
  obtain ⟨i, j, rfl, rfl, hc, rfl⟩ := yv7 e
  exact yy2 pins s σ H x y v u Q I rx ry ⟨i, j, r1.is_int, r2.is_int, of_decide_eq_true hc, q.now (.int _)⟩
noncomputable def zl8 : D -> D -> Option D := dII (fun _ j => decide (0 < j) && decide (j < 1073741824)) fun i j => .int (i / j)
theorem zv2 : OpR X (binaryOp .FloorDiv) (POp X.K κ zl8) := by
  rintro pins s σ H x y v u Q I rx ry ⟨dx, dy, d, fx, fy, r1, r2, e, q⟩
  obtain ⟨i, j, rfl, rfl, hc, rfl⟩ := yv7 e
  simp only [Bool.and_eq_true, decide_eq_true_eq] at hc
  exact xs5 pins s σ H x y v u Q I rx ry ⟨i, j, r1.is_int, r2.is_int, hc, q.now (.int _)⟩
noncomputable def yr7 : D -> D -> Option D := dII (fun i j => decide (0 <= j) && decide (j <= 1000000) && decide (i.natAbs < 2 ^ 64)) fun i j => .int (i ^ j.toNat)
theorem yz3 : OpR X (binaryOp .Pow) (POp X.K κ yr7) := by
  rintro pins s σ H x y v u Q I rx ry ⟨dx, dy, d, fx, fy, r1, r2, e, q⟩
  obtain ⟨i, j, rfl, rfl, hc, rfl⟩ := yv7 e
  simp only [Bool.and_eq_true, decide_eq_true_eq] at hc
  exact wt7 pins s σ H x y v u Q I rx ry ⟨i, j, r1.is_int, r2.is_int, ⟨hc.1.1, hc.1.2, hc.2⟩, q.now (.int _)⟩
noncomputable def D.ints : List D -> Option (List Int)
  | [] => some []
  | .int i :: ds => (D.ints ds).map (i :: ·)
  | _ :: _ => none
theorem yl3 {K : PySem.W.Frag} {H : Hp} : ∀ {vs : List V} {ds : List D} {fp : List Addr} {ns : List Int}, Reps K κ H vs ds fp -> D.ints ds = some ns -> vs = ns.map V.int
  | _, _, _, _, .nil, e => by cases e; rfl
  | _, d :: ds, _, ns, .cons h hs, e => by
    cases d with
    | int i =>
      rw [D.ints] at e
      cases e1 : D.ints ds with
      | none => rw [e1] at e; cases e
      | some ms => rw [e1] at e; cases e; rw [h.is_int, yl3 hs e1]; rfl
    | _ => cases e
noncomputable def dLt : D -> D -> Option D
  | .int i, .int j => some (.bl (decide (i < j)))
  | .tup xs, .tup ys => (D.ints xs).bind fun ns => (D.ints ys).map fun ms => .bl (HT.lexLt ns ms)
  | _, _ => none
theorem yf6 (hu : X.A.units < cLine) : OpR X (compareOp .Lt) (POp X.K κ dLt) := by
  rintro pins s σ H x y v u Q I rx ry ⟨dx, dy, d, fx, fy, r1, r2, e, q⟩
  unfold dLt at e
  split at e
  . rename_i i j
    cases e; exact wz4 pins s σ H x y v u Q I rx ry ⟨i, j, r1.is_int, r2.is_int, q.now (.bl _)⟩
  . rename_i xs ys
    obtain ⟨ns, e1, e⟩ := bind_some e
    obtain ⟨ms, e2, e⟩ := Option.map_eq_some_iff.mp e
    subst e
    obtain ⟨a, vs, rfl, h1, s1⟩ := r1.tup_inv
    obtain ⟨b, us, rfl, h2, s2⟩ := r2.tup_inv
    rw [yl3 s1 e1] at h1
    rw [yl3 s2 e2] at h2
    exact wu6 hu pins s σ H _ _ v u Q I rx ry ⟨a, b, ns, ms, rfl, rfl, h1, h2, q.now (.bl _)⟩
  . cases e
noncomputable def dLe : D -> D -> Option D
  | .int i, .int j => some (.bl (decide (i <= j)))
  | _, _ => none
theorem xx3 : OpR X (compareOp .LtE) (POp X.K κ dLe) := by
  rintro pins s σ H x y v u Q I rx ry ⟨dx, dy, d, fx, fy, r1, r2, e, q⟩
  unfold dLe at e
  split at e
  . rename_i i j
    cases e; exact wz5 pins s σ H x y v u Q I rx ry ⟨i, j, r1.is_int, r2.is_int, q.now (.bl _)⟩
  . cases e
noncomputable def dGt : D -> D -> Option D
  | .int i, .int j => some (.bl (decide (j < i)))
  | _, _ => none
theorem yv8 : OpR X (compareOp .Gt) (POp X.K κ dGt) := by
  rintro pins s σ H x y v u Q I rx ry ⟨dx, dy, d, fx, fy, r1, r2, e, q⟩
  unfold dGt at e
  split at e
  . rename_i i j
    cases e; exact wz6 pins s σ H x y v u Q I rx ry ⟨i, j, r1.is_int, r2.is_int, q.now (.bl _)⟩
  . cases e
noncomputable def dGe : D -> D -> Option D
  | .int i, .int j => some (.bl (decide (j <= i)))
  | _, _ => none
theorem xx4 : OpR X (compareOp .GtE) (POp X.K κ dGe) := by
  rintro pins s σ H x y v u Q I rx ry ⟨dx, dy, d, fx, fy, r1, r2, e, q⟩
  unfold dGe at e
  split at e
  . rename_i i j
    cases e; exact wz7 pins s σ H x y v u Q I rx ry ⟨i, j, r1.is_int, r2.is_int, q.now (.bl _)⟩
  . cases e
mutual
noncomputable def D.data : D -> Option PyData
  | .non => some .none
  | .bl b => some (.bool b)
  | .int i => some (.int i)
  | .str x => some (.str x)
  | .tup xs => (D.datas xs).map .tuple
  | .lst _ xs => (D.datas xs).map .list
  | _ => none
noncomputable def D.datas : List D -> Option (List PyData)
  | [] => some []
  | d :: ds => d.data.bind fun p => (D.datas ds).map (p :: ·)
end
theorem Reps.dps {K : PySem.W.Frag} {H : Hp} {vs : List V} {ds : List D} {fp : List Addr} (h : Reps K κ H vs ds fp) : ∀ {p : List PyData}, D.datas ds = some p -> DpAll K H vs p :=
  Reps.rec (motive_1 := fun v d _ _ => ∀ {p : PyData}, d.data = some p -> Dp K H v p) (motive_2 := fun vs ds _ _ => ∀ {p : List PyData}, D.datas ds = some p -> DpAll K H vs p)
    (fun e => by cases e; exact .non) (fun b _ e => by cases e; exact .bl b) (fun b _ e => by cases e; exact .int b) (fun b _ e => by cases e; exact .str b) (fun b _ e => nomatch e)
    (fun h _ ih _ e => by obtain ⟨ps, e1, e⟩ := Option.map_eq_some_iff.mp e; subst e; exact .tup h (ih e1)) (fun _ _ _ _ e => nomatch e)
    (fun h _ ih _ e => by obtain ⟨ps, e1, e⟩ := Option.map_eq_some_iff.mp e; subst e; exact .lst (.inl (.inl h)) (ih e1))
    (fun h _ ih _ e => by obtain ⟨ps, e1, e⟩ := Option.map_eq_some_iff.mp e; subst e; exact .lst (.inl (.inr ⟨_, h⟩)) (ih e1))
    (fun _ _ _ _ _ e => nomatch e) (fun _ _ _ _ _ e => nomatch e) (fun _ _ _ _ _ e => nomatch e) (fun _ _ _ _ _ e => nomatch e)
    (fun e => by cases e; exact .nil)
    (fun _ _ i1 i2 _ e => by
      obtain ⟨q, e1, e⟩ := bind_some e
      obtain ⟨qs, e2, e⟩ := Option.map_eq_some_iff.mp e
      subst e
      exact .cons (i1 e1) (i2 e2)) h
theorem Rep.dp {K : PySem.W.Frag} {H : Hp} {v : V} {d : D} {fp : List Addr} {p : PyData} (h : Rep K κ H v d fp) (e : d.data = some p) : Dp K H v p := by
  have := (Reps.one h).dps (p := [p]) (by show (d.data.bind _) = _; rw [e]; rfl)
  cases this; assumption
noncomputable def yr8 (x y : D) : Option Bool := x.data.bind fun a => y.data.bind fun b => if (a.canLay0 && b.canLay0 && decide (a.depth <= 60)) = true then some (PyData.eqv a b) else none
noncomputable def eqB (x y : D) : Option Bool := match x, y with
  | .int i, .int j => some (decide (i = j))
  | .str i, .str j => some (decide (i = j))
  | x, y => yr8 x y
noncomputable def dEq (x y : D) : Option D := (eqB x y).map .bl
noncomputable def dNe (x y : D) : Option D := (eqB x y).map fun b => .bl (!b)
theorem xh8 {x y : D} {b : Bool} (h : eqB x y = some b) : (∃ i j, x = .int i /\ y = .int j /\ b = decide (i = j)) \/ (∃ i j, x = .str i /\ y = .str j /\ b = decide (i = j)) \/
    ∃ p q, x.data = some p /\ y.data = some q /\ p.canLay0 = true /\ q.canLay0 = true /\ p.depth <= 60 /\ b = PyData.eqv p q := by
  have gen : yr8 x y = some b -> ∃ p q, x.data = some p /\ y.data = some q /\ p.canLay0 = true /\ q.canLay0 = true /\ p.depth <= 60 /\ b = PyData.eqv p q := fun h => by
    unfold yr8 at h
    cases e1 : x.data with
    | none => rw [e1] at h; cases h
    | some p =>
      rw [e1] at h
      cases e2 : y.data with
      | none => rw [e2] at h; cases h
      | some q =>
        rw [e2] at h
        have h' : (if (p.canLay0 && q.canLay0 && decide (p.depth <= 60)) = true then some (PyData.eqv p q) else none) = some b := h
        split at h'
        . rename_i hc
          simp only [Bool.and_eq_true, decide_eq_true_eq] at hc
          exact ⟨p, q, rfl, rfl, hc.1.1, hc.1.2, hc.2, (Option.some.inj h').symm⟩
        . cases h'
  unfold eqB at h
  split at h
  . cases h; exact .inl ⟨_, _, rfl, rfl, rfl⟩
  . cases h; exact .inr (.inl ⟨_, _, rfl, rfl, rfl⟩)
  . exact .inr (.inr (gen h))
theorem zn5 (hu : X.A.units + 64 < cLine) : OpR X (compareOp .Eq) (POp X.K κ dEq) := by
  rintro pins s σ H x y v u Q I rx ry ⟨dx, dy, d, fx, fy, r1, r2, e, q⟩
  unfold dEq at e
  cases e1 : eqB dx dy with
  | none => rw [e1] at e; cases e
  | some b =>
    rw [e1] at e
    cases e
    rcases xh8 e1 with ⟨i, j, rfl, rfl, rfl⟩ | ⟨i, j, rfl, rfl, rfl⟩ | ⟨p, p', h1, h2, h3, h4, h5, rfl⟩
    . rw [r1.is_int] at rx; rw [r2.is_int] at ry
      exact xv9 pins s σ H _ _ v u Q I rx ry ⟨rfl, by rw [show decide (V.int i = V.int j) = decide (i = j) by simp]; exact q.now (.bl _)⟩
    . rw [r1.is_str] at rx; rw [r2.is_str] at ry
      exact xv9 pins s σ H _ _ v u Q I rx ry ⟨rfl, by rw [show decide (V.str i = V.str j) = decide (i = j) by simp]; exact q.now (.bl _)⟩
    . exact wv4 hu pins s σ H _ _ v u Q I rx ry ⟨p, p', r1.dp h1, r2.dp h2, h3, h4, h5, q.now (.bl _)⟩
theorem xm4 (hu : X.A.units + 64 < cLine) : OpR X (compareOp .NotEq) (POp X.K κ dNe) := by
  rintro pins s σ H x y v u Q I rx ry ⟨dx, dy, d, fx, fy, r1, r2, e, q⟩
  unfold dNe at e
  cases e1 : eqB dx dy with
  | none => rw [e1] at e; cases e
  | some b =>
    rw [e1] at e
    cases e
    rcases xh8 e1 with ⟨i, j, rfl, rfl, rfl⟩ | ⟨i, j, rfl, rfl, rfl⟩ | ⟨p, p', h1, h2, h3, h4, h5, rfl⟩
    . rw [r1.is_int] at rx; rw [r2.is_int] at ry
      exact wm8 pins s σ H _ _ v u Q I rx ry ⟨rfl, by rw [show decide (V.int i = V.int j) = decide (i = j) by simp]; exact q.now (.bl _)⟩
    . rw [r1.is_str] at rx; rw [r2.is_str] at ry
      exact wm8 pins s σ H _ _ v u Q I rx ry ⟨rfl, by rw [show decide (V.str i = V.str j) = decide (i = j) by simp]; exact q.now (.bl _)⟩
    . exact wv5 hu pins s σ H _ _ v u Q I rx ry ⟨p, p', r1.dp h1, r2.dp h2, h3, h4, h5, q.now (.bl _)⟩
noncomputable def zl6 : D -> Bool
  | .non => true
  | _ => false
theorem wi9 {K : PySem.W.Frag} {H : Hp} {v : V} {d : D} {fp : List Addr} (r : Rep K κ H v d fp) : decide (v = .non) = zl6 d := by cases r <;> first | rfl | simp [zl6]
noncomputable def dIs : D -> D -> Option D
  | x, .non => some (.bl (zl6 x))
  | _, _ => none
theorem xx5 : OpR X (compareOp .Is) (POp X.K κ dIs) := by
  rintro pins s σ H x y v u Q I rx ry ⟨dx, dy, d, fx, fy, r1, r2, e, q⟩
  cases dy with
  | non =>
    cases e; cases r2
    refine wu0 pins s σ H x _ v u Q I rx ry ⟨rfl, ?_⟩
    rw [wi9 r1]; exact q.now (.bl _)
  | _ => cases e
noncomputable def D.flat : D -> Option V
  | .non => some .non
  | .bl b => some (.bl b)
  | .int i => some (.int i)
  | .str x => some (.str x)
  | _ => none
noncomputable def D.flats : List D -> Option (List V)
  | [] => some []
  | d :: ds => d.flat.bind fun v => (D.flats ds).map (v :: ·)
theorem xt6 {K : PySem.W.Frag} {H : Hp} {v w : V} {d : D} {fp : List Addr} (r : Rep K κ H v d fp) (h : d.flat = some w) : v = w /\ zw8 v = true := by
  cases r <;> first | (cases h; exact ⟨rfl, rfl⟩) | cases h
theorem xm5 {K : PySem.W.Frag} {H : Hp} : ∀ {vs ws : List V} {ds : List D} {fp : List Addr}, Reps K κ H vs ds fp -> D.flats ds = some ws -> vs = ws /\ vs.all zw8 = true
  | _, _, _, _, .nil, e => by cases e; exact ⟨rfl, rfl⟩
  | _, ws, d :: ds, _, .cons h hs, e => by
    rw [D.flats] at e
    cases e1 : d.flat with
    | none => rw [e1] at e; cases e
    | some w =>
      rw [e1] at e
      cases e2 : D.flats ds with
      | none => rw [e2] at e; cases e
      | some us =>
        rw [e2] at e; cases e
        obtain ⟨a1, a2⟩ := xt6 h e1
        obtain ⟨b1, b2⟩ := xm5 hs e2
        exact ⟨by rw [a1, b1], by rw [List.all_cons, a2, b2]; rfl⟩
noncomputable def yg9 (x : D) (ds : List D) : Option Bool := x.flat.bind fun v => (D.flats ds).map fun ws => inV v ws
noncomputable def inB (x : D) : D -> Option Bool
  | .lst _ ds => yg9 x ds
  | .tup ds => yg9 x ds
  | _ => none
noncomputable def dIn (x y : D) : Option D := (inB x y).map .bl
theorem wv7 {H : Hp} {x y : V} {dx dy : D} {fx fy : List Addr} {b : Bool} (r1 : Rep X.K κ H x dx fx) (r2 : Rep X.K κ H y dy fy) (e : inB dx dy = some b) :
    ∃ p xs, y = .ref p /\ (SqL X.K H p xs \/ SqT X.K H p xs) /\ zw8 x = true /\ xs.all zw8 = true /\ b = inV x xs := by
  have gen : ∀ {vs : List V} {ds : List D} {g : List Addr}, Reps X.K κ H vs ds g -> yg9 dx ds = some b -> zw8 x = true /\ vs.all zw8 = true /\ b = inV x vs := fun {vs ds g} rs h => by
    unfold yg9 at h
    cases e1 : dx.flat with
    | none => rw [e1] at h; cases h
    | some w =>
      rw [e1] at h
      cases e2 : D.flats ds with
      | none => rw [e2] at h; cases h
      | some ws =>
        rw [e2] at h
        obtain ⟨a1, a2⟩ := xt6 r1 e1
        obtain ⟨b1, b2⟩ := xm5 rs e2
        subst a1 b1
        exact ⟨a2, b2, (Option.some.inj h).symm⟩
  cases dy with
  | lst o ds =>
    obtain ⟨a, vs, g, rfl, h, hs, _⟩ := r2.lst_inv
    obtain ⟨g1, g2, g3⟩ := gen hs e
    exact ⟨a, vs, rfl, .inl (.inl h), g1, g2, g3⟩
  | tup ds =>
    obtain ⟨a, vs, rfl, h, hs⟩ := r2.tup_inv
    obtain ⟨g1, g2, g3⟩ := gen hs e
    exact ⟨a, vs, rfl, .inr h, g1, g2, g3⟩
  | _ => cases e
theorem wj0 : OpR X (compareOp .In) (POp X.K κ dIn) := by
  rintro pins s σ H x y v u Q I rx ry ⟨dx, dy, d, fx, fy, r1, r2, e, q⟩
  unfold dIn at e
  cases e1 : inB dx dy with
  | none => rw [e1] at e; cases e
  | some b =>
    rw [e1] at e; cases e
    obtain ⟨p, xs, ey, h, f1, f2, rfl⟩ := wv7 r1 r2 e1
    exact wc1 pins s σ H x y v u Q I rx ry ⟨p, xs, ey, h, f1, f2, q.now (.bl _)⟩
end
end L2
namespace L2
open PySem PySem.Spec PyProof.Rows
theorem Reps.getS {K : PySem.W.Frag} {κ : Str -> Addr} {H : Hp} : ∀ {vs : List V} {ds : List D} {fp : List Addr} {i : Nat} {d : D}, Reps K κ H vs ds fp -> ds[i]? = some d -> ∃ v f, vs[i]? = some v /\ Rep K κ H v d f /\ f.Sublist fp
  | _, _, _, _, _, .nil, e => by simp at e
  | _, _, _, 0, _, .cons h _, e => by simp at e; subst e; exact ⟨_, _, rfl, h, List.sublist_append_left _ _⟩
  | _, _, _, i + 1, _, .cons _ hs, e => by
    obtain ⟨v, f, h1, h2, h3⟩ := Reps.getS (i := i) hs (by simpa using e)
    exact ⟨v, f, by simpa using h1, h2, h3.trans (List.sublist_append_right _ _)⟩
theorem Reps.atI {K : PySem.W.Frag} {κ : Str -> Addr} {H : Hp} {vs : List V} {ds : List D} {fp : List Addr} {i : Int} {d : D} (r : Reps K κ H vs ds fp) (h : L2.atI ds i = some d) : ∃ v f, L2.atI vs i = some v /\ Rep K κ H v d f /\ f.Sublist fp := by
  unfold L2.atI at h |-
  rw [r.length]
  cases e : ixN ds.length i with
  | none => rw [e] at h; cases h
  | some j => rw [e] at h; exact r.getS h
section
variable {X : Cx} {κ : Str -> Addr} {e a b : Expr} {es : List Expr} {f fa fb : PSt -> Option D} {g : PSt -> Option (List D)} {pos p2 : Pos}
noncomputable def za3 : PSt -> Option (List D) := fun _ => some []
noncomputable def za1 (f : PSt -> Option D) (g : PSt -> Option (List D)) : PSt -> Option (List D) := fun ps => (f ps).bind fun d => (g ps).bind fun ds => some (d :: ds)
theorem ym6 {ps : PSt} {ds : List D} (h : za1 f g ps = some ds) : ∃ d es, f ps = some d /\ g ps = some es /\ ds = d :: es := by
  unfold za1 at h
  cases e1 : f ps with
  | none => rw [e1] at h; cases h
  | some d =>
    rw [e1] at h
    cases e2 : g ps with
    | none => rw [e2] at h; cases h
    | some es => rw [e2] at h; cases h; exact ⟨d, es, rfl, rfl, rfl⟩
theorem zc6 : QVA X κ [] za3 := yb5.imp fun σ H Q ⟨ps, ds, w, e, q⟩ => by cases e; exact q [] H [] (.refl H) .nil
theorem zb0 (ha : QV X κ e f) (hr : QVA X κ es g) (hs : starEach (e :: es) X.env = (false, eval e X.env) :: starEach es X.env := by rfl) : QVA X κ (e :: es) (za1 f g) :=
  (zo1 ha hr hs).imp fun σ H Q hh_ => by
    obtain ⟨ps, ds, w, e, q⟩ := hh_
    obtain ⟨d, es, e1, e2, rfl⟩ := ym6 e
    exact ⟨ps, d, w, e1, fun v H1 fp s1 r1 => ⟨ps, es, w.same s1, e2, fun vs H2 fq s2 r2 => q _ H2 _ (s1.trans s2) (.cons (r1.same s2) r2)⟩⟩
theorem ze4 : QPA X κ [] za3 := yb5.imp fun σ H Q ⟨ps, ds, w, e, q⟩ => by cases e; exact q [] H [] (.refl H) (fun _ h => absurd h (by simp)) List.nodup_nil .nil
theorem wc8 {K : PySem.W.Frag} {H1 : Hp} {v : V} {d : D} {fv fw : List Addr} (r : Rep K κ H1 v d fv) (n1 : fv.Nodup) (hw : ∀ a ∈ fw, H1 a = none) (n2 : fw.Nodup) : (fv ++ fw).Nodup := by
  rw [List.nodup_append]
  refine ⟨n1, n2, fun a ha b hb e => ?_⟩
  subst e
  obtain ⟨o, h, _⟩ := r.own a ha
  rw [hw a hb] at h; cases h
theorem zc1 (ha : QP X κ e f) (hr : QPA X κ es g) (hs : starEach (e :: es) X.env = (false, eval e X.env) :: starEach es X.env := by rfl) : QPA X κ (e :: es) (za1 f g) :=
  (zo1 ha hr hs).imp fun σ H Q hh_ => by
    obtain ⟨ps, ds, w, e, q⟩ := hh_
    obtain ⟨d, es, e1, e2, rfl⟩ := ym6 e
    refine ⟨ps, d, w, e1, fun v H1 fv s1 n1 nd1 r1 => ⟨ps, es, w.same s1, e2, fun vs H2 fw s2 n2 nd2 r2 => ?_⟩⟩
    refine q _ H2 (fv ++ fw) (s1.trans s2) (fun a ha => ?_) (wc8 r1 nd1 n2 nd2) (.cons (r1.same s2) r2)
    rcases List.mem_append.mp ha with z | z
    . exact n1 a z
    . exact s1.grow a (n2 a z)
noncomputable def zh9 (g : PSt -> Option (List D)) : PSt -> Option D := fun ps => (g ps).bind fun ds => if (D.imms ds && decide (ds.length <= 1000)) = true then some (.tup ds) else none
noncomputable def ze2 (g : PSt -> Option (List D)) : PSt -> Option D := fun ps => (g ps).bind fun ds => if ds.length <= 1000 then some (.lst true ds) else none
theorem zp2 {x1} (h : QPA X κ es g) : QP X κ (.Tuple es x1 pos) (zh9 g) :=
  (wu4 h).imp fun σ H Q hh_ => by
    obtain ⟨ps, d, w, e, q⟩ := hh_
    obtain ⟨ds, e1, e2⟩ := bind_some e
    obtain ⟨hc, e3⟩ := zg9 e2
    cases e3
    rw [Bool.and_eq_true, decide_eq_true_eq] at hc
    refine ⟨ps, ds, w, e1, fun vs H1 fv s1 n1 nd1 r1 => ⟨by rw [r1.length]; exact xk2 hc.2, fun p hp => ?_⟩⟩
    exact xt5 hp (r1.pair hc.1) (q.after s1)
theorem zj0 (h : QPA X κ es g) : QP X κ (.List es pos) (ze2 g) :=
  (wu5 h).imp fun σ H Q hh_ => by
    obtain ⟨ps, d, w, e, q⟩ := hh_
    obtain ⟨ds, e1, e2⟩ := bind_some e
    obtain ⟨hc, e3⟩ := zg9 e2
    cases e3
    refine ⟨ps, ds, w, e1, fun vs H1 fv s1 n1 nd1 r1 => ⟨by rw [r1.length]; exact xk2 hc, fun p hp => ?_⟩⟩
    refine q _ _ (p :: fv) (s1.trans (.new hp _)) (fun a ha => ?_) (List.nodup_cons.mpr ⟨fun hm => ?_, nd1⟩) (.lst zj5 (r1.same (.new hp _)))
    . rcases List.mem_cons.mp ha with z | z
      . rw [z]; exact s1.grow p hp
      . exact n1 a z
    . obtain ⟨o, h, _⟩ := r1.own p hm
      rw [hp] at h; cases h
noncomputable def dIx : D -> D -> Option D
  | .lst _ xs, .int i => atI xs i
  | .tup xs, .int i => atI xs i
  | .con xs, .int i => atI xs i
  | .str z, .int i => if z.length <= sizeLine then (atI z.cps.toList i).map fun c => .str ⟨#[c]⟩ else none
  | _, _ => none
theorem wc9 {K : PySem.W.Frag} {H : Hp} {x y : V} {dx dy d : D} {fx fy : List Addr} {Q : VK} (r1 : Rep K κ H x dx fx) (r2 : Rep K κ H y dy fy) (e : dIx dx dy = some d) (q : ∀ v f, Rep K κ H v d f -> f.Sublist fx -> Q v H) : rIx K x y H Q := by
  unfold dIx at e
  split at e
  . rename_i o xs i
    obtain ⟨a, vs, g, rfl, h, hs, sub⟩ := r1.lst_inv
    obtain ⟨v, f, h1, h2, h3⟩ := hs.atI e
    exact .inl ⟨a, vs, i, v, rfl, r2.is_int, .inl h, h1, q v f h2 (h3.trans sub)⟩
  . rename_i xs i
    obtain ⟨a, vs, rfl, h, hs⟩ := r1.tup_inv
    obtain ⟨v, f, h1, h2, h3⟩ := hs.atI e
    cases List.sublist_nil.mp h3
    exact .inr (.inl ⟨a, vs, i, v, rfl, r2.is_int, h, h1, q v [] h2 (List.nil_sublist _)⟩)
  . rename_i xs i
    obtain ⟨a, vs, rfl, h, hs⟩ := r1.con_inv
    obtain ⟨v, f, h1, h2, h3⟩ := hs.atI e
    cases List.sublist_nil.mp h3
    exact .inl ⟨a, vs, i, v, rfl, r2.is_int, h.l, h1, q v [] h2 (List.nil_sublist _)⟩
  . rename_i z i
    obtain ⟨hz, e⟩ := zg9 e
    obtain ⟨c, e1, e⟩ := Option.map_eq_some_iff.mp e
    subst e
    exact .inr (.inr ⟨z, i, c, r1.is_str, r2.is_int, hz, e1, q _ [] (.str _) (List.nil_sublist _)⟩)
  . cases e
theorem zd0 (ha : QV X κ a fa) (hb : QV X κ b fb) (hs : ye1 b := by exact fun _ _ => rfl) : QV X κ (.Subscript a b pos) (f2 dIx fa fb) :=
  (xk1 wb9 ha hb hs).imp fun σ H Q hh_ => by
    obtain ⟨ps, d, w, e, q⟩ := hh_
    obtain ⟨x, y, e1, e2, e3⟩ := xe3 e
    exact ⟨ps, x, w, e1, fun v H1 fp s1 r1 => ⟨ps, y, w.same s1, e2, fun u H2 fq s2 r2 => wc9 (r1.same s2) r2 e3 fun v f r _ => q v H2 f (s1.trans s2) r⟩⟩
theorem yg8 (ha : QP X κ a fa) (hb : QV X κ b fb) (hs : ye1 b := by exact fun _ _ => rfl) : QP X κ (.Subscript a b pos) (f2 dIx fa fb) :=
  (xk1 wb9 ha hb hs).imp fun σ H Q hh_ => by
    obtain ⟨ps, d, w, e, q⟩ := hh_
    obtain ⟨x, y, e1, e2, e3⟩ := xe3 e
    exact ⟨ps, x, w, e1, fun v H1 fv s1 n1 nd1 r1 => ⟨ps, y, w.same s1, e2, fun u H2 fq s2 r2 => wc9 (r1.same s2) r2 e3 fun v f r sub => q v H2 f (s1.trans s2) (fun c hc => n1 c (sub.subset hc)) (nd1.sublist sub) r⟩⟩
noncomputable def tO (K : PySem.W.Frag) (κ : Str -> Addr) (f : PSt -> Option (Option Int)) : TO := fun σ H Q => ∃ ps o, WS K κ H σ ps /\ f ps = some o /\ ∀ H', SameK H H' -> Q o H'
noncomputable abbrev QO (X : Cx) (κ : Str -> Addr) (e : Option Expr) (f : PSt -> Option (Option Int)) : Prop := PO X e (tO X.K κ f)
noncomputable def zw3 : PSt -> Option (Option Int) := fun _ => some none
noncomputable def ye7 (f : PSt -> Option D) : PSt -> Option (Option Int) := fun ps => (f ps).bind fun d => match d with
  | .int i => some (some i)
  | _ => none
theorem xe4 : QO X κ none zw3 := fun pins s σ H Q I ⟨ps, o, w, e, q⟩ => by cases e; exact wp1 pins s σ H Q I (q H (.refl H))
theorem xe5 (h : QV X κ e f) : QO X κ (some e) (ye7 f) := fun pins s σ H Q I hh_ => by
  obtain ⟨ps, o, w, e, q⟩ := hh_
  obtain ⟨d, e1, e2⟩ := bind_some e
  cases d with
  | int i => cases e2; exact wp2 h pins s σ H Q I ⟨ps, _, w, e1, fun v H1 fp s1 r1 => ⟨i, r1.is_int, q H1 s1⟩⟩
  | _ => cases e2
noncomputable def xz7 (xs : List D) (lo hi : Option Int) : List D := (xs.drop (HT.sIx xs.length 0 lo)).take (HT.sIx xs.length xs.length hi - HT.sIx xs.length 0 lo)
noncomputable def dSl : D -> Option Int -> Option Int -> Option D
  | .lst _ xs, lo, hi => if D.imms xs = true then some (.lst true (xz7 xs lo hi)) else none
  | _, _, _ => none
theorem wj1 {K : PySem.W.Frag} {H : Hp} {vs : List V} {ds : List D} {lo hi : Option Int} (r : Paired (fun v d => Rep K κ H v d []) vs ds) : Paired (fun v d => Rep K κ H v d []) (xg5 vs lo hi) (xz7 ds lo hi) := by
  unfold xg5 xz7
  rw [Paired.length r]
  exact Paired.takeN _ (Paired.dropN _ r)
noncomputable def PSl (K : PySem.W.Frag) (κ : Str -> Addr) : V -> Option Int -> Option Int -> Hp -> VK -> Prop := fun x lo hi H Q => ∃ dx d fx, Rep K κ H x dx fx /\ dSl dx lo hi = some d /\ zw4 K κ H d Q
theorem wv8 : SlR X (PSl X.K κ) := by
  rintro pins s σ H x v vl vu lo hi sl Q I rx hs pl pu ⟨dx, d, fx, r, e, q⟩
  unfold dSl at e
  split at e
  . obtain ⟨hc, e2⟩ := zg9 e
    cases e2
    obtain ⟨a, vs, g, rfl, h, rs, sub⟩ := r.lst_inv
    exact wp3 pins s σ H _ v vl vu _ _ sl Q I rx hs pl pu ⟨a, vs, rfl, .inl h, fun p hp => xt4 hp (wj1 (rs.pair hc)) q⟩
  . cases e
noncomputable def fSl (f : PSt -> Option D) (fl fh : PSt -> Option (Option Int)) : PSt -> Option D := fun ps => (f ps).bind fun d => (fl ps).bind fun l => (fh ps).bind fun h => dSl d l h
theorem yv9 {lo hi : Option Expr} {fl fh : PSt -> Option (Option Int)} (he : QV X κ e f) (hl : QO X κ lo fl) (hh : QO X κ hi fh) : QP X κ (.Subscript e (.Slice lo hi none p2) pos) (fSl f fl fh) :=
  (wi5 wv8 he hl hh).imp fun σ H Q hh_ => by
    obtain ⟨ps, d, w, e, q⟩ := hh_
    obtain ⟨d1, e1, e2⟩ := bind_some e
    obtain ⟨l, e3, e4⟩ := bind_some e2
    obtain ⟨h, e5, e6⟩ := bind_some e4
    exact ⟨ps, d1, w, e1, fun v H1 fp s1 r1 => ⟨ps, l, w.same s1, e3, fun H2 s2 => ⟨ps, h, (w.same s1).same s2, e5, fun H3 s3 => ⟨d1, d, fp, (r1.same s2).same s3, e6, q.after ((s1.trans s2).trans s3)⟩⟩⟩⟩
noncomputable def PCl (K : PySem.W.Frag) (κ : Str -> Addr) (g : List D -> Option D) : List V -> Hp -> VK -> Prop := fun vs H Q => ∃ ds fp d, Reps K κ H vs ds fp /\ g ds = some d /\ zw4 K κ H d Q
noncomputable def za4 (h : List D -> Option D) (g : PSt -> Option (List D)) : PSt -> Option D := fun ps => (g ps).bind h
theorem wd0 {h : List D -> Option D} {σ : St} {H : Hp} {Q : VK} (q : tP X.K κ (za4 h g) σ H Q) : tCB (PCl X.K κ h) (tVA X.K κ g) σ H Q := by
  obtain ⟨ps, d, w, e, q⟩ := q
  obtain ⟨ds, e1, e2⟩ := bind_some e
  exact ⟨ps, ds, w, e1, fun vs H1 fp s1 r1 => ⟨ds, fp, d, r1, e2, q.after s1⟩⟩
theorem zk7 {x : Str} {id : String} {p : Pos} {h : List D -> Option D} (hc : zn9 X (.builtin id) (PCl X.K κ h)) (hg : Gl X x) (hm : X.mg x = none) (hv : bootBuiltins x = some (.builtin id)) (ha : QVA X κ (e :: es) g) (hn : x ≠ "__name__" := by decide) (hdb : (x == ("__debug__" : Str)) = false := by decide)
    (hs : starEach (e :: es) X.env = (false, eval e X.env) :: starEach es X.env := by rfl) (hpl : (backTo pos (starEach es X.env)).any (·.1) = false := by rfl) : QP X κ (.Call (.Name x p) (e :: es) [] pos) (za4 h g) :=
  (yh4 hc hg hm hv ha hn hdb hs hpl).imp fun _ _ _ q => wd0 q
theorem zp3 {x : Str} {T : String} {p : Pos} {h : List D -> Option D} (hc : zn9 X (.type T) (PCl X.K κ h)) (hg : Gl X x) (hm : X.mg x = none) (hv : bootBuiltins x = some (.type T)) (ha : QVA X κ (e :: es) g) (hn : x ≠ "__name__" := by decide) (hdb : (x == ("__debug__" : Str)) = false := by decide)
    (hs : starEach (e :: es) X.env = (false, eval e X.env) :: starEach es X.env := by rfl) (hpl : (backTo pos (starEach es X.env)).any (·.1) = false := by rfl) : QP X κ (.Call (.Name x p) (e :: es) [] pos) (za4 h g) :=
  (wb8 hc hg hm hv ha hn hdb hs hpl).imp fun _ _ _ q => wd0 q
theorem Reps.two_inv {K : PySem.W.Frag} {H : Hp} {vs : List V} {d e : D} {fp : List Addr} (r : Reps K κ H vs [d, e] fp) : ∃ v u f g, vs = [v, u] /\ Rep K κ H v d f /\ Rep K κ H u e g := by
  obtain ⟨v, us, f, g, rfl, h, t, rfl⟩ := r.split
  obtain ⟨u, rfl, h2⟩ := t.one_inv
  exact ⟨v, u, f, g, rfl, h, h2⟩
noncomputable def zd7 : List D -> Option D
  | [.lst _ xs] => some (.int xs.length)
  | [.tup xs] => some (.int xs.length)
  | [.con xs] => some (.int xs.length)
  | [.str z] => if z.length <= sizeLine then some (.int z.length) else none
  | _ => none
theorem zs8 : zn9 X (.builtin "len") (PCl X.K κ zd7) := by
  rintro pins s σ H vs us Q I r ⟨ds, fp, d, rs, e, q⟩
  unfold zd7 at e
  split at e
  . cases e
    obtain ⟨v, rfl, r1⟩ := rs.one_inv
    obtain ⟨a, ws, g, rfl, h, hs, _⟩ := r1.lst_inv
    exact zu4 pins s σ H _ us Q I r ⟨a, ws, rfl, .inl (.inl h), by rw [hs.length]; exact q.now (.int _)⟩
  . cases e
    obtain ⟨v, rfl, r1⟩ := rs.one_inv
    obtain ⟨a, ws, rfl, h, hs⟩ := r1.tup_inv
    exact zu4 pins s σ H _ us Q I r ⟨a, ws, rfl, .inr h, by rw [hs.length]; exact q.now (.int _)⟩
  . cases e
    obtain ⟨v, rfl, r1⟩ := rs.one_inv
    obtain ⟨a, ws, rfl, h, hs⟩ := r1.con_inv
    exact zu4 pins s σ H _ us Q I r ⟨a, ws, rfl, .inl h.l, by rw [hs.length]; exact q.now (.int _)⟩
  . obtain ⟨hz, e⟩ := zg9 e
    cases e
    obtain ⟨v, rfl, r1⟩ := rs.one_inv
    exact xm1 pins s σ H _ us Q I r ⟨_, by rw [r1.is_str], hz, q.now (.int _)⟩
  . cases e
noncomputable def yj5 : List D -> Option D
  | [.int i, .int j] => some (.int (if j < i then j else i))
  | _ => none
theorem xm6 (hc : X.calm = true) : zn9 X (.builtin "min") (PCl X.K κ yj5) := by
  rintro pins s σ H vs us Q I r ⟨ds, fp, d, rs, e, q⟩
  unfold yj5 at e
  split at e
  . cases e
    obtain ⟨v, u, f, g, rfl, r1, r2⟩ := rs.two_inv
    exact wb5 hc pins s σ H _ us Q I r ⟨_, _, by rw [r1.is_int, r2.is_int], q.now (.int _)⟩
  . cases e
noncomputable def zg8 : List D -> Option D
  | [.lst _ xs] => if D.imms xs = true then some (.tup xs) else none
  | [.tup xs] => some (.tup xs)
  | _ => none
theorem zw2 : zn9 X (.type "tuple") (PCl X.K κ zg8) := by
  rintro pins s σ H vs us Q I r ⟨ds, fp, d, rs, e, q⟩
  unfold zg8 at e
  split at e
  . obtain ⟨hc, e⟩ := zg9 e
    cases e
    obtain ⟨v, rfl, r1⟩ := rs.one_inv
    obtain ⟨a, ws, g, rfl, h, hs, _⟩ := r1.lst_inv
    exact yp1 pins s σ H _ us Q I r ⟨a, ws, rfl, .inl ⟨.inl h, fun p hp => xt5 hp (hs.pair hc) q⟩⟩
  . cases e
    obtain ⟨v, rfl, r1⟩ := rs.one_inv
    obtain ⟨a, ws, rfl, h, hs⟩ := r1.tup_inv
    exact yp1 pins s σ H _ us Q I r ⟨a, ws, rfl, .inr ⟨h, q.now (.tup h hs)⟩⟩
  . cases e
noncomputable def yc3 : List D -> Option D
  | [.int i] => some (.int i)
  | [.bl k] => some (.int (if k then 1 else 0))
  | _ => none
theorem xx6 : zn9 X (.type "int") (PCl X.K κ yc3) := by
  rintro pins s σ H vs us Q I r ⟨ds, fp, d, rs, e, q⟩
  unfold yc3 at e
  split at e
  . cases e
    obtain ⟨v, rfl, r1⟩ := rs.one_inv
    exact xg9 pins s σ H _ us Q I r (.inl ⟨_, by rw [r1.is_int], q.now (.int _)⟩)
  . cases e
    obtain ⟨v, rfl, r1⟩ := rs.one_inv
    exact xg9 pins s σ H _ us Q I r (.inr ⟨_, by rw [r1.is_bl], q.now (.int _)⟩)
  . cases e
noncomputable def PMt (K : PySem.W.Frag) (κ : Str -> Addr) (g : D -> List D -> Option D) : V -> List V -> Hp -> VK -> Prop := fun x vs H Q => ∃ dx ds fx fp d, Rep K κ H x dx fx /\ Reps K κ H vs ds fp /\ g dx ds = some d /\ zw4 K κ H d Q
noncomputable def yn9 : D -> Bool
  | .str _ => true
  | _ => false
noncomputable def fMt (h : D -> List D -> Option D) (f : PSt -> Option D) (g : PSt -> Option (List D)) : PSt -> Option D := fun ps => (f ps).bind fun x => (g ps).bind fun ds => if yn9 x = true then h x ds else none
theorem yz4 {name : Str} {id : String} {apos : Pos} {h : D -> List D -> Option D} (slot : Slot "str" name id) (hty : typeOf (.builtin id) = pure (.type "method_descriptor")) (hm : MtR X id (PMt X.K κ h)) (ho : QV X κ a fa) (ha : QVA X κ (e :: es) g)
    (hbase : attributeBase a name X.env (eval a X.env) = eval a X.env := by rfl)
    (hfew : ((backTo pos (starEach (e :: es) X.env)).all (fun x => !x.1) && (backToKw pos (keywordEach [] X.env)).all (fun x => x.1.isSome)
      && decide ((e :: es).length + ([] : List Keyword).length + (if ([] : List Keyword).isEmpty then 0 else 1) < 30)) = true := by rfl)
    (hline : (apos.endLine == pos.line) = true := by rfl) (hs : starEach (e :: es) X.env = (false, eval e X.env) :: starEach es X.env := by rfl) (hplain : (backTo pos (starEach es X.env)).any (·.1) = false := by rfl) :
    QP X κ (.Call (.Attribute a name apos) (e :: es) [] pos) (fMt h fa g) :=
  (wn0 PySem.F.plainAttrs_str slot hty hm ho ha hbase hfew hline hs hplain).imp fun σ H Q hh_ => by
    obtain ⟨ps, d, w, e, q⟩ := hh_
    obtain ⟨x, e1, e2⟩ := bind_some e
    obtain ⟨ds, e3, e4⟩ := bind_some e2
    obtain ⟨hc, e5⟩ := zg9 e4
    refine ⟨ps, x, w, e1, fun v H1 fp s1 r1 => ⟨?_, ps, ds, w.same s1, e3, fun vs H2 fq s2 r2 => ⟨x, ds, fp, fq, d, r1.same s2, r2, e5, q.after (s1.trans s2)⟩⟩⟩
    cases x with
    | str z => rw [r1.is_str]; rfl
    | _ => cases hc
noncomputable def D.strs : List D -> Option (List Str)
  | [] => some []
  | .str b :: ds => (D.strs ds).map (b :: ·)
  | _ :: _ => none
theorem yl4 {K : PySem.W.Frag} {H : Hp} : ∀ {vs : List V} {ds : List D} {fp : List Addr} {ns : List Str}, Reps K κ H vs ds fp -> D.strs ds = some ns -> vs = ns.map V.str
  | _, _, _, _, .nil, e => by cases e; rfl
  | _, d :: ds, _, ns, .cons h hs, e => by
    cases d with
    | str i =>
      rw [D.strs] at e
      cases e1 : D.strs ds with
      | none => rw [e1] at e; cases e
      | some ms => rw [e1] at e; cases e; rw [h.is_str, yl4 hs e1]; rfl
    | _ => cases e
noncomputable def yt7 : D -> List D -> Option D
  | .str z, [.lst _ xs] => (D.strs xs).bind fun ys => if (z.length <= 16 /\ (ys.map (·.length)).sum + ys.length <= 1048576) then some (.str (Txt.join z ys)) else none
  | _, _ => none
theorem xm7 : MtR X "str.join" (PMt X.K κ yt7) := by
  rintro pins s σ H x vs v us Q I rx r ⟨dx, ds, fx, fp, d, r1, rs, e, q⟩
  unfold yt7 at e
  split at e
  . obtain ⟨ys, e1, e2⟩ := bind_some e
    obtain ⟨hc, e⟩ := zg9 e2
    cases e
    obtain ⟨w, rfl, r2⟩ := rs.one_inv
    obtain ⟨a, ws, g, rfl, h, hs, _⟩ := r2.lst_inv
    rw [yl4 hs e1] at h
    exact wp7 pins s σ H x _ v us Q I rx r ⟨_, a, ys, r1.is_str, rfl, .inl h, hc.1, hc.2, q.now (.str _)⟩
  . cases e
end
end L2
namespace L2
open PySem PySem.Spec PyProof.Rows
structure Fx where
  K : PySem.W.Frag
  κ : Str -> Addr
  bor : Nat -> Bool
  M : Nat -> Bool
  B : Nat -> Addr -> Prop
structure RS (φ : Fx) (H : Hp) (σ : St) (ps : PSt) (F : Nat -> List Addr) : Prop where
  rep : ∀ (i : Nat) (d : D), ps[i]? = some (some d) -> ∃ v fp, σ[i]? = some (some v) /\ Rep φ.K φ.κ H v d fp /\ (φ.bor i = false -> fp = F i) /\ (φ.bor i = true -> ∀ a ∈ fp, φ.B i a)
  emp : ∀ i a, a ∈ F i -> φ.bor i = false /\ ∃ d, ps[i]? = some (some d)
  dis : ∀ i j a, a ∈ F i -> a ∈ F j -> i = j
  nd : ∀ i, (F i).Nodup
  nb : ∀ i a, a ∈ F i -> ∀ k, ¬ φ.B k a
  bt : ∀ k a, φ.B k a -> H a ≠ none
  len : ps.length <= σ.length
structure Frm (F : Nat -> List Addr) (H H' : Hp) : Prop where
  keep : ∀ a o, H a = some o -> kd o = true -> (∀ i, a ∉ F i) -> H' a = some o
  grow : ∀ a, H' a = none -> H a = none
structure Stp (φ : Fx) (σ : St) (H : Hp) (F : Nat -> List Addr) (σ' : St) (H' : Hp) (ps' : PSt) (F' : Nat -> List Addr) : Prop where
  fr : Frm F H H'
  nw : ∀ i a, a ∈ F' i -> (∃ j, a ∈ F j) \/ H a = none
  rs : RS φ H' σ' ps' F'
  msk : ∀ i, φ.M i = true -> σ'[i]? = σ[i]?
structure OwnV (F : Nat -> List Addr) (H : Hp) (F' : Nat -> List Addr) (fv : List Addr) : Prop where
  nw : ∀ a ∈ fv, (∃ j, a ∈ F j) \/ H a = none
  nd : fv.Nodup
  dis : ∀ i, ∀ a ∈ F' i, a ∉ fv
section
variable {φ : Fx} {H H' H1 H2 : Hp} {σ σ1 σ2 : St} {ps ps1 ps2 : PSt} {F F1 F2 : Nat -> List Addr}
theorem RS.own (R : RS φ H σ ps F) {i : Nat} {a : Addr} (h : a ∈ F i) : ∃ o, H a = some o /\ kd o = true /\ tf o = false := by
  obtain ⟨b, d, e⟩ := R.emp i a h
  obtain ⟨v, fp, _, r, q, _⟩ := R.rep i d e
  rw [<- q b] at h
  exact r.own a h
theorem RS.ws (R : RS φ H σ ps F) : WS φ.K φ.κ H σ ps := fun i d h => by
  obtain ⟨v, fp, h1, h2, _⟩ := R.rep i d h
  exact ⟨v, fp, h1, h2⟩
theorem RS.same (R : RS φ H σ ps F) (s : SameK H H') : RS φ H' σ ps F :=
  ⟨fun i d h => by obtain ⟨v, fp, h1, h2, h3⟩ := R.rep i d h; exact ⟨v, fp, h1, h2.same s, h3⟩, R.emp, R.dis, R.nd, R.nb, fun k a h z => R.bt k a h (s.grow a z), R.len⟩
theorem RS.notB (R : RS φ H σ ps F) {a : Addr} (h : (∃ j, a ∈ F j) \/ H a = none) : ∀ k, ¬ φ.B k a := fun k hb => h.elim (fun ⟨j, hj⟩ => R.nb j a hj k hb) fun z => R.bt k a hb z
theorem Stp.same (R : RS φ H σ ps F) (s : SameK H H') : Stp φ σ H F σ H' ps F :=
  ⟨⟨fun a o h k _ => s.keep a o h k, s.grow⟩, fun i a h => .inl ⟨i, h⟩, R.same s, fun _ _ => rfl⟩
theorem Stp.refl (R : RS φ H σ ps F) : Stp φ σ H F σ H ps F := .same R (.refl H)
theorem Stp.trans (s1 : Stp φ σ H F σ1 H1 ps1 F1) (s2 : Stp φ σ1 H1 F1 σ2 H2 ps2 F2) : Stp φ σ H F σ2 H2 ps2 F2 := by
  refine ⟨⟨fun a o h k n => s2.fr.keep a o (s1.fr.keep a o h k n) k fun i hi => ?_, fun a h => s1.fr.grow a (s2.fr.grow a h)⟩, fun i a h => ?_, s2.rs, fun i h => (s2.msk i h).trans (s1.msk i h)⟩
  . rcases s1.nw i a hi with ⟨j, hj⟩ | z
    . exact n j hj
    . rw [h] at z; cases z
  . rcases s2.nw i a h with ⟨j, hj⟩ | z
    . exact s1.nw j a hj
    . exact .inr (s1.fr.grow a z)
theorem OwnV.after {fv : List Addr} (s1 : Stp φ σ H F σ1 H1 ps1 F1) (o : OwnV F1 H1 F2 fv) : OwnV F H F2 fv :=
  ⟨fun a ha => (o.nw a ha).elim (fun ⟨j, hj⟩ => s1.nw j a hj) fun z => .inr (s1.fr.grow a z), o.nd, o.dis⟩
theorem OwnV.new {fv : List Addr} (R : RS φ H σ ps F) (n : ∀ a ∈ fv, H a = none) (nd : fv.Nodup) : OwnV F H F fv :=
  ⟨fun a ha => .inr (n a ha), nd, fun i a ha hb => by obtain ⟨o, h, _⟩ := R.own ha; rw [n a hb] at h; cases h⟩
noncomputable def yk6 (F : Nat -> List Addr) (i : Nat) (fv : List Addr) : Nat -> List Addr := fun j => if j = i then fv else F j
theorem zm1 {i : Nat} {fv : List Addr} : yk6 F i fv i = fv := by simp [yk6]
theorem zm2 {i j : Nat} {fv : List Addr} (h : j ≠ i) : yk6 F i fv j = F j := by simp [yk6, h]
theorem zv3 {i : Nat} {fv : List Addr} {j : Nat} {a : Addr} (h : a ∈ yk6 F i fv j) : a ∈ fv \/ a ∈ F j := by
  by_cases e : j = i
  . subst e; rw [zm1] at h; exact .inl h
  . rw [zm2 e] at h; exact .inr h
theorem RS.drop (R : RS φ H σ ps F) (i : Nat) : RS φ H σ (ps.set i none) (yk6 F i []) := by
  have eF : ∀ j a, a ∈ yk6 F i [] j -> j ≠ i /\ a ∈ F j := fun j a h => by
    by_cases e : j = i
    . subst e; rw [zm1] at h; exact absurd h (by simp)
    . rw [zm2 e] at h; exact ⟨e, h⟩
  refine ⟨fun j d h => ?_, fun j a h => ?_, fun j k a h1 h2 => R.dis j k a (eF j a h1).2 (eF k a h2).2, fun j => ?_, fun j a h => R.nb j a (eF j a h).2, R.bt, by simpa using R.len⟩
  . have e : j ≠ i := by
      rintro rfl
      by_cases hj : j < ps.length
      . rw [List.getElem?_set_self hj] at h; cases h
      . rw [List.getElem?_eq_none (by simpa using hj)] at h; cases h
    rw [List.getElem?_set_ne (fun z => e z.symm)] at h
    rw [zm2 e]
    exact R.rep j d h
  . obtain ⟨e, h⟩ := eF j a h
    obtain ⟨b, d, q⟩ := R.emp j a h
    exact ⟨b, d, by rw [List.getElem?_set_ne (fun z => e z.symm)]; exact q⟩
  . by_cases e : j = i
    . subst e; rw [zm1]; exact List.nodup_nil
    . rw [zm2 e]; exact R.nd j
theorem RS.set (R : RS φ H σ ps F) {i : Nat} {v : V} {d : D} {fv : List Addr} (r : Rep φ.K φ.κ H v d fv) (hb : φ.bor i = false \/ fv = []) (hd : ∀ j, j ≠ i -> ∀ a ∈ F j, a ∉ fv) (hn : fv.Nodup) (hB : ∀ a ∈ fv, ∀ k, ¬ φ.B k a) :
    RS φ H (σ.set i (some v)) (ps.set i (some d)) (yk6 F i (if i < ps.length then fv else [])) := by
  by_cases hi : i < ps.length
  . rw [if_pos hi]
    have hl := R.len
    refine ⟨fun j d' h => ?_, fun j a h => ?_, fun j k a h1 h2 => ?_, fun j => ?_, fun j a h => ?_, R.bt, by simpa using R.len⟩
    . by_cases e : j = i
      . subst e
        rw [List.getElem?_set_self hi] at h
        cases h
        refine ⟨v, fv, by rw [List.getElem?_set_self (by omega)], r, fun _ => zm1.symm, fun z => ?_⟩
        rcases hb with q | q
        . rw [q] at z; cases z
        . subst q; intro a ha; exact absurd ha (by simp)
      . rw [List.getElem?_set_ne (fun z => e z.symm)] at h |-
        rw [zm2 e]
        exact R.rep j d' h
    . by_cases e : j = i
      . subst e
        rw [zm1] at h
        refine ⟨?_, d, by rw [List.getElem?_set_self hi]⟩
        rcases hb with q | q
        . exact q
        . subst q; exact absurd h (by simp)
      . rw [zm2 e] at h
        obtain ⟨b, d', q⟩ := R.emp j a h
        exact ⟨b, d', by rw [List.getElem?_set_ne (fun z => e z.symm)]; exact q⟩
    . by_cases e1 : j = i
      . by_cases e2 : k = i
        . rw [e1, e2]
        . subst e1; rw [zm1] at h1; rw [zm2 e2] at h2; exact absurd h1 (hd k e2 a h2)
      . by_cases e2 : k = i
        . subst e2; rw [zm1] at h2; rw [zm2 e1] at h1; exact absurd h2 (hd j e1 a h1)
        . rw [zm2 e1] at h1; rw [zm2 e2] at h2; exact R.dis j k a h1 h2
    . by_cases e : j = i
      . subst e; rw [zm1]; exact hn
      . rw [zm2 e]; exact R.nd j
    . rcases zv3 h with z | z
      . exact hB a z
      . exact R.nb j a z
  . rw [if_neg hi]
    have e0 : ps.set i (some d) = ps := List.set_eq_of_length_le (by omega)
    rw [e0]
    have R' := R.drop i
    rw [List.set_eq_of_length_le (by omega)] at R'
    refine ⟨fun j d' h => ?_, R'.emp, R'.dis, R'.nd, R'.nb, R'.bt, by simpa using R.len⟩
    have hj : j ≠ i := by
      rintro rfl
      have := (List.getElem?_eq_some_iff.mp h).1
      omega
    rw [List.getElem?_set_ne (fun z => hj z.symm)]
    exact R'.rep j d' h
theorem Stp.set {fv : List Addr} {i : Nat} {v : V} {d : D} (s1 : Stp φ σ H F σ1 H1 ps1 F1) (o : OwnV F H F1 fv) (R : RS φ H σ ps F) (r : Rep φ.K φ.κ H1 v d fv) (hb : φ.bor i = false \/ fv = []) (hm : φ.M i = false) :
    ∃ F', Stp φ σ H F (σ1.set i (some v)) H1 (ps1.set i (some d)) F' := by
  refine ⟨_, s1.fr, fun j a h => ?_, s1.rs.set r hb (fun j _ => o.dis j) o.nd fun a ha => R.notB (o.nw a ha), fun j h => ?_⟩
  . rcases zv3 h with z | z
    . by_cases k : i < ps1.length
      . rw [if_pos k] at z; exact o.nw a z
      . rw [if_neg k] at z; exact absurd z (by simp)
    . exact s1.nw j a z
  . rw [List.getElem?_set_ne (fun z => by subst z; rw [hm] at h; cases h)]
    exact s1.msk j h
end
inductive Fl where
  | nx | bk | ct | ret (d : D)
noncomputable def yt8 (φ : Fx) (E : Ends) (σ : St) (H : Hp) (F : Nat -> List Addr) (fl : Fl) (ps' : PSt) : Prop := match fl with
  | .nx => ∀ σ' H' F', Stp φ σ H F σ' H' ps' F' -> E.nx σ' H'
  | .bk => ∀ σ' H' F', Stp φ σ H F σ' H' ps' F' -> E.bk σ' H'
  | .ct => ∀ σ' H' F', Stp φ σ H F σ' H' ps' F' -> E.ct σ' H'
  | .ret d => ∀ v σ' H' F' fv, Stp φ σ H F σ' H' ps' F' -> OwnV F H F' fv -> Rep φ.K φ.κ H' v d fv -> E.rt v H'
noncomputable def tS (φ : Fx) (f : PSt -> Option (Fl × PSt)) : TS := fun E σ H => ∃ ps F fl ps', RS φ H σ ps F /\ f ps = some (fl, ps') /\ yt8 φ E σ H F fl ps'
noncomputable def tE (φ : Fx) (f : PSt -> Option (D × PSt)) : TE := fun σ H Q => ∃ ps F d ps', RS φ H σ ps F /\ f ps = some (d, ps') /\ ∀ v H' F' fv, Stp φ σ H F σ H' ps' F' -> OwnV F H F' fv -> Rep φ.K φ.κ H' v d fv -> Q v H'
noncomputable def tTE (φ : Fx) (f : PSt -> Option (Bool × PSt)) : TT := fun σ H Q => ∃ ps F b ps', RS φ H σ ps F /\ f ps = some (b, ps') /\ ∀ H' F', Stp φ σ H F σ H' ps' F' -> Q b H'
structure F0 where
  bor : Nat -> Bool
  M : Nat -> Bool
  B : Nat -> Addr -> Prop
noncomputable def F0.fx (φ : F0) (K : PySem.W.Frag) (κ : Str -> Addr) : Fx := ⟨K, κ, φ.bor, φ.M, φ.B⟩
noncomputable abbrev QS (X : Cx) (κ : Str -> Addr) (φ : F0) (st : Stmt) (f : PSt -> Option (Fl × PSt)) : Prop := PS X st (tS (φ.fx X.K κ) f)
noncomputable abbrev QSs (X : Cx) (κ : Str -> Addr) (φ : F0) (st : List Stmt) (f : PSt -> Option (Fl × PSt)) : Prop := PSs X st (tS (φ.fx X.K κ) f)
noncomputable abbrev QE (X : Cx) (κ : Str -> Addr) (φ : F0) (e : Expr) (f : PSt -> Option (D × PSt)) : Prop := PE X e (tE (φ.fx X.K κ) f)
noncomputable abbrev QTE (X : Cx) (κ : Str -> Addr) (φ : F0) (e : Expr) (f : PSt -> Option (Bool × PSt)) : Prop := PT X e (tTE (φ.fx X.K κ) f)
theorem yw0 {φ : Fx} {f : PSt -> Option (Fl × PSt)} {E : Ends} {σ σ1 : St} {H H1 : Hp} {F F1 : Nat -> List Addr} {ps1 ps2 : PSt} {fl : Fl} (s1 : Stp φ σ H F σ1 H1 ps1 F1) (e : f ps1 = some (fl, ps2)) (q : yt8 φ E σ H F fl ps2) : tS φ f E σ1 H1 := by
  refine ⟨ps1, F1, fl, ps2, s1.rs, e, ?_⟩
  cases fl with
  | nx => exact fun σ' H' F' s => q σ' H' F' (s1.trans s)
  | bk => exact fun σ' H' F' s => q σ' H' F' (s1.trans s)
  | ct => exact fun σ' H' F' s => q σ' H' F' (s1.trans s)
  | ret d => exact fun v σ' H' F' fv s o r => q v σ' H' F' fv (s1.trans s) (o.after s1) r
noncomputable def zc3 : PSt -> Option (Fl × PSt) := fun ps => some (.nx, ps)
noncomputable def zb3 (f g : PSt -> Option (Fl × PSt)) : PSt -> Option (Fl × PSt) := fun ps => (f ps).bind fun r => match r with
  | (.nx, ps') => g ps'
  | (.bk, ps') => some (.bk, ps')
  | (.ct, ps') => some (.ct, ps')
  | (.ret d, ps') => some (.ret d, ps')
noncomputable def ym3 : PSt -> Option (Fl × PSt) := fun _ => none
section
variable {X : Cx} {κ : Str -> Addr} {φ : F0} {st : Stmt} {zd5 : List Stmt} {f g : PSt -> Option (Fl × PSt)} {pos : Pos}
theorem ze6 : QSs X κ φ [] zc3 := xs4.imp fun E σ H ⟨ps, F, fl, ps', R, e, q⟩ => by cases e; exact q σ H F (.refl R)
theorem zb6 (h : QS X κ φ st f) : QSs X κ φ [st] f := ys7 h
theorem zb2 (h1 : QS X κ φ st f) (h2 : QSs X κ φ zd5 g) : QSs X κ φ (st :: zd5) (zb3 f g) :=
  (ya3 h1 h2).imp fun E σ H hh_ => by
    obtain ⟨ps, F, fl, ps', R, e, q⟩ := hh_
    obtain ⟨⟨fl1, ps1⟩, e1, e2⟩ := bind_some e
    refine ⟨ps, F, fl1, ps1, R, e1, ?_⟩
    cases fl1 with
    | nx => exact fun σ' H' F' s => yw0 s e2 q
    | bk => cases e2; exact q
    | ct => cases e2; exact q
    | ret d => cases e2; exact q
theorem yd1 : QS X κ φ st ym3 := wh4.imp fun E σ H ⟨ps, F, fl, ps', R, e, q⟩ => by cases e
noncomputable def za5 (f : PSt -> Option D) : PSt -> Option (D × PSt) := fun ps => (f ps).bind fun d => some (d, ps)
theorem QP.e {e : Expr} {f : PSt -> Option D} (h : PE X e (tP X.K κ f)) : QE X κ φ e (za5 f) := h.imp fun σ H Q hh_ => by
  obtain ⟨ps, F, d, ps', R, e, q⟩ := hh_
  obtain ⟨d1, e1, e2⟩ := bind_some e
  cases e2
  exact ⟨ps, _, R.ws, e1, fun v H' fv s n nd r => q v H' F fv (.same R s) (.new R n nd) r⟩
noncomputable def za8 (f : PSt -> Option Bool) : PSt -> Option (Bool × PSt) := fun ps => (f ps).bind fun d => some (d, ps)
theorem QT.e {e : Expr} {f : PSt -> Option Bool} (h : PT X e (tQ X.K κ f)) : QTE X κ φ e (za8 f) := h.imp fun σ H Q hh_ => by
  obtain ⟨ps, F, d, ps', R, e, q⟩ := hh_
  obtain ⟨d1, e1, e2⟩ := bind_some e
  cases e2
  exact ⟨ps, _, R.ws, e1, fun H' s => q H' F (.same R s)⟩
noncomputable def zb9 (i : Nat) (f : PSt -> Option (D × PSt)) : PSt -> Option (Fl × PSt) := fun ps => (f ps).bind fun r => some (.nx, r.2.set i (some r.1))
theorem zg0 (i : Nat) {x : Str} {e : Expr} {pos' : Pos} {f : PSt -> Option (D × PSt)} (hN : X.N.Nodup) (hi : X.N[i]? = some x) (hx : Loc X.env.scope x) (hb : φ.bor i = false) (hm : φ.M i = false) (he : QE X κ φ e f) (hs : swapsWith e (some (.Name x pos')) pos.line X.env = pure false := by rfl) (hf : X.fn x = true \/ X.env.scope.names.lookup x = some .local := by first | exact .inl rfl | exact .inr rfl | assumption) :
    QS X κ φ (.Assign [.Name x pos'] e pos) (zb9 i f) := (yl0 hN hi hx he hs hf).imp fun E σ H hh_ => by
  obtain ⟨ps, F, fl, ps', R, e, q⟩ := hh_
  obtain ⟨⟨d, ps1⟩, e1, e2⟩ := bind_some e
  cases e2
  refine ⟨ps, F, d, ps1, R, e1, fun v H' F' fv s o r => ?_⟩
  obtain ⟨F2, s2⟩ := s.set o R r (.inl hb) hm (i := i)
  exact q _ _ F2 s2
noncomputable def zc2 (f : PSt -> Option (D × PSt)) : PSt -> Option (Fl × PSt) := fun ps => (f ps).bind fun r => some (.nx, r.2)
theorem zl2 {e : Expr} {f : PSt -> Option (D × PSt)} (he : QE X κ φ e f) (hs : swapsWith e none pos.line X.env = pure false := by rfl) : QS X κ φ (.Expr e pos) (zc2 f) := (wo6 he hs).imp fun E σ H hh_ => by
  obtain ⟨ps, F, fl, ps', R, e, q⟩ := hh_
  obtain ⟨⟨d, ps1⟩, e1, e2⟩ := bind_some e
  cases e2
  exact ⟨ps, F, d, ps1, R, e1, fun v H' F' fv s o r => q _ _ F' s⟩
noncomputable def zd4 (f : PSt -> Option (D × PSt)) : PSt -> Option (Fl × PSt) := fun ps => (f ps).bind fun r => some (.ret r.1, r.2)
theorem zg1 {e : Expr} {f : PSt -> Option (D × PSt)} (he : QE X κ φ e f) : QS X κ φ (.Return (some e) pos) (zd4 f) := (yp5 he).imp fun E σ H hh_ => by
  obtain ⟨ps, F, fl, ps', R, e, q⟩ := hh_
  obtain ⟨⟨d, ps1⟩, e1, e2⟩ := bind_some e
  cases e2
  exact ⟨ps, F, d, ps1, R, e1, fun v H' F' fv s o r => q v σ H' F' fv s o r⟩
noncomputable def zk4 (i : Nat) : PSt -> Option (Fl × PSt) := fun ps => ((ps[i]?).join).bind fun d => some (.ret d, ps.set i none)
theorem join_some {ps : PSt} {i : Nat} {d : D} (h : (ps[i]?).join = some d) : ps[i]? = some (some d) := by
  cases q : ps[i]? with
  | none => rw [q] at h; cases h
  | some o => rw [q] at h; exact congrArg some h
theorem yl5 (i : Nat) {x : Str} {p : Pos} (hb : φ.bor i = false) (hN : X.N[i]? = some x := by rfl) (hv : Vis X.env.scope x := by first | exact Or.inl rfl | exact Or.inr (Or.inl rfl) | exact Or.inr (Or.inr rfl)) (hd : (x == ("__debug__" : Str)) = false := by decide)
    (hcd : (x == ("__classdict__" : Str)) = false := by decide) : QS X κ φ (.Return (some (.Name x p)) pos) (zk4 i) := (yp5 (yk9 hN hv hd hcd)).imp fun E σ H hh_ => by
  obtain ⟨ps, F, fl, ps', R, e, q⟩ := hh_
  obtain ⟨d, e1, e2⟩ := bind_some e
  cases e2
  obtain ⟨v, fp, h1, h2, h3, _⟩ := R.rep i d (join_some e1)
  have h3 := h3 hb
  subst h3
  refine ⟨v, h1, q v σ H (yk6 F i []) (F i) ⟨⟨fun a o h _ _ => h, fun a h => h⟩, fun j a h => ?_, R.drop i, fun _ _ => rfl⟩ ⟨fun a h => .inl ⟨i, h⟩, R.nd i, fun j a h1 h2 => ?_⟩ h2⟩
  . rcases zv3 h with z | z
    . exact absurd z (by simp)
    . exact .inl ⟨j, z⟩
  . rcases zv3 h1 with z | z
    . exact absurd z (by simp)
    . have := R.dis j i a z h2
      subst this
      rw [zm1] at h1; exact absurd h1 (by simp)
noncomputable def fIf (c : PSt -> Option (Bool × PSt)) (f g : PSt -> Option (Fl × PSt)) : PSt -> Option (Fl × PSt) := fun ps => (c ps).bind fun r => if r.1 = true then f r.2 else g r.2
theorem zg4 {c : Expr} {a b : List Stmt} {tc : PSt -> Option (Bool × PSt)} (hc : QTE X κ φ c tc) (ha : QSs X κ φ a f) (hb : QSs X κ φ b g) : QS X κ φ (.If c a b pos) (fIf tc f g) := (wm7 hc ha hb).imp fun E σ H hh_ => by
  obtain ⟨ps, F, fl, ps', R, e, q⟩ := hh_
  obtain ⟨⟨k, ps1⟩, e1, e2⟩ := bind_some e
  refine ⟨ps, F, k, ps1, R, e1, fun H' F' s => ?_⟩
  cases k with
  | true => rw [if_pos rfl] at e2 |-; exact yw0 s e2 q
  | false => rw [if_neg Bool.false_ne_true] at e2 |-; exact yw0 s e2 q
end
end L2
namespace L2
open PySem PySem.Spec PyProof.Rows
noncomputable def zv9 (c : PSt -> Option (Bool × PSt)) (f : PSt -> Option (Fl × PSt)) : Nat -> PSt -> Option (Fl × PSt)
  | 0, _ => none
  | n + 1, ps => (c ps).bind fun r => if r.1 = true then (f r.2).bind fun q => match q with
      | (.nx, p) => zv9 c f n p
      | (.ct, p) => zv9 c f n p
      | (.bk, p) => some (.nx, p)
      | (.ret d, p) => some (.ret d, p)
    else some (.nx, r.2)
section
variable {X : Cx} {φ : Fx} {pos : Pos} {body : List Stmt} {f : PSt -> Option (Fl × PSt)}
theorem yt8.back {E : Ends} {σ σ1 : St} {H H1 : Hp} {F F1 : Nat -> List Addr} {ps1 ps2 : PSt} {fl : Fl} (s1 : Stp φ σ H F σ1 H1 ps1 F1) (q : yt8 φ E σ H F fl ps2) : yt8 φ E σ1 H1 F1 fl ps2 := by
  cases fl with
  | nx => exact fun σ' H' F' s => q σ' H' F' (s1.trans s)
  | bk => exact fun σ' H' F' s => q σ' H' F' (s1.trans s)
  | ct => exact fun σ' H' F' s => q σ' H' F' (s1.trans s)
  | ret d => exact fun v σ' H' F' fv s o r => q v σ' H' F' fv (s1.trans s) (o.after s1) r
noncomputable def kf5 (φ : Fx) (σ : St) (H : Hp) (F : Nat -> List Addr) (tc : PSt -> Option (Bool × PSt)) (f : PSt -> Option (Fl × PSt)) (fl : Fl) (ps' : PSt) (m : Nat) (σ1 : St) (H1 : Hp) : Prop := ∃ ps1 F1, Stp φ σ H F σ1 H1 ps1 F1 /\ zv9 tc f m ps1 = some (fl, ps')
theorem yw1 {κ : Str -> Addr} {φ : F0} (n : Nat) {c : Expr} {tc : PSt -> Option (Bool × PSt)} (hp : PassesOwn (model X.prog X.w) X.A X.env X.xe) (hc : QTE X κ φ c tc) (hb : QSs X κ φ body f) : QS X κ φ (.While c body [] pos) (zv9 tc f n) :=
  (wh5 hp hc hb).imp fun E σ H hh_ => by
    obtain ⟨ps, F, fl, ps', R, e, q⟩ := hh_
    refine ⟨kf5 (φ.fx X.K κ) σ H F tc f fl ps', ⟨n, ps, F, .refl R, e⟩, ?_⟩
    rintro m σ1 H1 ⟨ps1, F1, s1, e1⟩
    cases m with
    | zero => cases e1
    | succ m =>
      rw [zv9] at e1
      obtain ⟨⟨k, ps2⟩, e2, e3⟩ := bind_some e1
      refine ⟨ps1, F1, k, ps2, s1.rs, e2, fun H2 F2 s2 => ?_⟩
      have s12 := s1.trans s2
      cases k with
      | true =>
        dsimp only at e3 |-
        rw [if_pos rfl] at e3 |-
        obtain ⟨⟨fl3, ps3⟩, e4, e5⟩ := bind_some e3
        refine ⟨fun σ' H' => ∃ F', Stp (φ.fx X.K κ) σ1 H2 F2 σ' H' ps3 F' /\ zv9 tc f m ps3 = some (fl, ps'), fun σ' H' ⟨F', s, e⟩ => ⟨m, Nat.lt_succ_self m, ps3, F', s12.trans s, e⟩, ?_⟩
        refine ⟨ps2, F2, fl3, ps3, s2.rs, e4, ?_⟩
        cases fl3 with
        | nx => exact fun σ' H' F' s => ⟨F', s, e5⟩
        | ct => exact fun σ' H' F' s => ⟨F', s, e5⟩
        | bk => cases e5; exact fun σ' H' F' s => q σ' H' F' (s12.trans s)
        | ret d => cases e5; exact fun v σ' H' F' fv s o r => q v σ' H' F' fv (s12.trans s) (o.after s12) r
      | false =>
        dsimp only at e3 |-
        rw [if_neg Bool.false_ne_true] at e3 |-
        cases e3
        exact q _ _ F2 s12
end
noncomputable def yo0 (Z : List Addr) (H H' : Hp) : Prop := ∀ a o, H a = some o -> (tf o = true \/ (kd o = true /\ a ∈ Z)) -> H' a = some o
structure Walk (K : PySem.W.Frag) (κ : Str -> Addr) (J : It) (Z : List Addr) (H1 : Hp) (ds : List D) : Prop where
  go : ∀ H', yo0 Z H1 H' -> ∀ (i : Nat) d, ds[i]? = some d -> J.go i H' /\ ∀ x H2, J.yld i H' x H2 -> H2 = H' /\ Rep K κ H' x d []
  stop : ∀ H', yo0 Z H1 H' -> J.stop ds.length H'
noncomputable def tIV (K : PySem.W.Frag) (κ : Str -> Addr) (f : PSt -> Option (List D)) : TI := fun σ H R => ∃ ps ds, WS K κ H σ ps /\ f ps = some ds /\ ∀ J H1 Z, SameK H H1 -> Walk K κ J Z H1 ds -> R J H1
noncomputable def tIP (K : PySem.W.Frag) (κ : Str -> Addr) (f : PSt -> Option (List D)) : TI := fun σ H R => ∃ ps ds, WS K κ H σ ps /\ f ps = some ds /\ ∀ J H1 Z, SameK H H1 -> (∀ a ∈ Z, H a = none /\ H1 a ≠ none) -> Walk K κ J Z H1 ds -> R J H1
theorem yo0.sq {K : PySem.W.Frag} {Z : List Addr} {H H' : Hp} {a : Addr} {vs : List V} (k : yo0 Z H H') (h : Rd H a (.lst vs)) (hz : H a = some (.lst vs) -> a ∈ Z) : SqL K H' a vs := by
  rcases h with h | ⟨o, h⟩
  . exact .inl (.inl (k a _ h (.inr ⟨rfl, hz h⟩)))
  . exact .inl (.inr ⟨o, k a _ h (.inl rfl)⟩)
theorem yo0.rep {K : PySem.W.Frag} {κ : Str -> Addr} {Z : List Addr} {H H' : Hp} {v : V} {d : D} (k : yo0 Z H H') (r : Rep K κ H v d []) : Rep K κ H' v d [] := r.move (fun a o h t => k a o h (.inl t)) fun a ha => absurd ha (by simp)
theorem ym7 {α β : Type} {R : α -> β -> Prop} : ∀ {l₁ : List α} {l₂ : List β} {i : Nat} {y : β}, Paired R l₁ l₂ -> l₂[i]? = some y -> ∃ x, l₁[i]? = some x /\ R x y
  | _, _, _, _, .nil, e => by simp at e
  | _, _, 0, _, .cons h _, e => by simp at e; subst e; exact ⟨_, rfl, h⟩
  | _, _, i + 1, _, .cons _ t, e => by obtain ⟨x, h1, h2⟩ := ym7 (i := i) t (by simpa using e); exact ⟨x, by simpa using h1, h2⟩
section
variable {K : PySem.W.Frag} {κ : Str -> Addr} {H1 : Hp} {a : Addr} {vs : List V} {ds : List D} {Z : List Addr}
theorem xh9 (h : Rd H1 a (.lst vs)) (hz : H1 a = some (.lst vs) -> a ∈ Z) (r : Paired (fun v d => Rep K κ H1 v d []) vs ds) : Walk K κ (Itl K a) Z H1 ds where
  go := fun H' k i d e => by
    obtain ⟨x, e1, r1⟩ := ym7 r e
    have sq : SqL K H' a vs := k.sq h hz
    refine ⟨⟨vs, x, sq, e1⟩, fun y H2 hy => ⟨hy.1, ?_⟩⟩
    have e2 := hy.2 vs sq
    rw [e1] at e2; cases e2
    exact k.rep r1
  stop := fun H' k => ⟨vs, k.sq h hz, by rw [Paired.length r]; exact Nat.le_refl _⟩
theorem wj2 (h : SqF K H1 a vs) (r : Paired (fun v d => Rep K κ H1 v d []) vs ds) : Walk K κ (Itl K a) Z H1 ds where
  go := fun H' k i d e => by
    obtain ⟨x, e1, r1⟩ := ym7 r e
    have sq : SqL K H' a vs := (h.tf fun a o e t => k a o e (.inl t)).l
    refine ⟨⟨vs, x, sq, e1⟩, fun y H2 hy => ⟨hy.1, ?_⟩⟩
    have e2 := hy.2 vs sq
    rw [e1] at e2; cases e2
    exact k.rep r1
  stop := fun H' k => ⟨vs, (h.tf fun a o e t => k a o e (.inl t)).l, by rw [Paired.length r]; exact Nat.le_refl _⟩
theorem wj3 (h : SqT K H1 a vs) (r : Paired (fun v d => Rep K κ H1 v d []) vs ds) : Walk K κ (Itt K a) Z H1 ds where
  go := fun H' k i d e => by
    obtain ⟨x, e1, r1⟩ := ym7 r e
    have sq : SqT K H' a vs := h.tf fun a o e t => k a o e (.inl t)
    refine ⟨⟨vs, x, sq, e1⟩, fun y H2 hy => ⟨hy.1, ?_⟩⟩
    have e2 := hy.2 vs sq
    rw [e1] at e2; cases e2
    exact k.rep r1
  stop := fun H' k => ⟨vs, h.tf fun a o e t => k a o e (.inl t), by rw [Paired.length r]; exact Nat.le_refl _⟩
end
noncomputable def zl3 (lo : Int) (n : Nat) : List D := (List.range n).map fun (k : Nat) => .int (lo + (k : Int))
theorem yz5 {K : PySem.W.Frag} {κ : Str -> Addr} {H1 : Hp} {Z : List Addr} (lo : Int) (n : Nat) : Walk K κ (Itr lo n) Z H1 (zl3 lo n) where
  go := fun H' _ i d e => by
    have hi := (List.getElem?_eq_some_iff.mp e).1
    unfold zl3 at hi e
    rw [List.length_map, List.length_range] at hi
    rw [List.getElem?_map, List.getElem?_range hi] at e
    cases e
    exact ⟨hi, fun x H2 ⟨h1, h2⟩ => ⟨h1, by rw [h2]; exact .int _⟩⟩
  stop := fun H' _ => by
    show n <= (zl3 lo n).length
    unfold zl3
    rw [List.length_map, List.length_range]; exact Nat.le_refl _
noncomputable abbrev QIV (X : Cx) (κ : Str -> Addr) (tg iter : Expr) (f : PSt -> Option (List D)) : Prop := PI X tg iter (tIV X.K κ f)
noncomputable abbrev QIP (X : Cx) (κ : Str -> Addr) (tg iter : Expr) (f : PSt -> Option (List D)) : Prop := PI X tg iter (tIP X.K κ f)
theorem PI.imp {X : Cx} {tg e : Expr} {t t' : TI} (h : PI X tg e t) (k : ∀ σ H Q, t' σ H Q -> t σ H Q) : PI X tg e t' := fun pins s σ H Q I q => h pins s σ H Q I (k σ H Q q)
theorem QIP.v {X : Cx} {κ : Str -> Addr} {tg iter : Expr} {f : PSt -> Option (List D)} (h : QIP X κ tg iter f) : QIV X κ tg iter f := PI.imp h fun σ H R ⟨ps, ds, w, e, q⟩ => ⟨ps, ds, w, e, fun J H1 Z s _ k => q J H1 Z s k⟩
section
variable {X : Cx} {κ : Str -> Addr} {tg l a b : Expr} {f : PSt -> Option D} {g : PSt -> Option (List D)} {p pos : Pos}
noncomputable def yt9 : List D -> Option (List D)
  | [.int j] => if (-(2 ^ 62) <= j /\ j < 2 ^ 62) then some (zl3 0 j.toNat) else none
  | _ => none
noncomputable def xl2 : List D -> Option (List D)
  | [.int i, .int j] => if (-(2 ^ 62) <= i /\ i < 2 ^ 62 /\ -(2 ^ 62) <= j /\ j < 2 ^ 62) then some (zl3 i (j - i).toNat) else none
  | _ => none
noncomputable def zt3 (g : PSt -> Option (List D)) : PSt -> Option (List D) := fun ps => (g ps).bind yt9
noncomputable def yu0 (g : PSt -> Option (List D)) : PSt -> Option (List D) := fun ps => (g ps).bind xl2
theorem yb1 (hg : Gl X "range") (hm : X.mg "range" = none) (ha : QVA X κ [a] g) (hs : starEach [a] X.env = [(false, eval a X.env)] := by rfl) : QIP X κ tg (.Call (.Name "range" p) [a] [] pos) (zt3 g) :=
  PI.imp (wa8 hg hm ha hs) fun σ H R hh_ => by
    obtain ⟨ps, ds, w, e, q⟩ := hh_
    obtain ⟨as, e1, e2⟩ := bind_some e
    refine ⟨ps, as, w, e1, fun vs H1 fp s1 r1 => ?_⟩
    unfold yt9 at e2
    split at e2
    . obtain ⟨hc, e3⟩ := zg9 e2
      cases e3
      obtain ⟨v, rfl, r⟩ := r1.one_inv
      exact ⟨_, by rw [r.is_int], hc.1, hc.2, q _ H1 [] s1 (fun _ h => absurd h (by simp)) (yz5 _ _)⟩
    . cases e2
theorem yp8 (hg : Gl X "range") (hm : X.mg "range" = none) (ha : QVA X κ [a, b] g) (hs : starEach [a, b] X.env = [(false, eval a X.env), (false, eval b X.env)] := by rfl) (hs2 : starEach [b] X.env = [(false, eval b X.env)] := by rfl) : QIP X κ tg (.Call (.Name "range" p) [a, b] [] pos) (yu0 g) :=
  PI.imp (wa9 hg hm ha hs hs2) fun σ H R hh_ => by
    obtain ⟨ps, ds, w, e, q⟩ := hh_
    obtain ⟨as, e1, e2⟩ := bind_some e
    refine ⟨ps, as, w, e1, fun vs H1 fp s1 r1 => ?_⟩
    unfold xl2 at e2
    split at e2
    . obtain ⟨hc, e3⟩ := zg9 e2
      cases e3
      obtain ⟨v, u, f, g, rfl, r, r'⟩ := r1.two_inv
      exact ⟨_, _, by rw [r.is_int, r'.is_int], hc, q _ H1 [] s1 (fun _ h => absurd h (by simp)) (yz5 _ _)⟩
    . cases e2
noncomputable def kf6 (K : PySem.W.Frag) (tl : TE) : TI := fun σ H R => tl σ H fun x H1 => ∃ a, x = .ref a /\ (((∃ xs, SqL K H1 a xs) /\ R (Itl K a) H1) \/ ((∃ xs, SqT K H1 a xs) /\ R (Itt K a) H1))
theorem wd1 {tl : TE} (hl : PE X l tl) : PI X tg l (kf6 X.K tl) := by
  intro pins s σ H R I h
  refine thn (hl pins s σ H _ I h) fun v s1 ⟨x, H1, I1, r1, q1⟩ => ?_
  obtain ⟨a, e, q1⟩ := q1
  subst e
  cases r1
  rcases q1 with ⟨⟨xs, hq⟩, q⟩ | ⟨⟨xs, hq⟩, q⟩
  . obtain ⟨its, rv, p, hz⟩ := I1.list hq
    refine wpAny_pyIter_list p.isList ?_
    refine ⟨s1.heap.objs.size, [s1.heap.objs.size], _, _, H1, rfl, I1.kept (t' := s1.toks) fun b o e => Heap.get?_push_of_some _ e, wa7 a _, ⟨_, Heap.get?_push_size _ rfl, rfl, rfl⟩, fun b hb => ?_, q⟩
    have e : b = s1.heap.objs.size := by simpa using hb
    subst e
    exact I1.fpOk (Nat.le_refl _) (I1.hok.fresh (Nat.le_refl _))
  . obtain ⟨its, rv, p, hz⟩ := I1.tuple hq
    refine wpAny_pyIter_tuple (show s1.heap.IsTuple a its.toArray from p) ?_
    refine ⟨s1.heap.objs.size, [s1.heap.objs.size], _, _, H1, rfl, I1.kept (t' := s1.toks) fun b o e => Heap.get?_push_of_some _ e, xv5 a _, ⟨_, Heap.get?_push_size _ rfl, rfl, rfl⟩, fun b hb => ?_, q⟩
    have e : b = s1.heap.objs.size := by simpa using hb
    subst e
    exact I1.fpOk (Nat.le_refl _) (I1.hok.fresh (Nat.le_refl _))
noncomputable def yg1 : D -> Option (List D)
  | .lst _ xs => if D.imms xs = true then some xs else none
  | .tup xs => some xs
  | .con xs => some xs
  | _ => none
theorem xt7 {K : PySem.W.Frag} {H : Hp} {v : V} {d : D} {fp : List Addr} {ds : List D} {R : It -> Hp -> Prop} (r : Rep K κ H v d fp) (e : yg1 d = some ds) (q : ∀ J Z, (∀ a ∈ Z, a ∈ fp) -> Walk K κ J Z H ds -> R J H) :
    ∃ a, v = .ref a /\ (((∃ xs, SqL K H a xs) /\ R (Itl K a) H) \/ ((∃ xs, SqT K H a xs) /\ R (Itt K a) H)) := by
  cases d with
  | lst o xs =>
    obtain ⟨hc, e⟩ := zg9 e
    cases e
    cases r with
    | lst h hs => exact ⟨_, rfl, .inl ⟨⟨_, .inl (.inl h)⟩, q _ [_] (fun a ha => by simp at ha; subst ha; exact List.mem_cons_self) (xh9 (.inl h) (fun _ => by simp) (hs.pair hc))⟩⟩
    | lstF h hs => exact ⟨_, rfl, .inl ⟨⟨_, .inl (.inr ⟨_, h⟩)⟩, q _ [] (fun a ha => absurd ha (by simp)) (xh9 (.inr ⟨_, h⟩) (fun z => by rw [h] at z; cases z) (hs.pair hc))⟩⟩
  | tup xs =>
    cases e
    obtain ⟨a, vs, rfl, h, hs⟩ := r.tup_inv
    exact ⟨a, rfl, .inr ⟨⟨_, h⟩, q _ [] (fun a ha => absurd ha (by simp)) (wj3 h hs.nilp)⟩⟩
  | con xs =>
    cases e
    obtain ⟨a, vs, rfl, h, hs⟩ := r.con_inv
    exact ⟨a, rfl, .inl ⟨⟨_, h.l⟩, q _ [] (fun a ha => absurd ha (by simp)) (wj2 h hs.nilp)⟩⟩
  | _ => cases e
noncomputable def zq7 (f : PSt -> Option D) : PSt -> Option (List D) := fun ps => (f ps).bind yg1
theorem xm8 (h : QV X κ l f) : QIV X κ tg l (zq7 f) := PI.imp (wd1 h) fun σ H R hh_ => by
  obtain ⟨ps, ds, w, e, q⟩ := hh_
  obtain ⟨d, e1, e2⟩ := bind_some e
  exact ⟨ps, d, w, e1, fun v H1 fv s1 r1 => xt7 r1 e2 fun J Z _ k => q J H1 Z s1 k⟩
end
noncomputable def zn3 (i : Nat) (f : PSt -> Option (Fl × PSt)) : List D -> PSt -> Option (Fl × PSt)
  | [], ps => some (.nx, ps)
  | d :: ds, ps => (f (ps.set i (some d))).bind fun q => match q with
      | (.nx, p) => zn3 i f ds p
      | (.ct, p) => zn3 i f ds p
      | (.bk, p) => some (.nx, p)
      | (.ret d, p) => some (.ret d, p)
section
variable {X : Cx} {φ : Fx} {pos : Pos} {body : List Stmt} {f : PSt -> Option (Fl × PSt)}
theorem Frm.kept {F : Nat -> List Addr} {H H' : Hp} {Z : List Addr} {σ : St} {ps : PSt} (R : RS φ H σ ps F) (k : Frm F H H') (hz : ∀ a ∈ Z, ∀ i, a ∉ F i) : yo0 Z H H' := fun a o h t => by
  rcases t with t | ⟨t1, t2⟩
  . refine k.keep a o h (ya4 t) fun i hi => ?_
    obtain ⟨o', h', _, t'⟩ := R.own hi
    rw [h] at h'; cases h'; rw [t] at t'; cases t'
  . exact k.keep a o h t1 (hz a t2)
noncomputable def kb8 (J : It) (E : Ends) (V : Nat -> Nat -> St -> Hp -> Prop) (g : TG) (tb : TS) (k m : Nat) (σ : St) (H : Hp) : Prop :=
  (J.stop k H /\ E.nx σ H) \/ (J.go k H /\ ∃ N : St -> Hp -> Prop, (∀ σ' H', N σ' H' -> ∃ m', m' < m /\ V (k + 1) m' σ' H') /\ ∀ x H', J.yld k H x H' -> g x σ H' fun σ2 H2 => tb { E with nx := N, ct := N, bk := E.nx } σ2 H2)
noncomputable def kf7 (φ : Fx) (σ : St) (H : Hp) (F : Nat -> List Addr) (i : Nat) (f : PSt -> Option (Fl × PSt)) (ds : List D) (fl : Fl) (ps' : PSt) (k m : Nat) (σ1 : St) (H1 : Hp) : Prop := k <= ds.length /\ m = ds.length - k /\ ∃ ps1 F1, Stp φ σ H F σ1 H1 ps1 F1 /\ zn3 i f (ds.drop k) ps1 = some (fl, ps')
theorem xm9 {E : Ends} {σ : St} {H : Hp} {F : Nat -> List Addr} {ps ps' : PSt} {fl : Fl} {ds : List D} {J : It} {Z : List Addr} {i : Nat} (R : RS φ H σ ps F) (hz : ∀ a ∈ Z, H a ≠ none /\ ∀ i, a ∉ F i) (W : Walk φ.K φ.κ J Z H ds) (hb : φ.bor i = false) (hm : φ.M i = false)
    (e : zn3 i f ds ps = some (fl, ps')) (q : yt8 φ E σ H F fl ps') : ∃ V : Nat -> Nat -> St -> Hp -> Prop, (∃ m, V 0 m σ H) /\ ∀ k m σ H, V k m σ H -> kb8 J E V (yc2 i) (tS φ f) k m σ H := by
  refine ⟨kf7 φ σ H F i f ds fl ps', ⟨_, Nat.zero_le _, rfl, ps, F, .refl R, by rw [List.drop_zero]; exact e⟩, ?_⟩
  rintro k m σ1 H1 ⟨hk, rfl, ps1, F1, s1, e1⟩
  have kp : yo0 Z H H1 := s1.fr.kept R fun a ha => (hz a ha).2
  by_cases hlt : k < ds.length
  . right
    have ed : ds[k]? = some ds[k] := List.getElem?_eq_getElem hlt
    obtain ⟨hgo, hy⟩ := W.go H1 kp k _ ed
    rw [List.drop_eq_getElem_cons hlt, zn3] at e1
    obtain ⟨⟨fl2, ps2⟩, e2, e3⟩ := bind_some e1
    refine ⟨hgo, fun σ' H' => ∃ F', Stp φ σ H F σ' H' ps2 F' /\ zn3 i f (ds.drop (k + 1)) ps2 = some (fl, ps'), fun σ' H' ⟨F', s, e⟩ => ⟨ds.length - (k + 1), by omega, hlt, rfl, ps2, F', s, e⟩, fun x H' y => ?_⟩
    obtain ⟨rfl, rx⟩ := hy x H' y
    obtain ⟨F2, s2⟩ := (Stp.refl s1.rs).set (i := i) (fv := []) (v := x) (d := ds[k]) ⟨fun _ h => absurd h (by simp), List.nodup_nil, fun _ _ _ h => absurd h (by simp)⟩ s1.rs rx (.inl hb) hm
    have s12 := s1.trans s2
    refine ⟨_, F2, fl2, ps2, s2.rs, e2, ?_⟩
    cases fl2 with
    | nx => exact fun σ' H' F' s => ⟨F', s12.trans s, e3⟩
    | ct => exact fun σ' H' F' s => ⟨F', s12.trans s, e3⟩
    | bk => cases e3; exact fun σ' H' F' s => q σ' H' F' (s12.trans s)
    | ret d => cases e3; exact fun v σ' H' F' fv s o r => q v σ' H' F' fv (s12.trans s) (o.after s12) r
  . left
    have ek : k = ds.length := by omega
    subst ek
    rw [List.drop_length, zn3] at e1
    cases e1
    exact ⟨W.stop H1 kp, q _ _ F1 s1⟩
noncomputable def zu6 (i : Nat) (fi : PSt -> Option (List D)) (f : PSt -> Option (Fl × PSt)) : PSt -> Option (Fl × PSt) := fun ps => (fi ps).bind fun ds => zn3 i f ds ps
theorem yl6 {κ : Str -> Addr} {φ : F0} (i : Nat) {x : Str} {px : Pos} {iter : Expr} {fi : PSt -> Option (List D)} (hp : PassesOwn (model X.prog X.w) X.A X.env X.xe) (hc : X.calm = true) (hN : X.N.Nodup) (hi : X.N[i]? = some x) (hx : Loc X.env.scope x) (hb : φ.bor i = false) (hm : φ.M i = false)
    (hit : PI X (.Name x px) iter (tIP X.K κ fi)) (hbd : QSs X κ φ body f) (hs : ∀ x, foldedSetIterable iter X.env x = pure x := by intro _; rfl) (hf : X.fn x = true \/ X.env.scope.names.lookup x = some .local := by first | exact .inl rfl | exact .inr rfl | assumption) :
    QS X κ φ (.For (.Name x px) iter body [] pos) (zu6 i fi f) := (wb1 hp hc hit (zw1 hN hi hx hf) hbd hs).imp fun E σ H hh_ => by
  obtain ⟨ps, F, fl, ps', R, e, q⟩ := hh_
  obtain ⟨ds, e1, e2⟩ := bind_some e
  refine ⟨ps, ds, R.ws, e1, fun J H1 Z s1 hz W => ?_⟩
  have s := Stp.same R s1
  exact xm9 s.rs (fun a ha => ⟨(hz a ha).2, fun j hj => by obtain ⟨o, h, _⟩ := R.own hj; rw [(hz a ha).1] at h; cases h⟩) W hb hm e2 (q.back s)
noncomputable def kf8 (g : TG) (tb : TS) (E : Ends) (σ : St) : It -> Hp -> Prop := fun J H1 => ∃ W : Nat -> Nat -> St -> Hp -> Prop, (∃ m, W 0 m σ H1) /\ ∀ i m σ H, W i m σ H ->
  (J.stop i H /\ E.nx σ H) \/ (J.go i H /\ ∃ N : St -> Hp -> Prop, (∀ σ' H', N σ' H' -> ∃ m', m' < m /\ W (i + 1) m' σ' H') /\ ∀ x H', J.yld i H x H' -> g x σ H' fun σ2 H2 => tb { E with nx := N, ct := N, bk := E.nx } σ2 H2)
theorem ys9 {κ : Str -> Addr} {φ : F0} (i j : Nat) {x y : Str} {px py : Pos} (hp : PassesOwn (model X.prog X.w) X.A X.env X.xe) (hc : X.calm = true) (hN : X.N.Nodup) (hi : X.N[i]? = some x) (hx : Loc X.env.scope x) (hb : φ.bor i = false) (hm : φ.M i = false) (hj : φ.bor j = true)
    (hbd : QSs X κ φ body f) (hNj : X.N[j]? = some y := by rfl) (hv : Vis X.env.scope y := by first | exact Or.inl rfl | exact Or.inr (Or.inl rfl) | exact Or.inr (Or.inr rfl)) (hd : (y == ("__debug__" : Str)) = false := by decide)
    (hcd : (y == ("__classdict__" : Str)) = false := by decide) (hs : ∀ x, foldedSetIterable (.Name y py) X.env x = pure x := by intro _; rfl) (hf : X.fn x = true \/ X.env.scope.names.lookup x = some .local := by first | exact .inl rfl | exact .inr rfl | assumption) :
    QS X κ φ (.For (.Name x px) (.Name y py) body [] pos) (zu6 i (zq7 (za0 j)) f) := (wb1 hp hc (wd1 (yk9 hNj hv hd hcd)) (zw1 hN hi hx hf) hbd hs).imp fun E σ H hh_ => by
  obtain ⟨ps, F, fl, ps', R, e, q⟩ := hh_
  obtain ⟨ds, e1, e2⟩ := bind_some e
  obtain ⟨d, e3, e4⟩ := bind_some e1
  obtain ⟨v, fp, h1, h2, _, h4⟩ := R.rep j d (join_some e3)
  refine ⟨v, h1, ?_⟩
  refine xt7 (R := kf8 (yc2 i) (tS (φ.fx X.K κ) f) E σ) h2 e4 fun J Z hz W => ?_
  exact xm9 R (fun a ha => ⟨R.bt j a (h4 hj a (hz a ha)), fun k hk => R.nb k a hk j (h4 hj a (hz a ha))⟩) W hb hm e2 q
end
end L2
namespace L2
open PySem PySem.Spec PyProof.Rows
noncomputable def gP (np n : Nat) (f : PSt -> Option (Fl × PSt)) : List D -> Option D := fun ds => if ds.length = np then (f (ds.map some ++ List.replicate n none)).bind fun r => match r with
  | (.ret d, _) => some d
  | (.nx, _) => some .non
  | _ => none
  else none
noncomputable def SpP (np : Nat) (K : PySem.W.Frag) (κ : Str -> Addr) (g : List D -> Option D) : Sp := fun vs H Q _ => vs.length = np /\ ∃ ds fp d, Reps K κ H vs ds fp /\ g ds = some d /\ zw4 K κ H d Q
noncomputable def fxP (K : PySem.W.Frag) (κ : Str -> Addr) (np : Nat) (B : Nat -> Addr -> Prop) : Fx := ⟨K, κ, fun i => decide (i < np), fun _ => false, B⟩
noncomputable def f0P (np : Nat) (B : Nat -> Addr -> Prop) : F0 := ⟨fun i => decide (i < np), fun _ => false, B⟩
theorem wd2 {N : List Str} {vs : List V} {i : Nat} {v : V} (h : vs[i]? = some v) : (start N vs)[i]? = some (some v) := by
  unfold start
  have hi := (List.getElem?_eq_some_iff.mp h).1
  rw [List.getElem?_append_left (by simpa using hi), List.getElem?_map, h]; rfl
theorem RS.start {K : PySem.W.Frag} {κ : Str -> Addr} {H : Hp} {N : List Str} {vs : List V} {ds : List D} {fp : List Addr} {np : Nat} (r : Reps K κ H vs ds fp) (hl : vs.length = np) (hn : np <= N.length) :
    RS (fxP K κ np (fun _ a => a ∈ fp)) H (start N vs) (ds.map some ++ List.replicate (N.length - np) none) (fun _ => []) := by
  have el := r.length
  refine ⟨fun i d h => ?_, fun i a h => absurd h (by simp), fun i j a h => absurd h (by simp), fun i => List.nodup_nil, fun i a h => absurd h (by simp), fun k a h z => ?_, ?_⟩
  . by_cases hi : i < ds.length
    . rw [List.getElem?_append_left (by simpa using hi), List.getElem?_map] at h
      cases e : ds[i]? with
      | none => rw [e] at h; cases h
      | some d' =>
        rw [e] at h; cases h
        obtain ⟨v, f, h1, h2, h3⟩ := r.get e
        refine ⟨v, f, wd2 h1, h2, fun z => ?_, fun _ => h3⟩
        exact absurd (of_decide_eq_false z) (by omega)
    . rw [List.getElem?_append_right (by simpa using hi), List.getElem?_replicate] at h
      split at h <;> cases h
  . obtain ⟨o, h, _⟩ := r.own a h
    rw [z] at h; cases h
  . unfold L2.start
    simp only [List.length_append, List.length_map, List.length_replicate]
    omega
section
variable {P : Program} {w : World} {K : PySem.W.Frag} {mg : Str -> Option Value} {base : Heap} {κ : Str -> Addr}
theorem zk0 {x qual : Str} {st : Stmt} {f : Addr} {fd : FuncData} {N ps : List Str} {k : Nat} {fb : PSt -> Option (Fl × PSt)} (F : Fun K x qual st f fd) (S : FnScope N ps (zb4 st))
    (hbody : ∀ (cdv : Value) (A : Around) (outer : List Env) (s : Shared) (H : Hp) (E : XK) (B : Nat -> Addr -> Prop), Room k (A.deeper (envOfC qual (zb4 st) s.heap.objs.size f cdv)) ->
      QSs (yk5 CX0 P w K mg base N qual (zb4 st) f cdv A outer s H E).nox κ (f0P ps.length B) (ze7 st) fb) :
    FnOk P w K mg base CX0 (k + 1) f fd ps (SpP ps.length K κ (gP ps.length (N.length - ps.length) fb)) := by
  refine F.ok S (fun vs H Q E h => h.1) fun cdv A outer s H vs Q E hr ⟨hl, ds, fp, d, r, e, q⟩ => ⟨_, hbody cdv A outer s H E (fun _ a => a ∈ fp) hr, ?_⟩
  have hn : ps.length <= N.length := by have := congrArg List.length S.pre; rw [List.length_take] at this; omega
  unfold gP at e
  obtain ⟨_, e0⟩ := zg9 e
  obtain ⟨⟨fl, ps'⟩, e1, e2⟩ := bind_some e0
  refine ⟨_, fun _ => [], fl, ps', RS.start r hl hn, e1, ?_⟩
  have sm : ∀ {H' : Hp}, Frm (fun _ => []) H H' -> SameK H H' := fun k => ⟨fun a o h kk => k.keep a o h kk (fun _ => by simp), k.grow⟩
  cases fl with
  | ret d' =>
    cases e2
    exact fun v σ' H' F' fv s o rv => q v H' fv (sm s.fr) (fun a ha => (o.nw a ha).elim (fun ⟨j, hj⟩ => absurd hj (by simp)) id) o.nd rv
  | nx =>
    cases e2
    exact fun σ' H' F' s => q .non H' [] (sm s.fr) (fun a ha => absurd ha (by simp)) List.nodup_nil .non
  | bk => cases e2
  | ct => cases e2
end
section
variable {X : Cx} {κ : Str -> Addr} {e : Expr} {es : List Expr} {g : PSt -> Option (List D)} {pos p : Pos}
theorem zi4 {x : Str} {st : Stmt} {ps : List Str} {f : Addr} {fd : FuncData} {k np : Nat} {h : List D -> Option D} (Dd : Dn X.K X.mg x st ps f fd) (G : FnOk X.prog X.w X.K X.mg X.base CX0 k f fd ps (SpP np X.K κ h)) (hr : Room k X.A) (hg : Gl X x) (hnp : (e :: es).length = np) (ha : QVA X κ (e :: es) g)
    (hlen : ∀ ps ds, g ps = some ds -> ds.length = (e :: es).length)
    (hdb : (x == ("__debug__" : Str)) = false := by decide) (he : starEach (e :: es) X.env = (false, eval e X.env) :: starEach es X.env := by rfl) (hpl : (backTo pos (starEach es X.env)).any (·.1) = false := by rfl) :
    QP X κ (.Call (.Name x p) (e :: es) [] pos) (za4 h g) := (xw9 Dd G hr hg ha hdb he hpl).imp fun σ H Q hh_ => by
  obtain ⟨ps, d, w, e, q⟩ := hh_
  obtain ⟨ds, e1, e2⟩ := bind_some e
  refine ⟨ps, ds, w, e1, fun vs H1 fp s1 r1 => ?_⟩
  show SpP np X.K κ h (vs ++ []) H1 Q E0
  rw [List.append_nil]
  exact ⟨by rw [r1.length, hlen ps ds e1, hnp], ds, fp, d, r1, e2, q.after s1⟩
theorem xn0 {x : Str} {st : Stmt} {ps : List Str} {f : Addr} {fd : FuncData} {k : Nat} {h : List D -> Option D} (Dd : Dn X.K X.mg x st ps f fd) (G : FnOk X.prog X.w X.K X.mg X.base CX0 k f fd ps (SpP 0 X.K κ h)) (hr : Room k X.A) (hg : Gl X x)
    (hdb : (x == ("__debug__" : Str)) = false := by decide) : QP X κ (.Call (.Name x p) [] [] pos) (za4 h za3) := (wv2 Dd G hr hg hdb).imp fun σ H Q hh_ => by
  obtain ⟨ps, d, w, e, q⟩ := hh_
  obtain ⟨ds, e1, e2⟩ := bind_some e
  cases e1
  exact ⟨rfl, [], [], d, .nil, e2, q⟩
theorem zg7 : ∀ (ps : PSt) (ds : List D), za3 ps = some ds -> ds.length = ([] : List Expr).length := fun _ _ h => by cases h; rfl
theorem zb8 {f : PSt -> Option D} (h : ∀ ps ds, g ps = some ds -> ds.length = es.length) : ∀ (ps : PSt) (ds : List D), za1 f g ps = some ds -> ds.length = (e :: es).length := fun ps ds q => by
  obtain ⟨d, es', _, e2, rfl⟩ := ym6 q
  rw [List.length_cons, List.length_cons, h ps es' e2]
end
noncomputable def yg2 (pick : List (Option Nat)) (ps : PSt) : PSt := pick.map fun o => o.bind fun j => (ps[j]?).join
noncomputable def zv5 (psb : PSt) (ft : PSt -> Option Bool) (fe : PSt -> Option D) : List D -> Option (List D)
  | [] => some []
  | d :: ds => (ft (psb.set 0 (some d))).bind fun b => if b = true then (fe (psb.set 0 (some d))).bind fun r => (zv5 psb ft fe ds).bind fun rs => some (r :: rs) else zv5 psb ft fe ds
noncomputable def ye8 (pick : List (Option Nat)) (fi : PSt -> Option (List D)) (ft : PSt -> Option Bool) (fe : PSt -> Option D) : PSt -> Option D := fun ps => (fi ps).bind fun ds => if ds.length <= sizeLine then (zv5 (yg2 pick ps) ft fe ds).bind fun rs => some (.lst true rs) else none
noncomputable def yg3 : PSt -> Option Bool := fun _ => some true
theorem WS.sub {K : PySem.W.Frag} {κ : Str -> Addr} {H : Hp} {σ : St} {ps : PSt} (pick : List (Option Nat)) (w : WS K κ H σ ps) : WS K κ H (yg0 pick σ) (yg2 pick ps) := fun i d h => by
  unfold yg2 at h
  unfold yg0
  rw [List.getElem?_map] at h |-
  cases e : pick[i]? with
  | none => rw [e] at h; cases h
  | some o =>
    rw [e] at h
    cases o with
    | none => cases h
    | some j =>
      have h' : (ps[j]?).join = some d := Option.some.inj h
      obtain ⟨v, fp, h1, h2⟩ := w j d (join_some h')
      refine ⟨v, fp, ?_, h2⟩
      show some ((σ[j]?).join) = some (some v)
      rw [h1]; rfl
theorem WS.set0 {K : PySem.W.Frag} {κ : Str -> Addr} {H : Hp} {σ : St} {ps : PSt} {v : V} {d : D} {fp : List Addr} (w : ∀ (i : Nat) (d : D), i ≠ 0 -> ps[i]? = some (some d) -> ∃ v fp, σ[i]? = some (some v) /\ Rep K κ H v d fp) (hl : ps.length <= σ.length) (r : Rep K κ H v d fp) : WS K κ H (σ.set 0 (some v)) (ps.set 0 (some d)) := fun i d' h => by
  by_cases e : i = 0
  . subst e
    by_cases hp : 0 < ps.length
    . rw [List.getElem?_set_self hp] at h
      cases h
      exact ⟨v, fp, by rw [List.getElem?_set_self (by omega)], r⟩
    . rw [List.getElem?_eq_none (by simpa using hp)] at h; cases h
  . rw [List.getElem?_set_ne (fun z => e z.symm)] at h |-
    exact w i d' e h
section
variable {X : Cx} {κ : Str -> Addr} {sc : Scope} {NX N : List Str} {pick : List (Option Nat)} {elt iter : Expr} {ifs : List Expr} {scope : Scope} {pos px : Pos} {x : Str} {fi : PSt -> Option (List D)} {ft : PSt -> Option Bool} {fe : PSt -> Option D}
theorem PTs.imp {X : Cx} {ifs : List Expr} {t t' : TT} (h : PTs X ifs t) (k : ∀ σ H Q, t' σ H Q -> t σ H Q) : PTs X ifs t' := fun pins s σ H Q I q => h pins s σ H Q I (k σ H Q q)
theorem yt0 {X : Cx} : PTs X [] (tQ X.K κ yg3) := wv3.imp fun σ H Q ⟨ps, b, w, e, q⟩ => by cases e; exact q H (.refl H)
structure Grown (K : PySem.W.Frag) (κ : Str -> Addr) (H1 : Hp) (Dd : Addr) (H' : Hp) (vs : List V) (rs : List D) (fv : List Addr) : Prop where
  same : SameK H1 H'
  at_ : H' Dd = some (.lst vs)
  rep : Reps K κ H' vs rs fv
  new : ∀ a ∈ fv, H1 a = none
  ne : Dd ∉ fv
  nd : fv.Nodup
noncomputable def kb9 (K : PySem.W.Frag) (κ : Str -> Addr) (J : It) (Dd : Addr) (q : Hp -> Prop) (V : Nat -> Nat -> St -> Hp -> Prop) (ft : PSt -> Option Bool) (fe : PSt -> Option D) (i m : Nat) (σ' : St) (H' : Hp) : Prop :=
    (J.stop i H' /\ q H') \/ (J.go i H' /\ ∀ x H2, J.yld i H' x H2 -> yc2 0 x σ' H2 fun σ3 H3 => tQ K κ ft σ3 H3 fun b H4 =>
      if b = true then tP K κ fe σ3 H4 fun y H5 => ∃ ys, H5 Dd = some (.lst ys) /\ ys.length < sizeLine /\ ∃ m', m' < m /\ V (i + 1) m' σ3 (upd H5 Dd (.lst (ys ++ [y]))) else ∃ m', m' < m /\ V (i + 1) m' σ3 H4)
noncomputable def kf9 (K : PySem.W.Frag) (κ : Str -> Addr) (H1 : Hp) (Dd : Addr) (pick : List (Option Nat)) (ps : PSt) (ft : PSt -> Option Bool) (fe : PSt -> Option D) (ds rs : List D) (i m : Nat) (σ' : St) (H' : Hp) : Prop := i <= ds.length /\ m = ds.length - i /\ (∀ (j : Nat) (d : D), j ≠ 0 -> (yg2 pick ps)[j]? = some (some d) -> ∃ v fp, σ'[j]? = some (some v) /\ Rep K κ H1 v d fp) /\ (yg2 pick ps).length <= σ'.length /\
    ∃ vs fv done zd5, Grown K κ H1 Dd H' vs done fv /\ done.length <= i /\ zv5 (yg2 pick ps) ft fe (ds.drop i) = some zd5 /\ rs = done ++ zd5
theorem xn1 {pick : List (Option Nat)} {J : It} {Z : List Addr} {σ : St} {ps : PSt} {H1 : Hp} {Dd : Addr} {ds rs : List D} {Q : Addr -> Hp -> Prop} (w : WS X.K κ H1 σ ps) (hD : H1 Dd = none) (W : Walk X.K κ J Z H1 ds) (hz : ds.length <= sizeLine)
    (e : zv5 (yg2 pick ps) ft fe ds = some rs) (q : ∀ H' vs fv, Grown X.K κ H1 Dd H' vs rs fv -> Q Dd H') :
    ∃ V : Nat -> Nat -> St -> Hp -> Prop, (∃ m, V 0 m (yg0 pick σ) (upd H1 Dd (.lst []))) /\ ∀ i m σ' H', V i m σ' H' -> kb9 X.K κ J Dd (Q Dd) V ft fe i m σ' H' := by
  refine ⟨kf9 X.K κ H1 Dd pick ps ft fe ds rs, ⟨_, Nat.zero_le _, rfl, fun j d _ h => w.sub pick j d h, by simp [yg2, yg0], [], [], [], rs, ⟨.new hD _, zj5, .nil, fun _ h => absurd h (by simp), by simp, List.nodup_nil⟩, Nat.zero_le _, by rw [List.drop_zero]; exact e, rfl⟩, ?_⟩
  rintro i m σ' H' ⟨hi, rfl, ws, wl, vs, fv, done, zd5, G, hdn, er, ers⟩
  have kp : yo0 Z H1 H' := fun a o h t => G.same.keep a o h (t.elim ya4 fun t => t.1)
  by_cases hlt : i < ds.length
  . right
    have ed : ds[i]? = some ds[i] := List.getElem?_eq_getElem hlt
    obtain ⟨hgo, hy⟩ := W.go H' kp i _ ed
    refine ⟨hgo, fun x H2 y => ?_⟩
    obtain ⟨rfl, rx⟩ := hy x H2 y
    rw [List.drop_eq_getElem_cons hlt, zv5] at er
    obtain ⟨b, e1, e2⟩ := bind_some er
    have wset : WS X.K κ H2 (σ'.set 0 (some x)) ((yg2 pick ps).set 0 (some ds[i])) := WS.set0 (fun j d hj h => by obtain ⟨v, fp, h1, h2⟩ := ws j d hj h; exact ⟨v, fp, h1, h2.same G.same⟩) wl rx
    refine ⟨_, b, wset, e1, fun H3 s3 => ?_⟩
    have keepS : ∀ (j : Nat) (d : D), j ≠ 0 -> (yg2 pick ps)[j]? = some (some d) -> ∃ v fp, (σ'.set 0 (some x))[j]? = some (some v) /\ Rep X.K κ H1 v d fp := fun j d hj h => by
      obtain ⟨v, fp, h1, h2⟩ := ws j d hj h
      exact ⟨v, fp, by rw [List.getElem?_set_ne (fun z => hj z.symm)]; exact h1, h2⟩
    have Dkeep : ∀ {H5 : Hp}, SameK H2 H5 -> H5 Dd = some (.lst vs) := fun s => s.keep _ _ G.at_ rfl
    cases b with
    | true =>
      dsimp only
      rw [if_pos rfl] at e2 |-
      obtain ⟨r, e3, e4⟩ := bind_some e2
      obtain ⟨rs', e5, e6⟩ := bind_some e4
      cases e6
      refine ⟨_, r, wset.same s3, e3, fun y H5 fw s5 n5 nd5 r5 => ?_⟩
      have s25 := s3.trans s5
      refine ⟨vs, Dkeep s25, ?_, ds.length - (i + 1), by omega, hlt, rfl, keepS, by simpa using wl, vs ++ [y], fv ++ fw, done ++ [r], rs', ?_, ?_, e5, by rw [ers]; simp⟩
      . have := G.rep.length; omega
      . have hDw : Dd ∉ fw := fun z => by have := s3.grow Dd (n5 Dd z); rw [G.at_] at this; cases this
        have hup : ∀ a, a ≠ Dd -> upd H5 Dd (.lst (vs ++ [y])) a = H5 a := fun a h => zg5 h
        have tfk : ∀ a o, H5 a = some o -> tf o = true -> upd H5 Dd (.lst (vs ++ [y])) a = some o := fun a o h t => by
          rw [hup a]
          . exact h
          . rintro rfl; rw [Dkeep s25] at h; cases h; cases t
        have rv5 : Reps X.K κ H5 vs done fv := G.rep.same s25
        refine ⟨⟨fun a o h k => ?_, fun a h => ?_⟩, zj5, Reps.append (rv5.move tfk fun a ha => hup a fun z => G.ne (z ▸ ha)) (Reps.one (r5.move tfk fun a ha => hup a fun z => hDw (z ▸ ha))), fun a ha => ?_, fun z => ?_, ?_⟩
        . rw [hup a (fun z => by subst z; rw [hD] at h; cases h)]
          exact (G.same.trans s25).keep a o h k
        . by_cases z : a = Dd
          . subst z; rw [zj5] at h; cases h
          . rw [hup a z] at h; exact (G.same.trans s25).grow a h
        . rcases List.mem_append.mp ha with z | z
          . exact G.new a z
          . exact (G.same.trans s3).grow a (n5 a z)
        . rcases List.mem_append.mp z with z | z
          . exact G.ne z
          . exact hDw z
        . rw [List.nodup_append]
          refine ⟨G.nd, nd5, fun a ha b hb e => ?_⟩
          subst e
          obtain ⟨o, h, k, _⟩ := G.rep.own a ha
          have := s3.keep a o h k
          rw [n5 a hb] at this; cases this
      . rw [List.length_append, List.length_singleton]; omega
    | false =>
      dsimp only
      rw [if_neg Bool.false_ne_true] at e2 |-
      refine ⟨ds.length - (i + 1), by omega, hlt, rfl, keepS, by simpa using wl, vs, fv, done, zd5, ⟨G.same.trans s3, Dkeep s3, G.rep.same s3, G.new, G.ne, G.nd⟩, by omega, e2, ers⟩
  . left
    have ek : i = ds.length := by omega
    subst ek
    rw [List.drop_length, zv5] at er
    cases er
    rw [List.append_nil] at ers
    subst ers
    exact ⟨W.stop H' kp, q H' vs fv G⟩
theorem xe6 (S : CScope sc NX N pick scope) (hsc : X.env.scope = sc) (hNX : X.N = NX) (hc : X.calm = true) (hi : QIV X κ (.Name x px) iter fi)
    (hg : ∀ cl fp s H, PG (cxB X N scope cl fp s H) (.Name x px) (yc2 0)) (ht : ∀ cl fp s H, PTs (cxB X N scope cl fp s H) ifs (tQ X.K κ ft)) (he : ∀ cl fp s H, PE (cxB X N scope cl fp s H) elt (tP X.K κ fe))
    (hs : ∀ x, foldedSetIterable iter X.env x = pure x := by intro _; rfl) : QP X κ (.ListComp elt [⟨.Name x px, iter, ifs, 0⟩] scope pos) (ye8 pick fi ft fe) :=
  (wp5 S hsc hNX hc hi hg ht he hs).imp fun σ H Q hh_ => by
    obtain ⟨ps, d, w, e, q⟩ := hh_
    obtain ⟨ds, e1, e2⟩ := bind_some e
    obtain ⟨hz, e3⟩ := zg9 e2
    obtain ⟨rs, e4, e5⟩ := bind_some e3
    cases e5
    refine ⟨ps, ds, w, e1, fun J H1 Z s1 W Dd hD => ?_⟩
    refine xn1 (Q := fun Dd H' => Q (.ref Dd) H') (w.same s1) hD W hz e4 fun H' vs fv G => ?_
    refine q _ H' (Dd :: fv) (s1.trans G.same) (fun a ha => ?_) (List.nodup_cons.mpr ⟨G.ne, G.nd⟩) (.lst G.at_ G.rep)
    rcases List.mem_cons.mp ha with z | z
    . rw [z]; exact s1.grow Dd hD
    . exact s1.grow a (G.new a z)
end
end L2
namespace L2
open PySem PySem.Spec PyProof.Rows
inductive Ps1 where
  | ix (n : Nat) | fld (f : Str)
noncomputable def zf2 : List Str -> Str -> Option Nat
  | [], _ => none
  | n :: ns, f => if n = f then some 0 else (zf2 ns f).map (· + 1)
noncomputable def ze0 {α : Type} (h : D -> Option (α × D)) : D -> List Ps1 -> Option (α × D)
  | d, [] => h d
  | .lst true xs, .ix n :: p => (xs[n]?).bind fun d => (ze0 h d p).bind fun r => some (r.1, .lst true (xs.set n r.2))
  | .obj true C ns vs, .fld f :: p => (zf2 ns f).bind fun n => (vs[n]?).bind fun d => (ze0 h d p).bind fun r => some (r.1, .obj true C ns (vs.set n r.2))
  | _, _ => none
noncomputable def ze9 : D -> List Ps1 -> Option D
  | d, [] => some d
  | .lst true xs, .ix n :: p => (xs[n]?).bind fun d => ze9 d p
  | .obj true _ ns vs, .fld f :: p => (zf2 ns f).bind fun n => (vs[n]?).bind fun d => ze9 d p
  | _, _ => none
noncomputable def At (H : Hp) : V -> List Ps1 -> V -> Prop
  | v0, [], v => v = v0
  | v0, .ix n :: p, v => ∃ a vs v1, v0 = .ref a /\ H a = some (.lst vs) /\ vs[n]? = some v1 /\ At H v1 p v
  | v0, .fld f :: p, v => ∃ a C dx fs n v1, v0 = .ref a /\ H a = some (.ins C dx fs) /\ zf2 (fs.map (·.1)) f = some n /\ (fs.map (·.2))[n]? = some v1 /\ At H v1 p v
theorem At.same {H H' : Hp} (s : SameK H H') : ∀ {p : List Ps1} {v0 v : V}, At H v0 p v -> At H' v0 p v
  | [], _, _, h => h
  | .ix n :: p, _, _, ⟨a, vs, v1, h1, h2, h3, h4⟩ => ⟨a, vs, v1, h1, s.keep _ _ h2 rfl, h3, At.same s h4⟩
  | .fld f :: p, _, _, ⟨a, C, dx, fs, n, v1, h1, h2, h3, h4, h5⟩ => ⟨a, C, dx, fs, n, v1, h1, s.keep _ _ h2 rfl, h3, h4, At.same s h5⟩
theorem At.snoc_ix {H : Hp} {a : Addr} {vs : List V} {n : Nat} {v : V} (h : H a = some (.lst vs)) (hv : vs[n]? = some v) : ∀ {p : List Ps1} {v0 : V}, At H v0 p (.ref a) -> At H v0 (p ++ [.ix n]) v
  | [], _, e => ⟨a, vs, v, e.symm, h, hv, rfl⟩
  | .ix m :: p, _, ⟨b, us, v1, h1, h2, h3, h4⟩ => ⟨b, us, v1, h1, h2, h3, At.snoc_ix h hv h4⟩
  | .fld f :: p, _, ⟨b, C, dx, fs, m, v1, h1, h2, h3, h4, h5⟩ => ⟨b, C, dx, fs, m, v1, h1, h2, h3, h4, At.snoc_ix h hv h5⟩
theorem At.snoc_fld {H : Hp} {a C dx : Addr} {fs : List (Str × V)} {f : Str} {n : Nat} {v : V} (h : H a = some (.ins C dx fs)) (hn : zf2 (fs.map (·.1)) f = some n) (hv : (fs.map (·.2))[n]? = some v) : ∀ {p : List Ps1} {v0 : V}, At H v0 p (.ref a) -> At H v0 (p ++ [.fld f]) v
  | [], _, e => ⟨a, C, dx, fs, n, v, e.symm, h, hn, hv, rfl⟩
  | .ix m :: p, _, ⟨b, us, v1, h1, h2, h3, h4⟩ => ⟨b, us, v1, h1, h2, h3, At.snoc_fld h hn hv h4⟩
  | .fld f' :: p, _, ⟨b, C', dx', fs', m, v1, h1, h2, h3, h4, h5⟩ => ⟨b, C', dx', fs', m, v1, h1, h2, h3, h4, At.snoc_fld h hn hv h5⟩
theorem xt8 {α : Type} {h : D -> Option (α × D)} {d0 : D} {n : Nat} {p : List Ps1} {r : α} {d' : D} (e : ze0 h d0 (.ix n :: p) = some (r, d')) : ∃ xs d1 d2, d0 = .lst true xs /\ xs[n]? = some d1 /\ ze0 h d1 p = some (r, d2) /\ d' = .lst true (xs.set n d2) := by
  unfold ze0 at e
  split at e
  . rename_i z; cases z
  . rename_i z; cases z
    obtain ⟨d1, h1, h2⟩ := bind_some e
    obtain ⟨⟨r1, d2⟩, h3, h4⟩ := bind_some h2
    cases h4
    exact ⟨_, _, _, rfl, h1, h3, rfl⟩
  . rename_i z; cases z
  . cases e
theorem xn2 {α : Type} {h : D -> Option (α × D)} {d0 : D} {f : Str} {p : List Ps1} {r : α} {d' : D} (e : ze0 h d0 (.fld f :: p) = some (r, d')) : ∃ C ns xs n d1 d2, d0 = .obj true C ns xs /\ zf2 ns f = some n /\ xs[n]? = some d1 /\ ze0 h d1 p = some (r, d2) /\ d' = .obj true C ns (xs.set n d2) := by
  unfold ze0 at e
  split at e
  . rename_i z; cases z
  . rename_i z; cases z
  . rename_i z; cases z
    obtain ⟨n, h0, h9⟩ := bind_some e
    obtain ⟨d1, h1, h2⟩ := bind_some h9
    obtain ⟨⟨r1, d2⟩, h3, h4⟩ := bind_some h2
    cases h4
    exact ⟨_, _, _, _, _, _, rfl, h0, h1, h3, rfl⟩
  . cases e
theorem xe7 {d0 d : D} {n : Nat} {p : List Ps1} (e : ze9 d0 (.ix n :: p) = some d) : ∃ xs d1, d0 = .lst true xs /\ xs[n]? = some d1 /\ ze9 d1 p = some d := by
  unfold ze9 at e
  split at e
  . rename_i z; cases z
  . rename_i z; cases z
    obtain ⟨d1, h1, h2⟩ := bind_some e
    exact ⟨_, _, rfl, h1, h2⟩
  . rename_i z; cases z
  . cases e
theorem yw2 {d0 d : D} {f : Str} {p : List Ps1} (e : ze9 d0 (.fld f :: p) = some d) : ∃ C ns xs n d1, d0 = .obj true C ns xs /\ zf2 ns f = some n /\ xs[n]? = some d1 /\ ze9 d1 p = some d := by
  unfold ze9 at e
  split at e
  . rename_i z; cases z
  . rename_i z; cases z
  . rename_i z; cases z
    obtain ⟨n, h0, h9⟩ := bind_some e
    obtain ⟨d1, h1, h2⟩ := bind_some h9
    exact ⟨_, _, _, _, _, rfl, h0, h1, h2⟩
  . cases e
theorem yd2 {α : Type} {h : D -> Option (α × D)} {r : α} {d' : D} {p : List Ps1} : ∀ {d0 : D}, ze0 h d0 p = some (r, d') -> ∃ d dn, ze9 d0 p = some d /\ h d = some (r, dn) := by
  induction p generalizing d' with
  | nil => intro d0 e; rw [ze0] at e; exact ⟨d0, d', by rw [ze9], e⟩
  | cons s p ih =>
    intro d0 e
    cases s with
    | ix m =>
      obtain ⟨xs, d1, d2, rfl, h1, h3, rfl⟩ := xt8 e
      obtain ⟨d, dn, g1, g2⟩ := ih h3
      refine ⟨d, dn, ?_, g2⟩
      show (xs[m]?).bind _ = _
      rw [h1]; exact g1
    | fld f =>
      obtain ⟨C, ns, xs, m, d1, d2, rfl, h0, h1, h3, rfl⟩ := xn2 e
      obtain ⟨d, dn, g1, g2⟩ := ih h3
      refine ⟨d, dn, ?_, g2⟩
      show (zf2 ns f).bind _ = _
      rw [h0]
      show (xs[m]?).bind _ = _
      rw [h1]; exact g1
section
variable {K : PySem.W.Frag} {κ : Str -> Addr} {H : Hp}
theorem Reps.focus : ∀ {vs : List V} {ds : List D} {g : List Addr} {n : Nat} {d1 : D} {v1 : V}, Reps K κ H vs ds g -> ds[n]? = some d1 -> vs[n]? = some v1 -> ∃ f1 zd5, Rep K κ H v1 d1 f1 /\ g.Perm (f1 ++ zd5) /\
    ∀ (H' : Hp) (d' : D) (f' : List Addr), (∀ a o, H a = some o -> tf o = true -> H' a = some o) -> (∀ a ∈ zd5, H' a = H a) -> Rep K κ H' v1 d' f' -> ∃ g', Reps K κ H' vs (ds.set n d') g' /\ g'.Perm (f' ++ zd5)
  | _, _, _, _, _, _, .nil, e, _ => by simp at e
  | _, _, _, 0, _, _, .cons (f := f) (g := g) h hs, e, e' => by
    simp at e e'; subst e; subst e'
    exact ⟨f, g, h, .refl _, fun H' d' f' t k r => ⟨f' ++ g, .cons r (hs.move t k), .refl _⟩⟩
  | _, _, _, n + 1, _, _, .cons (f := f) (g := g) h hs, e, e' => by
    obtain ⟨f1, zd5, h1, h2, h3⟩ := Reps.focus (n := n) hs (by simpa using e) (by simpa using e')
    refine ⟨f1, f ++ zd5, h1, ?_, fun H' d' f' t k r => ?_⟩
    . refine (h2.append_left f).trans ?_
      rw [<- List.append_assoc, <- List.append_assoc]
      exact List.perm_append_comm.append_right zd5
    . obtain ⟨g', r1, r2⟩ := h3 H' d' f' t (fun a ha => k a (List.mem_append_right _ ha)) r
      refine ⟨f ++ g', .cons (h.move t fun a ha => k a (List.mem_append_left _ ha)) r1, ?_⟩
      refine (r2.append_left f).trans ?_
      rw [<- List.append_assoc, <- List.append_assoc]
      exact List.perm_append_comm.append_right zd5
theorem xi0 {b : Addr} {g f1 fd zd5 rest1 : List Addr} (k2 : g.Perm (f1 ++ rest1)) (m3 : f1.Perm (fd ++ zd5)) : (b :: g).Perm (fd ++ b :: (zd5 ++ rest1)) := by
  refine ((k2.trans (m3.append_right rest1)).cons b).trans ?_
  rw [List.append_assoc]
  exact List.perm_middle.symm
noncomputable def Foc (K : PySem.W.Frag) (κ : Str -> Addr) (H : Hp) {α : Type} (h : D -> Option (α × D)) (r : α) (v v0 : V) (d0' : D) (fp : List Addr) : Prop := ∃ d d' fd zd5, Rep K κ H v d fd /\ h d = some (r, d') /\ fp.Perm (fd ++ zd5) /\
    ∀ (H' : Hp) (f' : List Addr), (∀ a o, H a = some o -> tf o = true -> H' a = some o) -> (∀ a ∈ zd5, H' a = H a) -> Rep K κ H' v d' f' -> ∃ fp', Rep K κ H' v0 d0' fp' /\ fp'.Perm (f' ++ zd5)
theorem focus {α : Type} {h : D -> Option (α × D)} {r : α} {p : List Ps1} : ∀ {v0 v : V} {d0 d0' : D} {fp : List Addr}, Rep K κ H v0 d0 fp -> ze0 h d0 p = some (r, d0') -> At H v0 p v -> Foc K κ H h r v v0 d0' fp := by
  induction p with
  | nil =>
    intro v0 v d0 d0' fp R e a
    rw [ze0] at e
    cases (show v = v0 from a)
    exact ⟨d0, d0', fp, [], R, e, by rw [List.append_nil], fun H' f' t k r => ⟨f', r, by rw [List.append_nil]⟩⟩
  | cons s p ih =>
    intro v0 v d0 d0' fp R e a
    have deep : ∀ (b : Addr) (vs : List V) (xs : List D) (n : Nat) (d1 d2 : D) (v1 : V) (g : List Addr), fp = b :: g -> Reps K κ H vs xs g -> xs[n]? = some d1 -> vs[n]? = some v1 -> ze0 h d1 p = some (r, d2) -> At H v1 p v -> (∀ (H' : Hp) (g2 : List Addr), H' b = H b -> Reps K κ H' vs (xs.set n d2) g2 -> Rep K κ H' v0 d0' (b :: g2)) ->
        Foc K κ H h r v v0 d0' fp := fun b vs xs n d1 d2 v1 g ef hs h1 e3 h3 e4 mk => by
      subst ef
      obtain ⟨f1, rest1, k1, k2, k3⟩ := hs.focus h1 e3
      obtain ⟨d, d', fd, zd5, m1, m2, m3, m4⟩ := ih k1 h3 e4
      refine ⟨d, d', fd, b :: (zd5 ++ rest1), m1, m2, xi0 k2 m3, fun H' f' t k rr => ?_⟩
      obtain ⟨g1, q1, q2⟩ := m4 H' f' t (fun a ha => k a (List.mem_cons_of_mem _ (List.mem_append_left _ ha))) rr
      obtain ⟨g2, q3, q4⟩ := k3 H' d2 g1 t (fun a ha => k a (List.mem_cons_of_mem _ (List.mem_append_right _ ha))) q1
      exact ⟨b :: g2, mk H' g2 (k b List.mem_cons_self) q3, xi0 q4 q2⟩
    cases s with
    | ix n =>
      obtain ⟨b, vs, v1, e1, e2, e3, e4⟩ := a
      subst e1
      obtain ⟨xs, d1, d2, rfl, h1, h3, rfl⟩ := xt8 e
      obtain ⟨_, _, g, e5, hb, hs, ef⟩ := R.lstT_inv
      cases e5
      rw [e2] at hb; cases hb
      exact deep b vs xs n d1 d2 v1 g ef hs h1 e3 h3 e4 fun H' g2 k q3 => .lst (k.trans e2) q3
    | fld f =>
      obtain ⟨b, C, dx, fs, n, v1, e1, e2, e2', e3, e4⟩ := a
      subst e1
      obtain ⟨C', ns, xs, n', d1, d2, rfl, h0, h1, h3, rfl⟩ := xn2 e
      obtain ⟨_, _, _, g, e5, hb, hn, hs, ef⟩ := R.objT_inv
      cases e5
      rw [e2] at hb; cases hb
      subst hn
      rw [e2'] at h0; cases h0
      exact deep b _ xs n d1 d2 v1 g ef hs h1 e3 h3 e4 fun H' g2 k q3 => .obj (k.trans e2) rfl q3
end
theorem yp9 {φ : Fx} {α : Type} {h : D -> Option (α × D)} {r : α} {H H1 : Hp} {σ : St} {ps : PSt} {F : Nat -> List Addr} {j : Nat} {d0 d0' : D} {v0 v : V} {p : List Ps1} (R : RS φ H σ ps F) (s1 : SameK H H1) (hb : φ.bor j = false) (e0 : ps[j]? = some (some d0)) (ev : σ[j]? = some (some v0))
    (em : ze0 h d0 p = some (r, d0')) (at_ : At H1 v0 p v) : ∃ d d' fd, Rep φ.K φ.κ H1 v d fd /\ h d = some (r, d') /\ fd.Nodup /\ (∀ a ∈ fd, a ∈ F j) /\
    ∀ (H' : Hp) (fd' fr : List Addr), (∀ a o, H1 a = some o -> kd o = true -> a ∉ fd -> H' a = some o) -> (∀ a, H' a = none -> H1 a = none) -> Rep φ.K φ.κ H' v d' fd' -> (fd' ++ fr).Nodup -> (∀ a ∈ fd' ++ fr, a ∈ fd \/ H a = none) ->
      ∃ F', Stp φ σ H F σ H' (ps.set j (some d0')) F' /\ OwnV F H F' fr := by
  obtain ⟨v0', fp, h1, h2, h3, _⟩ := R.rep j d0 e0
  rw [ev] at h1; cases h1
  have h3 := h3 hb
  subst h3
  obtain ⟨d, d', fd, zd5, m1, m2, m3, m4⟩ := focus (h2.same s1) em at_
  have ndF := R.nd j
  have ndp : (fd ++ zd5).Nodup := m3.nodup_iff.mp ndF
  obtain ⟨nd1, nd2, nd3⟩ := List.nodup_append.mp ndp
  have inF : ∀ a, a ∈ fd \/ a ∈ zd5 -> a ∈ F j := fun a ha => m3.mem_iff.mpr (List.mem_append.mpr ha)
  refine ⟨d, d', fd, m1, m2, nd1, fun a ha => inF a (.inl ha), fun H' fd' fr k1 k2 k3 k4 k5 => ?_⟩
  have tfk : ∀ a o, H1 a = some o -> tf o = true -> H' a = some o := fun a o ha t => k1 a o ha (ya4 t) fun hm => by
    obtain ⟨o', q, _, q'⟩ := m1.own a hm
    rw [ha] at q; cases q; rw [t] at q'; cases q'
  have keepO : ∀ a, (∃ i, a ∈ F i) -> a ∉ fd -> H' a = H1 a := fun a ⟨i, hi⟩ hn => by
    obtain ⟨o, q, q', _⟩ := R.own hi
    have q1 := s1.keep a o q q'
    rw [q1]; exact k1 a o q1 q' hn
  have notfd : ∀ a, a ∈ zd5 -> a ∉ fd := fun a hr hf => nd3 a hf a hr rfl
  obtain ⟨fp', r1, r2⟩ := m4 H' fd' tfk (fun a ha => keepO a ⟨j, inF a (.inr ha)⟩ (notfd a ha)) k3
  obtain ⟨kd1, kd2, kd3⟩ := List.nodup_append.mp k4
  have memfp : ∀ a, a ∈ fp' -> a ∈ fd' \/ a ∈ zd5 := fun a ha => List.mem_append.mp (r2.mem_iff.mp ha)
  have lt : j < ps.length := (List.getElem?_eq_some_iff.mp e0).1
  have old : ∀ a, a ∈ fd' ++ fr -> ∀ i, a ∈ F i -> a ∈ fd := fun a ha i hi => (k5 a ha).elim id fun z => by
    obtain ⟨o, q, _⟩ := R.own hi
    rw [z] at q; cases q
  refine ⟨yk6 F j fp', ⟨⟨fun a o ha hk hn => ?_, fun a ha => s1.grow a (k2 a ha)⟩, fun i a ha => ?_, ⟨fun i d2 hi => ?_, fun i a ha => ?_, fun i k a ha hk => ?_, fun i => ?_, fun i a ha kk hB => ?_, fun kk a hB z => R.bt kk a hB (s1.grow a (k2 a z)), by simpa using R.len⟩, fun _ _ => rfl⟩, ⟨fun a ha => ?_, kd2, fun i a ha hr => ?_⟩⟩
  . exact k1 a o (s1.keep a o ha hk) hk fun hm => hn j (inF a (.inl hm))
  . rcases zv3 ha with z | z
    . rcases memfp a z with z | z
      . exact (k5 a (List.mem_append_left _ z)).elim (fun z => .inl ⟨j, inF a (.inl z)⟩) .inr
      . exact .inl ⟨j, inF a (.inr z)⟩
    . exact .inl ⟨i, z⟩
  . by_cases e : i = j
    . subst e
      rw [List.getElem?_set_self lt] at hi
      cases hi
      exact ⟨v0, fp', ev, r1, fun _ => zm1.symm, fun z => by rw [hb] at z; cases z⟩
    . rw [List.getElem?_set_ne (fun z => e z.symm)] at hi
      obtain ⟨v2, f2, q1, q2, q3, q4⟩ := R.rep i d2 hi
      refine ⟨v2, f2, q1, (q2.same s1).move tfk fun a ha => ?_, fun z => by rw [zm2 e]; exact q3 z, q4⟩
      obtain ⟨o, w1, w2, _⟩ := q2.own a ha
      have w3 := s1.keep a o w1 w2
      rw [w3]
      refine k1 a o w3 w2 fun hm => ?_
      have hF := inF a (.inl hm)
      cases hbi : φ.bor i with
      | true => exact R.nb j a hF i (q4 hbi a ha)
      | false => rw [q3 hbi] at ha; exact e (R.dis i j a ha hF)
  . by_cases e : i = j
    . subst e; exact ⟨hb, d0', by rw [List.getElem?_set_self lt]⟩
    . rw [zm2 e] at ha
      obtain ⟨b1, d1, b2⟩ := R.emp i a ha
      exact ⟨b1, d1, by rw [List.getElem?_set_ne (fun z => e z.symm)]; exact b2⟩
  . have hh : ∀ a, a ∈ fp' -> ∀ i, i ≠ j -> a ∈ F i -> False := fun a ha i hij hi => by
      rcases memfp a ha with z | z
      . exact hij (R.dis i j a hi (inF a (.inl (old a (List.mem_append_left _ z) i hi))))
      . exact hij (R.dis i j a hi (inF a (.inr z)))
    by_cases e1 : i = j
    . by_cases e2 : k = j
      . rw [e1, e2]
      . subst e1; rw [zm1] at ha; rw [zm2 e2] at hk; exact (hh a ha k e2 hk).elim
    . by_cases e2 : k = j
      . subst e2; rw [zm1] at hk; rw [zm2 e1] at ha; exact (hh a hk i e1 ha).elim
      . rw [zm2 e1] at ha; rw [zm2 e2] at hk; exact R.dis i k a ha hk
  . by_cases e : i = j
    . subst e
      rw [zm1]
      refine r2.nodup_iff.mpr (List.nodup_append.mpr ⟨kd1, nd2, fun a ha b hb' e => ?_⟩)
      subst e
      exact notfd a hb' (old a (List.mem_append_left _ ha) i (inF a (.inr hb')))
    . rw [zm2 e]; exact R.nd i
  . rcases zv3 ha with z | z
    . rcases memfp a z with z | z
      . exact R.notB ((k5 a (List.mem_append_left _ z)).elim (fun z => .inl ⟨j, inF a (.inl z)⟩) .inr) kk hB
      . exact R.nb j a (inF a (.inr z)) kk hB
    . exact R.nb i a z kk hB
  . exact (k5 a (List.mem_append_right _ ha)).elim (fun z => .inl ⟨j, inF a (.inl z)⟩) .inr
  . rcases zv3 ha with z | z
    . rcases memfp a z with z | z
      . exact kd3 a z a hr rfl
      . exact notfd a z (old a (List.mem_append_right _ hr) j (inF a (.inr z)))
    . have := old a (List.mem_append_right _ hr) i z
      by_cases e : i = j
      . subst e
        rw [zm1] at ha
        rcases memfp a ha with w | w
        . exact kd3 a w a hr rfl
        . exact notfd a w this
      . exact e (R.dis i j a z (inF a (.inl this)))
end L2
namespace L2
open PySem PySem.Spec PyProof.Rows
noncomputable def zp9 (K : PySem.W.Frag) (κ : Str -> Addr) (j : Nat) (pf : PSt -> Option (List Ps1)) : TE := fun σ H Q => ∃ ps p d0 d, WS K κ H σ ps /\ ps[j]? = some (some d0) /\ pf ps = some p /\ ze9 d0 p = some d /\ ∀ v H' v0, SameK H H' -> σ[j]? = some (some v0) -> At H' v0 p v -> Q v H'
theorem yw3 {K : PySem.W.Frag} {κ : Str -> Addr} {H : Hp} {v0 v : V} {d0 d : D} {fp : List Addr} {p : List Ps1} (R : Rep K κ H v0 d0 fp) (g : ze9 d0 p = some d) (a : At H v0 p v) : ∃ fd, Rep K κ H v d fd := by
  have key : ∀ {p : List Ps1} {v0 v : V} {d0 d : D} {fp : List Addr}, Rep K κ H v0 d0 fp -> ze9 d0 p = some d -> At H v0 p v -> ∃ fd, Rep K κ H v d fd := by
    intro p
    induction p with
    | nil => intro v0 v d0 d fp R g a; cases g; cases (show v = v0 from a); exact ⟨fp, R⟩
    | cons s p ih =>
      intro v0 v d0 d fp R g a
      cases s with
      | ix n =>
        obtain ⟨b, vs, v1, e1, e2, e3, e4⟩ := a
        subst e1
        obtain ⟨xs, d1, rfl, h1, h2⟩ := xe7 g
        obtain ⟨_, _, _, e5, hb, hs, _⟩ := R.lstT_inv
        cases e5
        rw [e2] at hb; cases hb
        obtain ⟨v', f, q1, q2, _⟩ := hs.get h1
        rw [e3] at q1; cases q1
        exact ih q2 h2 e4
      | fld f =>
        obtain ⟨b, C, dx, fs, n, v1, e1, e2, e2', e3, e4⟩ := a
        subst e1
        obtain ⟨C', ns, xs, n', d1, rfl, h0, h1, h2⟩ := yw2 g
        obtain ⟨_, _, _, _, e5, hb, hn, hs, _⟩ := R.objT_inv
        cases e5
        rw [e2] at hb; cases hb
        subst hn
        rw [e2'] at h0; cases h0
        obtain ⟨v', f, q1, q2, _⟩ := hs.get h1
        rw [e3] at q1; cases q1
        exact ih q2 h2 e4
  exact key R g a
noncomputable def zb7 : PSt -> Option (List Ps1) := fun _ => some []
noncomputable def zh7 (j : Nat) (pf : PSt -> Option (List Ps1)) (fb : PSt -> Option D) : PSt -> Option (List Ps1) := fun ps => (pf ps).bind fun p => ((ps[j]?).join).bind fun d0 => (ze9 d0 p).bind fun d => (fb ps).bind fun y => match d, y with
  | .lst true xs, .int i => (ixN xs.length i).bind fun n => some (p ++ [.ix n])
  | _, _ => none
noncomputable def zo0 (j : Nat) (pf : PSt -> Option (List Ps1)) (C f : Str) : PSt -> Option (List Ps1) := fun ps => (pf ps).bind fun p => ((ps[j]?).join).bind fun d0 => (ze9 d0 p).bind fun d => match d with
  | .obj true C' _ _ => if C' = C then some (p ++ [.fld f]) else none
  | _ => none
theorem yh5 : ∀ {fs : List (Str × V)} {f : Str} {n : Nat} {v : V}, zf2 (fs.map (·.1)) f = some n -> (fs.map (·.2))[n]? = some v -> fs.lookup f = some v
  | [], _, _, _, h, _ => by cases h
  | (g, u) :: fs, f, n, v, h, hv => by
    rw [List.map_cons, zf2] at h
    by_cases e : g = f
    . rw [if_pos e] at h
      cases h
      rw [List.lookup_cons]
      have : (f == g) = true := by simp [e]
      rw [this]
      simpa using hv
    . rw [if_neg e] at h
      cases q : zf2 (fs.map (·.1)) f with
      | none => rw [q] at h; cases h
      | some m =>
        rw [q] at h; cases h
        rw [List.lookup_cons]
        have : (f == g) = false := by simp; exact fun z => e z.symm
        rw [this]
        exact yh5 q (by simpa using hv)
section
variable {X : Cx} {φ : F0} {κ : Str -> Addr} {K : PySem.W.Frag} {o e a b : Expr} {f fb fe : PSt -> Option D} {g : PSt -> Option (List D)} {pf : PSt -> Option (List Ps1)} {j : Nat} {pos apos : Pos}
theorem zf1 (j : Nat) {x : Str} (hN : X.N[j]? = some x := by rfl) (hv : Vis X.env.scope x := by first | exact Or.inl rfl | exact Or.inr (Or.inl rfl) | exact Or.inr (Or.inr rfl)) (hd : (x == ("__debug__" : Str)) = false := by decide)
    (hcd : (x == ("__classdict__" : Str)) = false := by decide) : PE X (.Name x pos) (zp9 K κ j zb7) := (yk9 hN hv hd hcd).imp fun σ H Q hh_ => by
  obtain ⟨ps, p, d0, d, w, e0, ep, eg, q⟩ := hh_
  cases ep
  obtain ⟨v, fp, h1, h2⟩ := w j d0 e0
  exact ⟨v, h1, q v H v (.refl H) h1 rfl⟩
theorem zr8 (ha : PE X a (zp9 X.K κ j pf)) (hb : QV X κ b fb) (hs : ye1 b := by exact fun _ _ => rfl) : PE X (.Subscript a b pos) (zp9 X.K κ j (zh7 j pf fb)) :=
  (xk1 xe0 ha hb hs).imp fun σ H Q hh_ => by
    obtain ⟨ps, p, d0, d, w, e0, ep, eg, q⟩ := hh_
    obtain ⟨p1, e1, e2⟩ := bind_some ep
    obtain ⟨d0', e3, e4⟩ := bind_some e2
    have := join_some e3
    rw [e0] at this; cases this
    obtain ⟨d1, e5, e6⟩ := bind_some e4
    obtain ⟨y, e7, e8⟩ := bind_some e6
    split at e8
    . rename_i xs i
      obtain ⟨n, e9, e10⟩ := bind_some e8
      cases e10
      refine ⟨ps, p1, d0, _, w, e0, e1, e5, fun v H1 v0 s1 ev a1 => ⟨ps, _, w.same s1, e7, fun u H2 fq s2 r2 => ?_⟩⟩
      obtain ⟨v0', fp, h1, h2⟩ := w j d0 e0
      rw [ev] at h1; cases h1
      obtain ⟨fd, rd⟩ := yw3 (h2.same (s1.trans s2)) e5 (a1.same s2)
      obtain ⟨l, vs, g, rfl, hl, hr, _⟩ := rd.lstT_inv
      have ln := hr.length
      have hn := (ys8 e9).2.1
      obtain ⟨v1, hv⟩ : ∃ v1, vs[n]? = some v1 := ⟨_, List.getElem?_eq_getElem (by rw [ln]; exact hn)⟩
      refine ⟨l, vs, i, v1, rfl, r2.is_int, .inl (.inl hl), ?_, q _ H2 v0 (s1.trans s2) ev (At.snoc_ix hl hv (a1.same s2))⟩
      unfold atI
      rw [ln, e9]; exact hv
    . cases e8
theorem yq0 {C fn : Str} (hc : Cls X.K (κ C)) (hna : zh0 X.K (κ C) fn) (ha : PE X a (zp9 X.K κ j pf)) (hb : attributeBase a fn X.env (eval a X.env) = eval a X.env := by rfl) : PE X (.Attribute a fn pos) (zp9 X.K κ j (zo0 j pf C fn)) :=
  (wu2 ha hb).imp fun σ H Q hh_ => by
    obtain ⟨ps, p, d0, d, w, e0, ep, eg, q⟩ := hh_
    obtain ⟨p1, e1, e2⟩ := bind_some ep
    obtain ⟨d0', e3, e4⟩ := bind_some e2
    have := join_some e3
    rw [e0] at this; cases this
    obtain ⟨d1, e5, e6⟩ := bind_some e4
    split at e6
    . rename_i C' ns xs
      obtain ⟨hC, e7⟩ := zg9 e6
      subst hC
      cases e7
      refine ⟨ps, p1, d0, _, w, e0, e1, e5, fun v H1 v0 s1 ev a1 => ?_⟩
      obtain ⟨v0', fp, h1, h2⟩ := w j d0 e0
      rw [ev] at h1; cases h1
      obtain ⟨fd, rd⟩ := yw3 (h2.same s1) e5 a1
      have key : ∀ {p : List Ps1} {d0 : D}, ze9 d0 p = some (.obj true C' ns xs) -> ze9 d0 (p ++ [.fld fn]) = some d -> ∃ n d', zf2 ns fn = some n /\ xs[n]? = some d' := by
        intro p
        induction p with
        | nil =>
          intro d0 h1 h2
          cases h1
          obtain ⟨n, k1, k2⟩ := bind_some h2
          obtain ⟨d', k3, _⟩ := bind_some k2
          exact ⟨n, d', k1, k3⟩
        | cons s p ih =>
          intro d0 h1 h2
          cases s with
          | ix m =>
            obtain ⟨ys, x1, rfl, k1, k2⟩ := xe7 h1
            obtain ⟨_, x2, z, k3, k4⟩ := xe7 h2
            cases z
            rw [k1] at k3; cases k3
            exact ih k2 k4
          | fld f' =>
            obtain ⟨C2, ns2, ys, m1, x1, rfl, k0, k1, k2⟩ := yw2 h1
            obtain ⟨_, _, _, m2, x2, z, k5, k3, k4⟩ := yw2 h2
            cases z
            rw [k0] at k5; cases k5
            rw [k1] at k3; cases k3
            exact ih k2 k4
      obtain ⟨n, d', k1, k2⟩ := key e5 eg
      obtain ⟨l, dx, fs, g, rfl, hl, hn, hr, _⟩ := rd.objT_inv
      subst hn
      obtain ⟨v1, f1, k3, _⟩ := hr.get k2
      exact ⟨l, κ C', dx, fs, v1, rfl, hl, hc, hna, yh5 k1 k3, q _ H1 v0 s1 ev (At.snoc_fld hl k1 k3 a1)⟩
    . cases e6
noncomputable def zd1 (j : Nat) (pf : PSt -> Option (List Ps1)) (g : PSt -> Option (List D)) (h : List D -> D -> Option (D × D)) : PSt -> Option (D × PSt) := fun ps => ((ps[j]?).join).bind fun d0 => (pf ps).bind fun p => (g ps).bind fun ys => (ze0 (h ys) d0 p).bind fun r => some (r.1, ps.set j (some r.2))
theorem yq1 {h : List D -> D -> Option (D × D)} {ps ps' : PSt} {d : D} (e : zd1 j pf g h ps = some (d, ps')) : ∃ d0 p ys d0', ps[j]? = some (some d0) /\ pf ps = some p /\ g ps = some ys /\ ze0 (h ys) d0 p = some (d, d0') /\ ps' = ps.set j (some d0') := by
  obtain ⟨d0, e1, e2⟩ := bind_some e
  obtain ⟨p, e3, e4⟩ := bind_some e2
  obtain ⟨ys, e5, e6⟩ := bind_some e4
  obtain ⟨⟨r, d0'⟩, e7, e8⟩ := bind_some e6
  cases e8
  exact ⟨d0, p, ys, d0', join_some e1, e3, e5, e7, rfl⟩
noncomputable def zc8 : List D -> D -> Option (D × D)
  | [y], .lst true xs => if xs.length < sizeLine then some (.non, .lst true (xs ++ [y])) else none
  | _, _ => none
theorem yq2 {ys : List D} {d r d' : D} (h : zc8 ys d = some (r, d')) : ∃ y xs, ys = [y] /\ d = .lst true xs /\ xs.length < sizeLine /\ r = .non /\ d' = .lst true (xs ++ [y]) := by
  unfold zc8 at h
  split at h
  . obtain ⟨hc, e⟩ := zg9 h
    cases e
    exact ⟨_, _, rfl, rfl, hc, rfl, rfl⟩
  . cases h
theorem xe8 {H H1 : Hp} {σ : St} {ps : PSt} {d0 d : D} {v0 v : V} {p : List Ps1} (w : WS K κ H σ ps) (s1 : SameK H H1) (e0 : ps[j]? = some (some d0)) (ev : σ[j]? = some (some v0)) (g : ze9 d0 p = some d) (a : At H1 v0 p v) : ∃ fd, Rep K κ H1 v d fd := by
  obtain ⟨v0', fp, h1, h2⟩ := w j d0 e0
  rw [ev] at h1; cases h1
  exact yw3 (h2.same s1) g a
theorem zr0 (hb : φ.bor j = false) (ho : PE X o (zp9 X.K κ j pf)) (ha : PA X [e] (tPA X.K κ g))
    (hbase : attributeBase o "append" X.env (eval o X.env) = eval o X.env := by rfl)
    (hfew : ((backTo pos (starEach [e] X.env)).all (fun x => !x.1) && (backToKw pos (keywordEach [] X.env)).all (fun x => x.1.isSome)
      && decide ([e].length + ([] : List Keyword).length + (if ([] : List Keyword).isEmpty then 0 else 1) < 30)) = true := by rfl)
    (hline : (apos.endLine == pos.line) = true := by rfl) (hs : starEach [e] X.env = (false, eval e X.env) :: starEach [] X.env := by rfl) (hplain : (backTo pos (starEach [] X.env)).any (·.1) = false := by rfl) :
    QE X κ φ (.Call (.Attribute o "append" apos) [e] [] pos) (zd1 j pf g zc8) :=
  (wn0 PySem.F.plainAttrs_list PySem.F.slot_list_append PySem.F.type_list_append xh5 ho ha hbase hfew hline hs hplain).imp fun σ H Q hh_ => by
    obtain ⟨ps, F, d, ps', R, e, q⟩ := hh_
    obtain ⟨d0, p, ys, d0', e0, ep, eg, em, rfl⟩ := yq1 e
    obtain ⟨dd, dn, gp, hh⟩ := yd2 em
    refine ⟨ps, p, d0, dd, R.ws, e0, ep, gp, fun v H1 v0 s1 ev a1 => ⟨?_, ps, ys, R.ws.same s1, eg, fun vs H2 fy s2 n2 nd2 r2 => ?_⟩⟩
    . obtain ⟨y, xs, rfl, rfl, _⟩ := yq2 hh
      obtain ⟨fd, rd⟩ := xe8 R.ws s1 e0 ev gp a1
      obtain ⟨_, _, _, rfl, hl, hr, rfl⟩ := rd.lstT_inv
      exact .inl ⟨rfl, _, .inl (.inl hl)⟩
    . obtain ⟨d1, d1', fd, m1, m2, m3, m4, m5⟩ := yp9 R (s1.trans s2) hb e0 ev em (a1.same s2)
      obtain ⟨y, xs, rfl, rfl, hz, rfl, rfl⟩ := yq2 m2
      obtain ⟨u, rfl, ru⟩ := r2.one_inv
      obtain ⟨l, us, g1, rfl, hl, hr, rfl⟩ := m1.lstT_inv
      have ln := hr.length
      refine ⟨l, us, u, rfl, rfl, hl, by omega, ?_⟩
      have nl : l ∉ fy := fun z => by have := n2 l z; have := s1.keep l; obtain ⟨o, h1, h2, _⟩ := R.own (m4 l List.mem_cons_self); have := s1.keep l o h1 h2; rw [n2 l z] at this; cases this
      obtain ⟨nl2, nd3⟩ := List.nodup_cons.mp m3
      have up : ∀ a, a ≠ l -> upd H2 l (.lst (us ++ [u])) a = H2 a := fun a h => zg5 h
      have tfk : ∀ a o, H2 a = some o -> tf o = true -> upd H2 l (.lst (us ++ [u])) a = some o := fun a o h t => by
        rw [up a]
        . exact h
        . rintro rfl; rw [hl] at h; cases h; cases t
      obtain ⟨F', st, ow⟩ := m5 (upd H2 l (.lst (us ++ [u]))) (l :: (g1 ++ fy)) [] (fun a o h _ hn => by rw [up a (fun z => hn (z ▸ List.mem_cons_self))]; exact h)
        (fun a h => by
          by_cases z : a = l
          . subst z; rw [zj5] at h; cases h
          . rw [up a z] at h; exact h)
        (.lst zj5 (Reps.append (hr.move tfk fun a ha => up a fun z => nl2 (z ▸ ha)) (Reps.one (ru.move tfk fun a ha => up a fun z => nl (z ▸ ha)))))
        (by
          rw [List.append_nil, List.nodup_cons, List.nodup_append]
          refine ⟨fun z => (List.mem_append.mp z).elim nl2 nl, nd3, nd2, fun a ha b hb e => ?_⟩
          subst e
          obtain ⟨o, h1, h2, _⟩ := R.own (m4 a (List.mem_cons_of_mem _ ha))
          have := s1.keep a o h1 h2
          rw [n2 a hb] at this; cases this)
        (fun a ha => by
          rw [List.append_nil] at ha
          rcases List.mem_cons.mp ha with z | z
          . exact .inl (z ▸ List.mem_cons_self)
          . rcases List.mem_append.mp z with z | z
            . exact .inl (List.mem_cons_of_mem _ z)
            . exact .inr (s1.grow a (n2 a z)))
      exact q .non _ F' [] st ow .non
end
end L2
namespace L2
open PySem PySem.Spec PyProof.Rows
section
variable {K : PySem.W.Frag} {κ : Str -> Addr} {H : Hp} {l : Addr} {o0 o : HO}
theorem wd3 (hl : H l = some o0) (ht : tf o0 = false) : ∀ a u, H a = some u -> tf u = true -> upd H l o a = some u := fun a u h t => by
  rw [zg5]
  . exact h
  . rintro rfl; rw [hl] at h; cases h; rw [ht] at t; cases t
theorem Rep.updL {v : V} {d : D} {g : List Addr} (r : Rep K κ H v d g) (hl : H l = some o0) (ht : tf o0 = false) (n : l ∉ g) : Rep K κ (upd H l o) v d g := r.move (wd3 hl ht) fun a ha => zg5 fun z => n (z ▸ ha)
theorem Reps.updL {v : List V} {d : List D} {g : List Addr} (r : Reps K κ H v d g) (hl : H l = some o0) (ht : tf o0 = false) (n : l ∉ g) : Reps K κ (upd H l o) v d g := r.move (wd3 hl ht) fun a ha => zg5 fun z => n (z ▸ ha)
theorem yw4 {a : Addr} {u : HO} {g : List Addr} (h : H a = some u) (n : a ∉ l :: g) : upd H l o a = some u := by
  rw [zg5 (fun z => n (by rw [z]; exact List.mem_cons_self))]; exact h
theorem yw5 {a : Addr} (h : upd H l o a = none) : H a = none := by
  by_cases z : a = l
  . subst z; rw [zj5] at h; cases h
  . rw [zg5 z] at h; exact h
theorem Reps.pop : ∀ {vs : List V} {ds : List D} {g : List Addr} {d : D}, Reps K κ H vs ds g -> ds[ds.length - 1]? = some d -> ∃ v g1 f, vs[vs.length - 1]? = some v /\ Rep K κ H v d f /\ Reps K κ H vs.dropLast ds.dropLast g1 /\ g = g1 ++ f
  | _, _, _, _, .nil, e => by simp at e
  | _, [d1], _, d, .cons (f := f) h .nil, e => by
    have e' : d1 = d := by simpa using e
    subst e'
    exact ⟨_, [], f, by simp, h, .nil, by simp⟩
  | v :: v2 :: vs, d1 :: d2 :: ds, _, d, .cons (f := f) h (.cons (f := f2) (g := g2) h2 hs), e => by
    obtain ⟨w, g1, f', k1, k2, k3, k4⟩ := Reps.pop (.cons h2 hs) (d := d) (by simpa using e)
    refine ⟨w, f ++ g1, f', by simpa using k1, k2, ?_, by rw [List.append_assoc, <- k4]⟩
    rw [List.dropLast_cons₂, List.dropLast_cons₂]
    exact .cons h k3
theorem Reps.setV : ∀ {vs : List V} {ds : List D} {g : List Addr} {n : Nat} {v' : V} {d' : D} {f' : List Addr}, Reps K κ H vs ds g -> n < ds.length -> Rep K κ H v' d' f' -> ∃ f1 zd5 g', g.Perm (f1 ++ zd5) /\ Reps K κ H (vs.set n v') (ds.set n d') g' /\ g'.Perm (f' ++ zd5)
  | _, _, _, _, _, _, _, .nil, e, _ => by simp at e
  | _, _, _, 0, _, _, f', .cons (f := f) (g := g) h hs, _, r => ⟨f, g, f' ++ g, .refl _, .cons r hs, .refl _⟩
  | _, _, _, n + 1, _, _, f', .cons (f := f) (g := g) h hs, e, r => by
    obtain ⟨f1, zd5, g', h1, h2, h3⟩ := Reps.setV (n := n) hs (by simpa using e) r
    refine ⟨f1, f ++ zd5, f ++ g', ?_, .cons h h2, ?_⟩
    . refine (h1.append_left f).trans ?_
      rw [<- List.append_assoc, <- List.append_assoc]
      exact List.perm_append_comm.append_right zd5
    . refine (h3.append_left f).trans ?_
      rw [<- List.append_assoc, <- List.append_assoc]
      exact List.perm_append_comm.append_right zd5
end
section
variable {X : Cx} {φ : F0} {κ : Str -> Addr} {K : PySem.W.Frag} {o e a b : Expr} {f fi fe : PSt -> Option D} {g : PSt -> Option (List D)} {pf : PSt -> Option (List Ps1)} {j : Nat} {pos apos : Pos}
noncomputable def yi2 : List D -> D -> Option (D × D)
  | [], .lst true xs => (xs[xs.length - 1]?).bind fun y => some (y, .lst true xs.dropLast)
  | _, _ => none
theorem xi1 {ys : List D} {d r d' : D} (h : yi2 ys d = some (r, d')) : ∃ xs, ys = [] /\ d = .lst true xs /\ xs[xs.length - 1]? = some r /\ d' = .lst true xs.dropLast := by
  unfold yi2 at h
  split at h
  . obtain ⟨y, h1, h2⟩ := bind_some h
    cases h2
    exact ⟨_, rfl, rfl, h1, rfl⟩
  . cases h
theorem xn3 (hb : φ.bor j = false) (ho : PE X o (zp9 X.K κ j pf))
    (hbase : attributeBase o "pop" X.env (eval o X.env) = eval o X.env := by rfl) (hline : (apos.endLine == pos.line) = true := by rfl) : QE X κ φ (.Call (.Attribute o "pop" apos) [] [] pos) (zd1 j pf za3 yi2) :=
  (wv0 PySem.F.plainAttrs_list PySem.F.slot_list_pop PySem.F.type_list_pop wv1 ho hbase hline).imp fun σ H Q hh_ => by
    obtain ⟨ps, F, d, ps', R, e, q⟩ := hh_
    obtain ⟨d0, p, ys, d0', e0, ep, eg, em, rfl⟩ := yq1 e
    cases eg
    obtain ⟨dd, dn, gp, hh⟩ := yd2 em
    refine ⟨ps, p, d0, dd, R.ws, e0, ep, gp, fun v H1 v0 s1 ev a1 => ⟨?_, ?_⟩⟩
    . obtain ⟨xs, _, rfl, _⟩ := xi1 hh
      obtain ⟨fd, rd⟩ := xe8 R.ws s1 e0 ev gp a1
      obtain ⟨_, _, _, rfl, hl, hr, rfl⟩ := rd.lstT_inv
      exact .inl ⟨rfl, _, .inl (.inl hl)⟩
    . obtain ⟨d1, d1', fd, m1, m2, m3, m4, m5⟩ := yp9 R s1 hb e0 ev em a1
      obtain ⟨xs, _, rfl, hx, rfl⟩ := xi1 m2
      obtain ⟨l, us, g1, rfl, hl, hr, rfl⟩ := m1.lstT_inv
      obtain ⟨u, g2, f2, k1, k2, k3, rfl⟩ := hr.pop hx
      obtain ⟨nl, nd3⟩ := List.nodup_cons.mp m3
      have n1 : l ∉ g2 := fun z => nl (List.mem_append_left _ z)
      have n2 : l ∉ f2 := fun z => nl (List.mem_append_right _ z)
      refine ⟨l, us, u, rfl, rfl, hl, k1, ?_⟩
      obtain ⟨F', st, ow⟩ := m5 (upd H1 l (.lst us.dropLast)) (l :: g2) f2 (fun a o h _ hn => yw4 h hn)
        (fun a h => yw5 h)
        (.lst zj5 (k3.updL hl rfl n1)) (by rw [List.cons_append, List.nodup_cons]; exact ⟨nl, nd3⟩) (fun a ha => .inl ha)
      exact q u _ F' f2 st ow (k2.updL hl rfl n2)
noncomputable def zm6 : D -> D -> D -> Option (Unit × D)
  | .int i, y, .lst true xs => (ixN xs.length i).bind fun n => some ((), .lst true (xs.set n y))
  | _, _, _ => none
noncomputable def zi0 (j : Nat) (pf : PSt -> Option (List Ps1)) (fi fe : PSt -> Option D) : PSt -> Option (Fl × PSt) := fun ps => (fe ps).bind fun y => ((ps[j]?).join).bind fun d0 => (pf ps).bind fun p => (fi ps).bind fun i => (ze0 (zm6 i y) d0 p).bind fun r => some (.nx, ps.set j (some r.2))
theorem xr6 {i y d d' : D} {r : Unit} (h : zm6 i y d = some (r, d')) : ∃ k xs n, i = .int k /\ d = .lst true xs /\ ixN xs.length k = some n /\ d' = .lst true (xs.set n y) := by
  unfold zm6 at h
  split at h
  . obtain ⟨n, h1, h2⟩ := bind_some h
    cases h2
    exact ⟨_, _, n, rfl, rfl, h1, rfl⟩
  . cases h
theorem zx2 {i : Expr} (hb : φ.bor j = false) (he : PE X e (tP X.K κ fe)) (ho : PE X o (zp9 X.K κ j pf)) (hi : PE X i (tV X.K κ fi)) (hs : swapsWithSole [.Subscript o i apos] e pos.line X.env = pure false := by rfl) (hw : swappedStores [.Subscript o i apos] e X.env = pure none := by rfl)
    (h1 : (assignEach [.Subscript o i apos] X.env).map (·.2) = [assign (.Subscript o i apos) X.env] := by rfl)
    (ha : ∀ v, assign (.Subscript o i apos) X.env v = (do
      let ov <- holding [v] (eval o X.env)
      let iv <- holding [v, ov] (eval i X.env)
      standAt apos
      holding [v, ov, iv] (setItem ov iv v)
      release [v, ov, iv] []) := by intro _; rfl) : QS X κ φ (.Assign [.Subscript o i apos] e pos) (zi0 j pf fi fe) :=
  (wa6 he (wt5 ho hi wi6 ha) hs hw h1).imp fun E σ H hh_ => by
    obtain ⟨ps, F, fl, ps', R, e, q⟩ := hh_
    obtain ⟨y, e1, e2⟩ := bind_some e
    obtain ⟨d0, e3, e4⟩ := bind_some e2
    have e0 := join_some e3
    obtain ⟨p, e5, e6⟩ := bind_some e4
    obtain ⟨iv, e7, e8⟩ := bind_some e6
    obtain ⟨⟨r, d0'⟩, em, e9⟩ := bind_some e8
    cases e9
    obtain ⟨dd, dn, gp, hh⟩ := yd2 em
    refine ⟨ps, y, R.ws, e1, fun v H1 fy s1 n1 nd1 ry => ⟨ps, p, d0, dd, R.ws.same s1, e0, e5, gp, fun lv H2 v0 s2 ev a2 => ⟨ps, iv, (R.ws.same s1).same s2, e7, fun u H3 fu s3 r3 => ?_⟩⟩⟩
    have s13 := (s1.trans s2).trans s3
    obtain ⟨d1, d1', fd, m1, m2, m3, m4, m5⟩ := yp9 R s13 hb e0 ev em (a2.same s3)
    obtain ⟨k, xs, n, rfl, rfl, hn, rfl⟩ := xr6 m2
    obtain ⟨l, us, g1, rfl, hl, hr, rfl⟩ := m1.lstT_inv
    have ln := hr.length
    have ry3 := (ry.same s2).same s3
    obtain ⟨nl, nd3⟩ := List.nodup_cons.mp m3
    have own0 : ∀ a ∈ l :: g1, H a ≠ none := fun a ha z => by obtain ⟨o, h, _⟩ := R.own (m4 a ha); rw [z] at h; cases h
    have nl2 : l ∉ fy := fun z => own0 l List.mem_cons_self (n1 l z)
    obtain ⟨f1, zd5, g2, k1, k2, k3⟩ := hr.setV (n := n) (ys8 hn).2.1 ry3
    have mem2 : ∀ a ∈ g2, a ∈ fy \/ a ∈ g1 := fun a ha => (List.mem_append.mp (k3.mem_iff.mp ha)).elim .inl fun z => .inr (k1.mem_iff.mpr (List.mem_append_right _ z))
    have n2 : l ∉ g2 := fun z => (mem2 l z).elim nl2 nl
    refine ⟨l, us, k, n, rfl, r3.is_int, hl, by rw [ln]; exact hn, ?_⟩
    obtain ⟨F', st, ow⟩ := m5 (upd H3 l (.lst (us.set n v))) (l :: g2) [] (fun a o h _ hn => yw4 h hn)
      (fun a h => yw5 h)
      (.lst zj5 (k2.updL hl rfl n2))
      (by
        rw [List.append_nil, List.nodup_cons]
        refine ⟨n2, k3.nodup_iff.mpr (List.nodup_append.mpr ⟨nd1, ?_, fun a ha b hb e => ?_⟩)⟩
        . exact (List.nodup_append.mp (k1.nodup_iff.mp nd3)).2.1
        . subst e
          exact own0 a (List.mem_cons_of_mem _ (k1.mem_iff.mpr (List.mem_append_right _ hb))) (n1 a ha))
      (fun a ha => by
        rw [List.append_nil] at ha
        rcases List.mem_cons.mp ha with z | z
        . exact .inl (by rw [z]; exact List.mem_cons_self)
        . exact (mem2 a z).elim (fun z => .inr (n1 a z)) fun z => .inl (List.mem_cons_of_mem _ z))
    exact q _ _ F' st
end
end L2
namespace L2
open PySem PySem.Spec PyProof.Rows
section
variable {φ : Fx} {H H1 : Hp} {σ σ1 : St} {ps ps1 : PSt} {F F1 : Nat -> List Addr}
theorem Stp.set' {fv : List Addr} {i : Nat} {v : V} {d : D} (s1 : Stp φ σ H F σ1 H1 ps1 F1) (o : OwnV F H F1 fv) (R : RS φ H σ ps F) (r : Rep φ.K φ.κ H1 v d fv) (hb : φ.bor i = false \/ fv = []) (hm : φ.M i = false) :
    ∃ F', Stp φ σ H F (σ1.set i (some v)) H1 (ps1.set i (some d)) F' /\ ∀ k a, a ∈ F' k -> a ∈ fv \/ a ∈ F1 k := by
  refine ⟨_, ⟨s1.fr, fun j a h => ?_, s1.rs.set r hb (fun j _ => o.dis j) o.nd fun a ha => R.notB (o.nw a ha), fun j h => ?_⟩, fun k a h => ?_⟩
  . rcases zv3 h with z | z
    . by_cases k : i < ps1.length
      . rw [if_pos k] at z; exact o.nw a z
      . rw [if_neg k] at z; exact absurd z (by simp)
    . exact s1.nw j a z
  . rw [List.getElem?_set_ne (fun z => by subst z; rw [hm] at h; cases h)]
    exact s1.msk j h
  . rcases zv3 h with z | z
    . by_cases k : i < ps1.length
      . rw [if_pos k] at z; exact .inl z
      . rw [if_neg k] at z; exact absurd z (by simp)
    . exact .inr z
noncomputable def setN : St -> List Nat -> List V -> St
  | σ, i :: is, v :: vs => setN (σ.set i (some v)) is vs
  | σ, _, _ => σ
noncomputable def yo1 : PSt -> List Nat -> List D -> PSt
  | ps, i :: is, d :: ds => yo1 (ps.set i (some d)) is ds
  | ps, _, _ => ps
noncomputable def xc1 : List Nat -> TGs
  | [] => wm2
  | i :: is => xz5 (yc2 i) (xc1 is)
theorem yq3 {Q : St -> Hp -> Prop} : ∀ {is : List Nat} {vs : List V} {σ : St}, vs.length = is.length -> Q (setN σ is vs) H -> xc1 is vs σ H Q
  | [], [], σ, _, q => ⟨rfl, q⟩
  | i :: is, v :: vs, σ, h, q => ⟨v, vs, rfl, yq3 (is := is) (by simpa using h) q⟩
  | [], _ :: _, _, h, _ => by simp at h
  | _ :: _, [], _, h, _ => by simp at h
theorem Stp.setN (R : RS φ H σ ps F) : ∀ {is : List Nat} {vs : List V} {ds : List D} {g : List Addr} {σ1 : St} {ps1 : PSt} {F1 : Nat -> List Addr}, Stp φ σ H F σ1 H1 ps1 F1 -> OwnV F H F1 g -> Reps φ.K φ.κ H1 vs ds g -> (∀ i ∈ is, φ.bor i = false /\ φ.M i = false) ->
    ∃ F', Stp φ σ H F (L2.setN σ1 is vs) H1 (yo1 ps1 is ds) F' := by
  intro is
  induction is with
  | nil => intro vs ds g σ1 ps1 F1 s _ _ _; exact ⟨F1, by simpa [L2.setN, yo1] using s⟩
  | cons i is ih =>
    intro vs ds g σ1 ps1 F1 s o r hi
    cases ds with
    | nil => cases r; exact ⟨F1, by simpa [L2.setN, yo1] using s⟩
    | cons d ds =>
      obtain ⟨v, us, f, g', rfl, h, hs, rfl⟩ := r.split
      obtain ⟨nd1, nd2, nd3⟩ := List.nodup_append.mp o.nd
      obtain ⟨F2, s2, hF⟩ := s.set' (i := i) (fv := f) ⟨fun a ha => o.nw a (List.mem_append_left _ ha), nd1, fun k a ha hf => o.dis k a ha (List.mem_append_left _ hf)⟩ R h (.inl (hi i List.mem_cons_self).1) (hi i List.mem_cons_self).2
      refine ih s2 ⟨fun a ha => o.nw a (List.mem_append_right _ ha), nd2, fun k a ha hg => ?_⟩ hs fun k hk => hi k (List.mem_cons_of_mem _ hk)
      rcases hF k a ha with z | z
      . exact nd3 a z a hg rfl
      . exact o.dis k a z (List.mem_append_right _ hg)
end
noncomputable def xq7 : D -> Option (List D)
  | .lst _ ds => some ds
  | .tup ds => some ds
  | _ => none
noncomputable def yo2 (is : List Nat) (f : PSt -> Option (D × PSt)) : PSt -> Option (Fl × PSt) := fun ps => (f ps).bind fun r => (xq7 r.1).bind fun ds => if ds.length = is.length then some (.nx, yo1 r.2 is ds) else none
section
variable {X : Cx} {κ : Str -> Addr} {φ : F0} {es : List Expr} {pos p : Pos} {k : Nat} {is : List Nat} {e : Expr} {f : PSt -> Option (D × PSt)}
theorem wv9 {t : TGs} {n : Nat} (hc : X.calm = true) (h : PGs X es t)
    (hn : (assignEach es X.env).length = n := by rfl) (hst : (assignEach es X.env).findIdx? (·.1) = none := by rfl) : PG X (.Tuple es k pos) (fun v σ H Q => wy6 X.K n t v σ H Q \/ wx8 X.K n t v σ H Q) := by
  intro pins s σ H v u Q I r hw
  rcases hw with hw | hw
  . exact wv6 hc h hn hst pins s σ H v u Q I r hw
  . exact wt4 hc h hn hst pins s σ H v u Q I r hw
theorem yq4 (hc : X.calm = true) (hg : PGs X es (xc1 is)) (he : QE X κ φ e f) (hb : ∀ i ∈ is, φ.bor i = false /\ φ.M i = false) (hn : (assignEach es X.env).length = is.length := by rfl) (hst : (assignEach es X.env).findIdx? (·.1) = none := by rfl)
    (hs : swapsWithSole [.Tuple es k p] e pos.line X.env = pure false := by rfl) (hw : swappedStores [.Tuple es k p] e X.env = pure none := by rfl)
    (h1 : (assignEach [.Tuple es k p] X.env).map (·.2) = [assign (.Tuple es k p) X.env] := by rfl) : QS X κ φ (.Assign [.Tuple es k p] e pos) (yo2 is f) :=
  (wa6 he (wv9 (n := is.length) hc hg hn hst) hs hw h1).imp fun E σ H hh_ => by
    obtain ⟨ps, F, fl, ps', R, e, q⟩ := hh_
    obtain ⟨⟨d, ps1⟩, e1, e2⟩ := bind_some e
    obtain ⟨ds, e3, e4⟩ := bind_some e2
    obtain ⟨hl, e5⟩ := zg9 e4
    cases e5
    refine ⟨ps, F, d, ps1, R, e1, fun v H' F' fv s o r => ?_⟩
    cases d with
    | lst ow xs =>
      cases e3
      obtain ⟨a, vs, g, rfl, h, hs, sub⟩ := r.lst_inv
      have ln := hs.length
      obtain ⟨F2, s2⟩ := Stp.setN R s ⟨fun a ha => o.nw a (sub.subset ha), o.nd.sublist sub, fun k a ha hg => o.dis k a ha (sub.subset hg)⟩ hs hb
      exact .inl ⟨a, vs, rfl, .inl h, by omega, yq3 (by omega) (q _ _ F2 s2)⟩
    | tup xs =>
      cases e3
      obtain ⟨a, vs, rfl, h, hs⟩ := r.tup_inv
      have ln := hs.length
      obtain ⟨F2, s2⟩ := Stp.setN R s ⟨fun a ha => absurd ha (by simp), List.nodup_nil, fun k a ha hg => absurd hg (by simp)⟩ hs hb
      exact .inr ⟨a, vs, rfl, h, by omega, yq3 (by omega) (q _ _ F2 s2)⟩
    | _ => cases e3
end
end L2
namespace L2
open PySem PySem.Spec PyProof.Rows
noncomputable def fxE (K : PySem.W.Frag) (κ : Str -> Addr) (np : Nat) (m : Nat -> Bool) : Fx := ⟨K, κ, fun i => decide (i < np) && !m i, m, fun _ _ => False⟩
noncomputable def f0E (np : Nat) (m : Nat -> Bool) : F0 := ⟨fun i => decide (i < np) && !m i, m, fun _ _ => False⟩
noncomputable def SpE (np : Nat) (K : PySem.W.Frag) (κ : Str -> Addr) (m : Nat -> Bool) (g : List D -> Option (D × List D)) : Sp := fun vs H Q _ => vs.length = np /\ ∃ ds r ds' F, ds.length = np /\ RS (fxE K κ np m) H (vs.map some) (ds.map some) F /\ g ds = some (r, ds') /\
  ∀ v H' F' fv, Stp (fxE K κ np m) (vs.map some) H F (vs.map some) H' (ds'.map some) F' -> OwnV F H F' fv -> Rep K κ H' v r fv -> Q v H'
noncomputable def zl9 (m : Nat -> Bool) (ps : PSt) : Nat -> List D -> Option (List D)
  | _, [] => some []
  | i, d :: ds => (if m i = true then (ps[i]?).join else some d).bind fun d' => (zl9 m ps (i + 1) ds).bind fun ds' => some (d' :: ds')
theorem xi2 {m : Nat -> Bool} {ps : PSt} : ∀ {ds ds' : List D} {i : Nat}, zl9 m ps i ds = some ds' -> ds'.length = ds.length /\ ∀ (k : Nat) (d' : D), ds'[k]? = some d' -> (m (i + k) = true -> ps[i + k]? = some (some d')) /\ (m (i + k) = false -> ds[k]? = some d')
  | [], _, _, e => by cases e; exact ⟨rfl, fun k d' h => by simp at h⟩
  | d :: ds, _, i, e => by
    obtain ⟨d1, e1, e2⟩ := bind_some e
    obtain ⟨ds1, e3, e4⟩ := bind_some e2
    cases e4
    obtain ⟨l, h⟩ := xi2 e3
    refine ⟨by simp [l], fun k d' hk => ?_⟩
    cases k with
    | zero =>
      simp at hk; subst hk
      refine ⟨fun z => ?_, fun z => ?_⟩
      . rw [Nat.add_zero] at z |-; rw [if_pos z] at e1; exact join_some e1
      . rw [Nat.add_zero] at z; rw [if_neg (by rw [z]; simp)] at e1; simpa using e1
    | succ k =>
      obtain ⟨h1, h2⟩ := h k d' (by simpa using hk)
      have ea : i + (k + 1) = i + 1 + k := by omega
      rw [ea]
      exact ⟨h1, fun z => by simpa using h2 z⟩
noncomputable def gE (np n : Nat) (m : Nat -> Bool) (f : PSt -> Option (Fl × PSt)) : List D -> Option (D × List D) := fun ds => if ds.length = np then (f (ds.map some ++ List.replicate n none)).bind fun r => match r with
  | (.ret d, ps) => (zl9 m ps 0 ds).bind fun ds' => some (d, ds')
  | (.nx, ps) => (zl9 m ps 0 ds).bind fun ds' => some (.non, ds')
  | _ => none
  else none
theorem RS.more {φ : Fx} {H : Hp} {σ σ2 : St} {ps : PSt} {F : Nat -> List Addr} {n : Nat} (R : RS φ H σ ps F) (hl : ps.length = σ.length) (h2 : n <= σ2.length) : RS φ H (σ ++ σ2) (ps ++ List.replicate n none) F := by
  refine ⟨fun i d h => ?_, fun i a h => ?_, R.dis, R.nd, R.nb, R.bt, by simp [hl]; omega⟩
  . by_cases hi : i < ps.length
    . rw [List.getElem?_append_left hi] at h
      rw [List.getElem?_append_left (by omega)]
      exact R.rep i d h
    . rw [List.getElem?_append_right (by omega), List.getElem?_replicate] at h
      split at h <;> cases h
  . obtain ⟨b, d, e⟩ := R.emp i a h
    have hi := (List.getElem?_eq_some_iff.mp e).1
    exact ⟨b, d, by rw [List.getElem?_append_left hi]; exact e⟩
theorem xn4 {K : PySem.W.Frag} {κ : Str -> Addr} {np n : Nat} {m : Nat -> Bool} {H H' : Hp} {vs : List V} {σ2 σ' : St} {ds ds' : List D} {ps' : PSt} {F F' : Nat -> List Addr} {fv : List Addr} (hm : ∀ i, m i = true -> i < np) (hl : vs.length = np) (hd : ds.length = np) (R : RS (fxE K κ np m) H (vs.map some) (ds.map some) F)
    (s : Stp (fxE K κ np m) (vs.map some ++ σ2) H F σ' H' ps' F') (o : OwnV F H F' fv) (e : zl9 m ps' 0 ds = some ds') :
    ∃ F2, Stp (fxE K κ np m) (vs.map some) H F (vs.map some) H' (ds'.map some) F2 /\ OwnV F H F2 fv := by
  obtain ⟨l, ho⟩ := xi2 e
  have sub : ∀ i a, a ∈ (if m i = true then F' i else []) -> m i = true /\ a ∈ F' i := fun i a h => by
    by_cases z : m i = true
    . rw [if_pos z] at h; exact ⟨z, h⟩
    . rw [if_neg z] at h; exact absurd h (by simp)
  have tfk : ∀ a u, H a = some u -> tf u = true -> H' a = some u := fun a u h t => s.fr.keep a u h (ya4 t) fun i hi => by
    obtain ⟨u', h', _, t'⟩ := R.own hi
    rw [h] at h'; cases h'; rw [t] at t'; cases t'
  have mb : ∀ i, m i = true -> (fxE K κ np m).bor i = false := fun i h => by simp [fxE, h]
  refine ⟨fun i => if m i = true then F' i else [], ⟨s.fr, fun i a h => s.nw i a (sub i a h).2, ⟨fun i d h => ?_, fun i a h => ?_, fun i j a h1 h2 => s.rs.dis i j a (sub i a h1).2 (sub j a h2).2, fun i => ?_, fun i a h => s.rs.nb i a (sub i a h).2, fun _ a h => h.elim, by simp [l, hl, hd]⟩, fun _ _ => rfl⟩, ⟨o.nw, o.nd, fun i a h => o.dis i a (sub i a h).2⟩⟩
  . rw [List.getElem?_map] at h
    cases q : ds'[i]? with
    | none => rw [q] at h; cases h
    | some d1 =>
      rw [q] at h; cases h
      obtain ⟨h1, h2⟩ := ho i d q
      rw [Nat.zero_add] at h1 h2
      by_cases z : m i = true
      . obtain ⟨v, fp, k1, k2, k3, _⟩ := s.rs.rep i d (h1 z)
        refine ⟨v, fp, ?_, k2, fun _ => by rw [if_pos z]; exact k3 (mb i z), fun w => by rw [mb i z] at w; cases w⟩
        rw [<- k1]
        have := s.msk i z
        rw [this, List.getElem?_append_left (by simp [hl]; exact hm i z)]
      . have zf : m i = false := by simpa using z
        have hi : (ds.map some)[i]? = some (some d) := by rw [List.getElem?_map, h2 zf]; rfl
        have hib : (fxE K κ np m).bor i = true := by
          have := (List.getElem?_eq_some_iff.mp (h2 zf)).1
          simp [fxE, zf]; omega
        obtain ⟨v, fp, k1, k2, _, k4⟩ := R.rep i d hi
        have efp : fp = [] := by
          cases fp with
          | nil => rfl
          | cons a r => exact (k4 hib a List.mem_cons_self).elim
        subst efp
        exact ⟨v, [], k1, k2.move tfk (fun a ha => absurd ha (by simp)), (fun w => by rw [hib] at w; cases w), (fun _ a ha => absurd ha (by simp))⟩
  . obtain ⟨z, h⟩ := sub i a h
    refine ⟨mb i z, ?_⟩
    have hi : i < ds'.length := by rw [l, hd]; exact hm i z
    exact ⟨ds'[i], by rw [List.getElem?_map, List.getElem?_eq_getElem hi]; rfl⟩
  . by_cases z : m i = true
    . rw [if_pos z]; exact s.rs.nd i
    . rw [if_neg z]; exact List.nodup_nil
section
variable {P : Program} {w : World} {K : PySem.W.Frag} {mg : Str -> Option Value} {base : Heap} {κ : Str -> Addr}
theorem ya0 {x qual : Str} {st : Stmt} {f : Addr} {fd : FuncData} {N ps : List Str} {k : Nat} {fb : PSt -> Option (Fl × PSt)} {m : Nat -> Bool} (F : Fun K x qual st f fd) (S : FnScope N ps (zb4 st)) (hm : ∀ i, m i = true -> i < ps.length)
    (hbody : ∀ (cdv : Value) (A : Around) (outer : List Env) (s : Shared) (H : Hp) (E : XK), Room k (A.deeper (envOfC qual (zb4 st) s.heap.objs.size f cdv)) ->
      QSs (yk5 CX0 P w K mg base N qual (zb4 st) f cdv A outer s H E).nox κ (f0E ps.length m) (ze7 st) fb) :
    FnOk P w K mg base CX0 (k + 1) f fd ps (SpE ps.length K κ m (gE ps.length (N.length - ps.length) m fb)) := by
  refine F.ok S (fun vs H Q E h => h.1) fun cdv A outer s H vs Q E hr ⟨hl, ds, r, ds', F0, hd, R, e, q⟩ => ⟨_, hbody cdv A outer s H E hr, ?_⟩
  have hn : ps.length <= N.length := by have := congrArg List.length S.pre; rw [List.length_take] at this; omega
  unfold gE at e
  obtain ⟨_, e0⟩ := zg9 e
  obtain ⟨⟨fl, ps'⟩, e1, e2⟩ := bind_some e0
  have R0 := R.more (σ2 := List.replicate (N.length - vs.length) none) (n := N.length - ps.length) (by simp [hl, hd]) (by simp [hl])
  refine ⟨_, F0, fl, ps', R0, e1, ?_⟩
  cases fl with
  | ret d' =>
    obtain ⟨ds1, e3, e4⟩ := bind_some e2
    cases e4
    exact fun v σ' H' F' fv s o rv => by
      obtain ⟨F2, s2, o2⟩ := xn4 (n := 0) hm hl hd R s o e3
      exact q v H' F2 fv s2 o2 rv
  | nx =>
    obtain ⟨ds1, e3, e4⟩ := bind_some e2
    cases e4
    exact fun σ' H' F' s => by
      obtain ⟨F2, s2, o2⟩ := xn4 (n := 0) (fv := []) hm hl hd R s ⟨fun _ h => absurd h (by simp), List.nodup_nil, fun _ _ _ h => absurd h (by simp)⟩ e3
      exact q .non H' F2 [] s2 o2 .non
  | bk => cases e2
  | ct => cases e2
end
set_option genInjectivity true in
inductive Arg where
  | io (j : Nat) | im (f : PSt -> Option D)
noncomputable def zc7 : List Arg -> PSt -> Option (List D)
  | [], _ => some []
  | .io j :: as, ps => ((ps[j]?).join).bind fun d => (zc7 as ps).bind fun ds => some (d :: ds)
  | .im f :: as, ps => (zc0 f ps).bind fun d => (zc7 as ps).bind fun ds => some (d :: ds)
noncomputable def zx8 : List Arg -> Nat -> Bool
  | .io _ :: _, 0 => true
  | _ :: as, i + 1 => zx8 as i
  | _, _ => false
noncomputable def slots : List Arg -> List Nat
  | [] => []
  | .io j :: as => j :: slots as
  | .im _ :: as => slots as
noncomputable def zi7 : PSt -> List Arg -> List D -> PSt
  | ps, .io j :: as, d :: ds => zi7 (ps.set j (some d)) as ds
  | ps, .im _ :: as, _ :: ds => zi7 ps as ds
  | ps, _, _ => ps
inductive ArgsAt (K : PySem.W.Frag) (κ : Str -> Addr) (H : Hp) (σ : St) (ps : PSt) : List Arg -> List V -> List D -> Prop
  | nil : ArgsAt K κ H σ ps [] [] []
  | io {j : Nat} {as : List Arg} {v : V} {vs : List V} {d : D} {ds : List D} : σ[j]? = some (some v) -> ps[j]? = some (some d) -> ArgsAt K κ H σ ps as vs ds -> ArgsAt K κ H σ ps (.io j :: as) (v :: vs) (d :: ds)
  | im {f : PSt -> Option D} {as : List Arg} {v : V} {vs : List V} {d : D} {ds : List D} : Rep K κ H v d [] -> ArgsAt K κ H σ ps as vs ds -> ArgsAt K κ H σ ps (.im f :: as) (v :: vs) (d :: ds)
theorem ArgsAt.len {K : PySem.W.Frag} {κ : Str -> Addr} {H : Hp} {σ : St} {ps : PSt} : ∀ {as : List Arg} {vs : List V} {ds : List D}, ArgsAt K κ H σ ps as vs ds -> vs.length = as.length /\ ds.length = as.length
  | _, _, _, .nil => ⟨rfl, rfl⟩
  | _, _, _, .io _ _ h => by have := h.len; simp [this]
  | _, _, _, .im _ h => by have := h.len; simp [this]
theorem ArgsAt.get {K : PySem.W.Frag} {κ : Str -> Addr} {H : Hp} {σ : St} {ps : PSt} : ∀ {as : List Arg} {vs : List V} {ds : List D} {i : Nat} {d : D}, ArgsAt K κ H σ ps as vs ds -> ds[i]? = some d -> ∃ v, vs[i]? = some v /\ ((∃ j, as[i]? = some (.io j) /\ zx8 as i = true /\ σ[j]? = some (some v) /\ ps[j]? = some (some d)) \/ (zx8 as i = false /\ Rep K κ H v d []))
  | _, _, _, _, _, .nil, e => by simp at e
  | _, _, _, 0, _, .io h1 h2 _, e => by simp at e; subst e; exact ⟨_, rfl, .inl ⟨_, rfl, rfl, h1, h2⟩⟩
  | _, _, _, 0, _, .im r _, e => by simp at e; subst e; exact ⟨_, rfl, .inr ⟨rfl, r⟩⟩
  | _, _, _, i + 1, _, .io _ _ h, e => by
    obtain ⟨v, h1, h2⟩ := ArgsAt.get (i := i) h (by simpa using e)
    exact ⟨v, by simpa using h1, by simpa [zx8] using h2⟩
  | _, _, _, i + 1, _, .im _ h, e => by
    obtain ⟨v, h1, h2⟩ := ArgsAt.get (i := i) h (by simpa using e)
    exact ⟨v, by simpa using h1, by simpa [zx8] using h2⟩
theorem xe9 : ∀ {as : List Arg} {i : Nat}, zx8 as i = true -> ∃ j, as[i]? = some (.io j)
  | .io j :: _, 0, _ => ⟨j, rfl⟩
  | .im _ :: _, 0, h => by cases h
  | .io _ :: as, i + 1, h => by obtain ⟨j, e⟩ := xe9 (as := as) (i := i) h; exact ⟨j, by simpa using e⟩
  | .im _ :: as, i + 1, h => by obtain ⟨j, e⟩ := xe9 (as := as) (i := i) h; exact ⟨j, by simpa using e⟩
  | [], _, h => by cases h
theorem yd3 : ∀ {as : List Arg} {i j : Nat}, as[i]? = some (.io j) -> zx8 as i = true
  | .io _ :: _, 0, _, _ => rfl
  | .im _ :: _, 0, _, h => by simp at h
  | .io _ :: as, i + 1, j, h => yd3 (as := as) (i := i) (j := j) (by simpa using h)
  | .im _ :: as, i + 1, j, h => yd3 (as := as) (i := i) (j := j) (by simpa using h)
  | [], _, _, h => by simp at h
theorem zs9 : ∀ {as : List Arg} {i j : Nat}, as[i]? = some (.io j) -> j ∈ slots as
  | .io _ :: _, 0, _, h => by simp at h; subst h; exact List.mem_cons_self
  | .im _ :: _, 0, _, h => by simp at h
  | .io _ :: as, i + 1, j, h => List.mem_cons_of_mem _ (zs9 (as := as) (i := i) (by simpa using h))
  | .im _ :: as, i + 1, j, h => zs9 (as := as) (i := i) (by simpa using h)
  | [], _, _, h => by simp at h
theorem yq5 : ∀ {as : List Arg} {i k j : Nat}, (slots as).Nodup -> as[i]? = some (.io j) -> as[k]? = some (.io j) -> i = k
  | [], _, _, _, _, h, _ => by simp at h
  | a :: as, 0, 0, _, _, _, _ => rfl
  | .io j' :: as, 0, k + 1, j, nd, h1, h2 => by
    simp at h1; subst h1
    exact absurd (zs9 (as := as) (i := k) (by simpa using h2)) (List.nodup_cons.mp nd).1
  | .im _ :: as, 0, k + 1, j, _, h1, _ => by simp at h1
  | .io j' :: as, i + 1, 0, j, nd, h1, h2 => by
    simp at h2; subst h2
    exact absurd (zs9 (as := as) (i := i) (by simpa using h1)) (List.nodup_cons.mp nd).1
  | .im _ :: as, i + 1, 0, j, _, _, h2 => by simp at h2
  | .io j' :: as, i + 1, k + 1, j, nd, h1, h2 => by rw [yq5 (as := as) (i := i) (k := k) (j := j) (List.nodup_cons.mp nd).2 (by simpa using h1) (by simpa using h2)]
  | .im _ :: as, i + 1, k + 1, j, nd, h1, h2 => by rw [yq5 (as := as) (i := i) (k := k) (j := j) nd (by simpa using h1) (by simpa using h2)]
noncomputable def zn4 : List Arg -> Nat -> Option Nat
  | [], _ => none
  | .io i :: as, j => if i = j then some 0 else (zn4 as j).map (· + 1)
  | .im _ :: as, j => (zn4 as j).map (· + 1)
theorem zy8 : ∀ {as : List Arg} {j i : Nat}, zn4 as j = some i -> as[i]? = some (.io j)
  | [], _, _, h => by cases h
  | .io k :: as, j, i, h => by
    rw [zn4] at h
    by_cases z : k = j
    . rw [if_pos z] at h; cases h; rw [z]; rfl
    . rw [if_neg z] at h
      cases q : zn4 as j with
      | none => rw [q] at h; cases h
      | some n => rw [q] at h; cases h; simpa using zy8 q
  | .im _ :: as, j, i, h => by
    rw [zn4] at h
    cases q : zn4 as j with
    | none => rw [q] at h; cases h
    | some n => rw [q] at h; cases h; simpa using zy8 q
theorem zv4 : ∀ {as : List Arg} {j : Nat}, zn4 as j = none -> j ∉ slots as
  | [], _, _ => by simp [slots]
  | .io k :: as, j, h => by
    rw [zn4] at h
    by_cases z : k = j
    . rw [if_pos z] at h; cases h
    . rw [if_neg z] at h
      have h' : zn4 as j = none := by
        cases q : zn4 as j with
        | none => rfl
        | some n => rw [q] at h; cases h
      exact fun hm => (List.mem_cons.mp hm).elim (fun e => z e.symm) (zv4 h')
  | .im _ :: as, j, h => by
    rw [zn4] at h
    have h' : zn4 as j = none := by
      cases q : zn4 as j with
      | none => rfl
      | some n => rw [q] at h; cases h
    exact fun hm => zv4 (as := as) h' hm
theorem ym8 : ∀ {as : List Arg} {ds : List D} {ps : PSt}, (zi7 ps as ds).length = ps.length
  | [], _, _ => by simp [zi7]
  | .io j :: as, [], _ => by simp [zi7]
  | .im _ :: as, [], _ => by simp [zi7]
  | .io j :: as, d :: ds, ps => by rw [zi7, ym8 (as := as)]; simp
  | .im _ :: as, d :: ds, ps => by rw [zi7, ym8 (as := as)]
theorem yb9 : ∀ {as : List Arg} {ds : List D} {ps : PSt} {j : Nat}, j ∉ slots as -> (zi7 ps as ds)[j]? = ps[j]?
  | [], _, _, _, _ => by simp [zi7]
  | .io _ :: _, [], _, _, _ => by simp [zi7]
  | .im _ :: _, [], _, _, _ => by simp [zi7]
  | .io k :: as, d :: ds, ps, j, h => by
    rw [zi7, yb9 (as := as) (fun z => h (List.mem_cons_of_mem _ z)), List.getElem?_set_ne (fun z => h (by rw [<- z]; exact List.mem_cons_self))]
  | .im _ :: as, d :: ds, ps, j, h => by rw [zi7]; exact yb9 (as := as) h
theorem yt1 : ∀ {as : List Arg} {ds : List D} {ps : PSt} {i j : Nat} {d : D}, (slots as).Nodup -> as[i]? = some (.io j) -> ds[i]? = some d -> j < ps.length -> (zi7 ps as ds)[j]? = some (some d)
  | [], _, _, _, _, _, _, h, _, _ => by simp at h
  | _ :: _, [], _, _, _, _, _, _, h, _ => by simp at h
  | .io k :: as, d1 :: ds, ps, 0, j, d, nd, h1, h2, h3 => by
    simp at h1 h2; subst h1; subst h2
    rw [zi7, yb9 (List.nodup_cons.mp nd).1, List.getElem?_set_self h3]
  | .im _ :: as, d1 :: ds, ps, 0, j, d, _, h1, _, _ => by simp at h1
  | .io k :: as, d1 :: ds, ps, i + 1, j, d, nd, h1, h2, h3 => by
    rw [zi7]; exact yt1 (List.nodup_cons.mp nd).2 (by simpa using h1) (by simpa using h2) (by simpa using h3)
  | .im _ :: as, d1 :: ds, ps, i + 1, j, d, nd, h1, h2, h3 => by
    rw [zi7]; exact yt1 (as := as) nd (by simpa using h1) (by simpa using h2) h3
noncomputable def ye3 (as : List Arg) (F : Nat -> List Addr) : Nat -> List Addr := fun i => match as[i]? with
  | some (.io j) => F j
  | _ => []
theorem xt9 {as : List Arg} {F : Nat -> List Addr} {i j : Nat} (e : as[i]? = some (.io j)) : ye3 as F i = F j := by unfold ye3; rw [e]
theorem xn5 {as : List Arg} {F : Nat -> List Addr} {i : Nat} {b : Addr} (h : b ∈ ye3 as F i) : ∃ j, as[i]? = some (.io j) /\ b ∈ F j := by
  unfold ye3 at h
  cases q : as[i]? with
  | none => rw [q] at h; exact absurd h (by simp)
  | some x =>
    cases x with
    | io j => rw [q] at h; exact ⟨j, rfl, h⟩
    | im _ => rw [q] at h; exact absurd h (by simp)
theorem xf0 {as : List Arg} {F : Nat -> List Addr} {i : Nat} (e : zx8 as i = false) : ye3 as F i = [] := by
  unfold ye3
  cases q : as[i]? with
  | none => rfl
  | some x => cases x with
    | io j => rw [yd3 q] at e; cases e
    | im _ => rfl
theorem wj4 {φ : Fx} {H : Hp} {σ : St} {ps : PSt} {F : Nat -> List Addr} {as : List Arg} {vs : List V} {ds : List D} (R : RS φ H σ ps F) (nd : (slots as).Nodup) (hb : ∀ j ∈ slots as, φ.bor j = false) (a : ArgsAt φ.K φ.κ H σ ps as vs ds) :
    RS (fxE φ.K φ.κ as.length (zx8 as)) H (vs.map some) (ds.map some) (ye3 as F) := by
  obtain ⟨lv, ld⟩ := a.len
  have memF : ∀ i b, b ∈ ye3 as F i -> ∃ j, as[i]? = some (Arg.io j) /\ b ∈ F j := fun i b h => xn5 h
  refine ⟨fun i d h => ?_, fun i b h => ?_, fun i k b h1 h2 => ?_, fun i => ?_, fun i b h k z => z.elim, fun k b z => z.elim, by simp [lv, ld]⟩
  . rw [List.getElem?_map] at h
    cases q : ds[i]? with
    | none => rw [q] at h; cases h
    | some d1 =>
      rw [q] at h; cases h
      obtain ⟨v, h1, h2⟩ := a.get q
      have hi := (List.getElem?_eq_some_iff.mp q).1
      refine ⟨v, ye3 as F i, by rw [List.getElem?_map, h1]; rfl, ?_, fun _ => rfl, fun z => ?_⟩
      . rcases h2 with ⟨j, e1, e2, e3, e4⟩ | ⟨e1, r⟩
        . obtain ⟨v', fp, k1, k2, k3, _⟩ := R.rep j d e4
          rw [e3] at k1; cases k1
          rw [xt9 e1]
          have := k3 (hb j (zs9 e1))
          subst this
          exact k2
        . rw [xf0 e1]; exact r
      . rcases h2 with ⟨j, e1, e2, _⟩ | ⟨e1, r⟩
        . simp [fxE, e2] at z
        . rw [xf0 e1]; intro b hb; exact absurd hb (by simp)
  . obtain ⟨j, e, hj⟩ := memF i b h
    have hi : i < ds.length := by rw [ld]; exact (List.getElem?_eq_some_iff.mp e).1
    exact ⟨by simp [fxE, yd3 e], ds[i], by rw [List.getElem?_map, List.getElem?_eq_getElem hi]; rfl⟩
  . obtain ⟨j1, e1, m1⟩ := memF i b h1
    obtain ⟨j2, e2, m2⟩ := memF k b h2
    have := R.dis j1 j2 b m1 m2
    subst this
    exact yq5 nd e1 e2
  . cases z : zx8 as i with
    | true => obtain ⟨j, e⟩ := xe9 z; rw [xt9 e]; exact R.nd j
    | false => rw [xf0 z]; exact List.nodup_nil
noncomputable def yj6 (as : List Arg) (F Fc : Nat -> List Addr) : Nat -> List Addr := fun j => match zn4 as j with
  | some i => Fc i
  | none => F j
theorem wd4 {as : List Arg} {F Fc : Nat -> List Addr} {j : Nat} {b : Addr} (h : b ∈ yj6 as F Fc j) : (∃ i, zn4 as j = some i /\ b ∈ Fc i) \/ (zn4 as j = none /\ b ∈ F j) := by
  unfold yj6 at h
  cases q : zn4 as j with
  | none => rw [q] at h; exact .inr ⟨rfl, h⟩
  | some i => rw [q] at h; exact .inl ⟨i, rfl, h⟩
theorem yz6 {as : List Arg} {F Fc : Nat -> List Addr} {j i : Nat} (e : zn4 as j = some i) : yj6 as F Fc j = Fc i := by unfold yj6; rw [e]
theorem yz7 {as : List Arg} {F Fc : Nat -> List Addr} {j : Nat} (e : zn4 as j = none) : yj6 as F Fc j = F j := by unfold yj6; rw [e]
theorem wq1 {φ : Fx} {H H1 H' : Hp} {σ : St} {ps : PSt} {F Fc' : Nat -> List Addr} {as : List Arg} {vs : List V} {ds ds' : List D} {fv : List Addr} (R : RS φ H σ ps F) (s1 : SameK H H1) (nd : (slots as).Nodup) (hb : ∀ j ∈ slots as, φ.bor j = false) (a : ArgsAt φ.K φ.κ H1 σ ps as vs ds) (hl : ds'.length = as.length)
    (s : Stp (fxE φ.K φ.κ as.length (zx8 as)) (vs.map some) H1 (ye3 as F) (vs.map some) H' (ds'.map some) Fc') (o : OwnV (ye3 as F) H1 Fc' fv) :
    ∃ F', Stp φ σ H F σ H' (zi7 ps as ds') F' /\ OwnV F H F' fv := by
  have memF : ∀ i b, b ∈ ye3 as F i -> ∃ j, as[i]? = some (Arg.io j) /\ b ∈ F j := fun i b h => xn5 h
  have nwA : ∀ b, ((∃ i, b ∈ ye3 as F i) \/ H1 b = none) -> (∃ j ∈ slots as, b ∈ F j) \/ H b = none := fun b h => by
    rcases h with ⟨i, h⟩ | h
    . obtain ⟨j, e, m⟩ := memF i b h
      exact .inl ⟨j, zs9 e, m⟩
    . exact .inr (s1.grow b h)
  have isDisj : ∀ b, ((∃ i, b ∈ Fc' i) \/ b ∈ fv) -> ∀ j, j ∉ slots as -> b ∉ F j := fun b h j hj hm => by
    have h' : (∃ j ∈ slots as, b ∈ F j) \/ H b = none := by
      rcases h with ⟨i, h⟩ | h
      . exact nwA b (s.nw i b h)
      . exact nwA b (o.nw b h)
    rcases h' with ⟨k, hk, hm2⟩ | z
    . exact hj (R.dis j k b hm hm2 ▸ hk)
    . obtain ⟨u, q, _⟩ := R.own hm; rw [z] at q; cases q
  have keepN : ∀ b u, H b = some u -> kd u = true -> (∀ j ∈ slots as, b ∉ F j) -> H' b = some u := fun b u h k n => s.fr.keep b u (s1.keep b u h k) k fun i hi => by
    obtain ⟨j, e, m⟩ := memF i b hi
    exact n j (zs9 e) m
  have tfk : ∀ b u, H b = some u -> tf u = true -> H' b = some u := fun b u h t => keepN b u h (ya4 t) fun j _ hm => by
    obtain ⟨u', h', _, t'⟩ := R.own hm
    rw [h] at h'; cases h'; rw [t] at t'; cases t'
  have posmem : ∀ j b, b ∈ yj6 as F Fc' j -> (∃ i, zn4 as j = some i /\ b ∈ Fc' i) \/ (zn4 as j = none /\ b ∈ F j) := fun j b h => wd4 h
  refine ⟨yj6 as F Fc', ⟨⟨fun b u h k n => keepN b u h k fun j _ => n j, fun b h => s1.grow b (s.fr.grow b h)⟩, fun j b h => ?_, ⟨fun j d h => ?_, fun j b h => ?_, fun j k b h1 h2 => ?_, fun j => ?_, fun j b h => ?_, fun kk b hB z => R.bt kk b hB (s1.grow b (s.fr.grow b z)), by rw [ym8]; exact R.len⟩, fun _ _ => rfl⟩, ⟨fun b hb' => ?_, o.nd, fun j b h hv => ?_⟩⟩
  . rcases posmem j b h with ⟨i, e, m⟩ | ⟨e, m⟩
    . exact (nwA b (s.nw i b m)).elim (fun ⟨k, _, hk⟩ => .inl ⟨k, hk⟩) .inr
    . exact .inl ⟨j, m⟩
  . cases q : zn4 as j with
    | some i =>
      have e := zy8 q
      have hi : i < ds'.length := by rw [hl]; exact (List.getElem?_eq_some_iff.mp e).1
      have ei : ds'[i]? = some ds'[i] := List.getElem?_eq_getElem hi
      have hj : j < ps.length := by
        have := (List.getElem?_eq_some_iff.mp h).1
        rwa [ym8] at this
      rw [yt1 nd e ei hj] at h
      cases h
      obtain ⟨v, fp, k1, k2, k3, _⟩ := s.rs.rep i ds'[i] (by rw [List.getElem?_map, ei]; rfl)
      have hbi : (fxE φ.K φ.κ as.length (zx8 as)).bor i = false := by simp [fxE, yd3 e]
      have k3 := k3 hbi
      subst k3
      have hvi : i < vs.length := by rw [a.len.1]; exact (List.getElem?_eq_some_iff.mp e).1
      have hdi : i < ds.length := by rw [a.len.2]; exact (List.getElem?_eq_some_iff.mp e).1
      obtain ⟨v', g1, g2⟩ := a.get (List.getElem?_eq_getElem hdi)
      rw [List.getElem?_map, g1] at k1
      cases k1
      rcases g2 with ⟨j', e1, _, e3, _⟩ | ⟨e1, _⟩
      . rw [e] at e1; cases e1
        exact ⟨v, Fc' i, e3, k2, (fun _ => (yz6 q).symm), (fun z => by rw [hb j (zs9 e)] at z; cases z)⟩
      . rw [yd3 e] at e1; cases e1
    | none =>
      have hn := zv4 q
      rw [yb9 hn] at h
      obtain ⟨v, fp, k1, k2, k3, k4⟩ := R.rep j d h
      refine ⟨v, fp, k1, k2.move tfk fun b hb' => ?_, (fun z => by rw [yz7 q]; exact k3 z), k4⟩
      obtain ⟨u, q1, q2, _⟩ := k2.own b hb'
      rw [q1]
      refine keepN b u q1 q2 fun k hk hm => ?_
      cases z : φ.bor j with
      | true => exact R.nb k b hm j (k4 z b hb')
      | false => rw [k3 z] at hb'; exact hn (R.dis j k b hb' hm ▸ hk)
  . rcases posmem j b h with ⟨i, e, m⟩ | ⟨e, m⟩
    . have e' := zy8 e
      refine ⟨hb j (zs9 e'), ?_⟩
      have hi : i < ds'.length := by rw [hl]; exact (List.getElem?_eq_some_iff.mp e').1
      have hdi : i < ds.length := by rw [a.len.2]; exact (List.getElem?_eq_some_iff.mp e').1
      obtain ⟨v', g1, g2⟩ := a.get (List.getElem?_eq_getElem hdi)
      rcases g2 with ⟨j', e1, _, _, e4⟩ | ⟨e1, _⟩
      . rw [e'] at e1; cases e1
        exact ⟨_, yt1 nd e' (List.getElem?_eq_getElem hi) (List.getElem?_eq_some_iff.mp e4).1⟩
      . rw [yd3 e'] at e1; cases e1
    . obtain ⟨b1, d, b2⟩ := R.emp j b m
      exact ⟨b1, d, by rw [yb9 (zv4 e)]; exact b2⟩
  . rcases posmem j b h1 with ⟨i, e, m⟩ | ⟨e, m⟩
    . rcases posmem k b h2 with ⟨i', e', m'⟩ | ⟨e', m'⟩
      . have := s.rs.dis i i' b m m'
        subst this
        have q1 := zy8 e
        have q2 := zy8 e'
        rw [q1] at q2
        cases q2; rfl
      . exact absurd m' (isDisj b (.inl ⟨i, m⟩) k (zv4 e'))
    . rcases posmem k b h2 with ⟨i', e', m'⟩ | ⟨e', m'⟩
      . exact absurd m (isDisj b (.inl ⟨i', m'⟩) j (zv4 e))
      . exact R.dis j k b m m'
  . cases q : zn4 as j with
    | some i => rw [yz6 q]; exact s.rs.nd i
    | none => rw [yz7 q]; exact R.nd j
  . rcases posmem j b h with ⟨i, e, m⟩ | ⟨e, m⟩
    . exact R.notB ((nwA b (s.nw i b m)).elim (fun ⟨k, _, hk⟩ => .inl ⟨k, hk⟩) .inr)
    . exact R.nb j b m
  . exact (nwA b (o.nw b hb')).elim (fun ⟨k, _, hk⟩ => .inl ⟨k, hk⟩) .inr
  . rcases posmem j b h with ⟨i, e, m⟩ | ⟨e, m⟩
    . exact o.dis i b m hv
    . exact isDisj b (.inr hv) j (zv4 e) m
noncomputable def tIO (K : PySem.W.Frag) (κ : Str -> Addr) (as : List Arg) : TA := fun σ H Q => ∃ ps ds, WS K κ H σ ps /\ zc7 as ps = some ds /\ ∀ vs H', SameK H H' -> ArgsAt K κ H' σ ps as vs ds -> Q vs H'
noncomputable def fIO (as : List Arg) (g : List D -> Option (D × List D)) : PSt -> Option (D × PSt) := fun ps => (zc7 as ps).bind fun ds => (g ds).bind fun r => if r.2.length = as.length then some (r.1, zi7 ps as r.2) else none
section
variable {X : Cx} {φ : F0} {κ : Str -> Addr} {e : Expr} {es : List Expr} {as : List Arg} {f : PSt -> Option D} {pos p : Pos}
theorem zj6 : PA X [] (tIO X.K κ []) := yb5.imp fun σ H Q ⟨ps, ds, w, e, q⟩ => by cases e; exact q [] H (.refl H) .nil
theorem zt0 (j : Nat) {x : Str} (hr : PA X es (tIO X.K κ as)) (hN : X.N[j]? = some x := by rfl) (hv : Vis X.env.scope x := by first | exact Or.inl rfl | exact Or.inr (Or.inl rfl) | exact Or.inr (Or.inr rfl)) (hd : (x == ("__debug__" : Str)) = false := by decide)
    (hcd : (x == ("__classdict__" : Str)) = false := by decide) (hs : starEach (.Name x pos :: es) X.env = (false, eval (.Name x pos) X.env) :: starEach es X.env := by rfl) : PA X (.Name x pos :: es) (tIO X.K κ (.io j :: as)) :=
  (zo1 (yk9 hN hv hd hcd) hr hs).imp fun σ H Q hh_ => by
    obtain ⟨ps, ds, w, e, q⟩ := hh_
    obtain ⟨d, e1, e2⟩ := bind_some e
    obtain ⟨ds', e3, e4⟩ := bind_some e2
    cases e4
    have e0 := join_some e1
    obtain ⟨v, fp, h1, h2⟩ := w j d e0
    exact ⟨v, h1, ps, ds', w, e3, fun vs H1 s1 a1 => q (v :: vs) H1 s1 (.io h1 e0 a1)⟩
theorem zf0 (ha : QV X κ e f) (hr : PA X es (tIO X.K κ as)) (hs : starEach (e :: es) X.env = (false, eval e X.env) :: starEach es X.env := by rfl) : PA X (e :: es) (tIO X.K κ (.im f :: as)) :=
  (zo1 ha.p hr hs).imp fun σ H Q hh_ => by
    obtain ⟨ps, ds, w, e, q⟩ := hh_
    obtain ⟨d, e1, e2⟩ := bind_some e
    obtain ⟨ds', e3, e4⟩ := bind_some e2
    cases e4
    refine ⟨ps, d, w, e1, fun v H1 fv s1 n1 nd1 r1 => ⟨ps, ds', w.same s1, e3, fun vs H2 s2 a2 => q (v :: vs) H2 (s1.trans s2) (.im ?_ a2)⟩⟩
    unfold zc0 at e1
    obtain ⟨d1, k1, k2⟩ := bind_some e1
    obtain ⟨k3, k4⟩ := zg9 k2
    cases k4
    have := r1.imm k3
    subst this
    exact r1.same s2
theorem zw7 {x : Str} {st : Stmt} {ps : List Str} {fa : Addr} {fd : FuncData} {k np : Nat} {m : Nat -> Bool} {g : List D -> Option (D × List D)} (Dd : Dn X.K X.mg x st ps fa fd) (G : FnOk X.prog X.w X.K X.mg X.base CX0 k fa fd ps (SpE np X.K κ m g)) (hr : Room k X.A) (hg : Gl X x) (ha : PA X (e :: es) (tIO X.K κ as))
    (hnp : np = as.length) (hm : m = zx8 as) (nd : (slots as).Nodup) (hb : ∀ j ∈ slots as, φ.bor j = false)
    (hdb : (x == ("__debug__" : Str)) = false := by decide) (he : starEach (e :: es) X.env = (false, eval e X.env) :: starEach es X.env := by rfl) (hpl : (backTo pos (starEach es X.env)).any (·.1) = false := by rfl) :
    QE X κ φ (.Call (.Name x p) (e :: es) [] pos) (fIO as g) := (xw9 Dd G hr hg ha hdb he hpl).imp fun σ H Q hh_ => by
  obtain ⟨ps, F, d, ps', R, e, q⟩ := hh_
  obtain ⟨ds, e1, e2⟩ := bind_some e
  obtain ⟨⟨r, ds'⟩, e3, e4⟩ := bind_some e2
  obtain ⟨hl, e5⟩ := zg9 e4
  cases e5
  subst hnp hm
  refine ⟨ps, ds, R.ws, e1, fun vs H1 s1 a1 => ?_⟩
  show SpE _ X.K κ _ g (vs ++ []) H1 Q E0
  rw [List.append_nil]
  refine ⟨a1.len.1, ds, r, ds', _, a1.len.2, wj4 (R.same s1) nd hb a1, e3, fun v H' F' fv s o rv => ?_⟩
  obtain ⟨F2, s2, o2⟩ := wq1 R s1 nd hb a1 hl s o
  exact q v H' F2 fv s2 o2 rv
end
end L2
namespace L2
open PySem PySem.Spec PyProof.Rows
inductive AreD : List Expr -> List D -> Prop
  | nil : AreD [] []
  | int {i : Int} {j : Nat} {pos : Pos} {es : List Expr} {ds : List D} : AreD es ds -> AreD (.Constant (.int i) j pos :: es) (.int i :: ds)
  | str {x : Str} {j : Nat} {pos : Pos} {es : List Expr} {ds : List D} : AreD es ds -> AreD (.Constant (.str x) j pos :: es) (.str x :: ds)
noncomputable def fKs (ds : List D) : PSt -> Option (List D) := fun _ => some ds
theorem zy9 {X : Cx} {κ : Str -> Addr} {es : List Expr} {ds : List D} (h : AreD es ds) : QPA X κ es (fKs ds) := by
  have key : ∃ vs, AreC es vs /\ ∀ K κ H, Reps K κ H vs ds [] := by
    induction h with
    | nil => exact ⟨[], .nil, fun _ _ _ => .nil⟩
    | int _ ih => obtain ⟨vs, h1, h2⟩ := ih; exact ⟨_, .int h1, fun K κ H => .cons (f := []) (g := []) (.int _) (h2 K κ H)⟩
    | str _ ih => obtain ⟨vs, h1, h2⟩ := ih; exact ⟨_, .str h1, fun K κ H => .cons (f := []) (g := []) (.str _) (h2 K κ H)⟩
  obtain ⟨vs, h1, h2⟩ := key
  exact (wc7 h1).imp fun σ H Q ⟨ps, ds', w, e, q⟩ => by cases e; exact q vs H [] (.refl H) (fun _ h => absurd h (by simp)) List.nodup_nil (h2 _ _ _)
noncomputable def zd3 (l : List Bool) : Nat -> Bool := fun i => (l[i]?).getD false
noncomputable def wh2 (as : List Arg) : List Bool := as.map fun a => match a with
  | .io _ => true
  | .im _ => false
theorem zm8 : ∀ {as : List Arg} {l : List Bool}, wh2 as = l -> zd3 l = zx8 as := by
  intro as l h
  subst h
  funext i
  induction as generalizing i with
  | nil => cases i <;> rfl
  | cons a as ih =>
    cases i with
    | zero => cases a <;> rfl
    | succ i =>
      have e : zx8 (a :: as) (i + 1) = zx8 as i := by cases a <;> rfl
      rw [e, <- ih i]
      simp [zd3, wh2]
theorem zt5 {l : List Bool} {i : Nat} (h : zd3 l i = true) : i < l.length := by
  unfold zd3 at h
  cases q : l[i]? with
  | none => rw [q] at h; cases h
  | some b => exact (List.getElem?_eq_some_iff.mp q).1
section
variable {P : Program} {w : World} {K : PySem.W.Frag} {mg : Str -> Option Value} {base : Heap} {κ : Str -> Addr}
theorem FnOk.noneE {f : Addr} {fd : FuncData} {ps : List Str} {k : Nat} {m : Nat -> Bool} : FnOk P w K mg base CX0 k f fd ps (SpE ps.length K κ m fun _ => none) :=
  ⟨fun vs H Q E h => h.1, fun A outer s H args us vs Q E _ _ _ _ ⟨_, ds, r, ds', F, _, _, e, _⟩ => by cases e⟩
end
end L2
namespace L2
open PySem PySem.Spec PyProof.Rows
theorem yz8 : ∀ ys : List (Str × Tok), ze5 (ys.map fun p => V.str p.1) (ys.map fun p => Value.str p.1 p.2)
  | [] => .nil
  | y :: ys => .cons ⟨y.2, rfl⟩ (yz8 ys)
theorem xi3 {K : PySem.W.Frag} {κ : Str -> Addr} {H : Hp} : ∀ ys : List (Str × Tok), Reps K κ H (ys.map fun p => V.str p.1) (ys.map fun p => D.str p.1) []
  | [] => .nil
  | y :: ys => .cons (f := []) (g := []) (.str _) (xi3 ys)
theorem wj5 {K : PySem.W.Frag} {κ : Str -> Addr} {a : Addr} {ys : List (Str × Tok)} {od : Option Addr} {n : Nat} {sl : Array (Option Value)} (h : K.lookup a = some ⟨.type "tuple", od, .seq (ys.map fun p => Value.str p.1 p.2).toArray n, sl⟩) (hl : ys.length <= 1000) (H : Hp) :
    Rep K κ H (.ref a) (.tup (ys.map fun p => D.str p.1)) [] :=
  .tup (.inr ⟨_, _, n, h, rfl, rfl, by rw [List.size_toArray, List.length_map]; exact xk2 hl, yz8 ys⟩) (xi3 ys)
end L2
namespace L2
open PySem PySem.Spec PyProof.Rows
section
variable {X : Cx} {pins : List (Addr × Obj)} {σ : St} {H : Hp} {s : Shared} {a C dx : Addr} {fs : List (Str × V)} {f : Str} {v : V} {A : Around} {E : Value -> Shared -> Prop}
theorem ww0 {P : Program} {w : World} {h : Heap} (hok : HOk P w H h) (e : Rd H a (.ins C dx fs)) : ∃ mA, ObjM h a dx C mA /\ (∀ f, yf8 (fs.lookup f) (mA f)) := by
  obtain ⟨d, z, ne, ob, mA, n, r, q⟩ := (show zs5 P w H h a (.ins C dx fs) from e.ok hok)
  exact ⟨mA, ⟨ob, n, ne⟩, r⟩
theorem xx7 {b : Bool} {Q : Value -> Shared -> Prop} (I : Inv X pins σ H s) (e : Rd H a (.ins C dx fs)) (c : Cls X.K C) (n : zh0 X.K C f) (l : fs.lookup f = some v)
    (h : ∀ u s', Inv X pins σ H s' -> zh6 v u -> Q u s') : wpAny (model X.prog X.w) A (getAttr (.ref a) f b) Q E s := by
  obtain ⟨mA, O, r⟩ := ww0 I.hok e
  obtain ⟨u, hu, ru⟩ := yf8.some_of (v := v) (o := mA f) (by rw [<- l]; exact r f)
  exact xt1 I.kIn O (c.get f) c.hd n hu (xh0 ru) (h u _ (I.tok _) ru)
end
noncomputable def kc0 (K : PySem.W.Frag) (ta : TE) (f : Str) : TE := fun σ H Q => ta σ H fun x H1 => ∃ a C dx fs v, x = .ref a /\ Rd H1 a (.ins C dx fs) /\ Cls K C /\ zh0 K C f /\ fs.lookup f = some v /\ Q v H1
theorem wq2 {X : Cx} {e : Expr} {f : Str} {pos : Pos} {ta : TE} (he : PE X e ta) (hb : attributeBase e f X.env (eval e X.env) = eval e X.env) : PE X (.Attribute e f pos) (kc0 X.K ta f) := by
  intro pins s σ H Q I h
  refine xt2 hb (thn (he pins s σ H _ I h) fun u s1 ⟨x, H1, I1, rx, a, C, dx, fs, v, ex, ea, c, n, l, q⟩ => ?_)
  subst ex
  obtain rfl : u = Value.ref a := rx
  exact xx7 I1 ea c n l fun w' s2 I2 rw' => ⟨v, H1, I2, rw', q⟩
noncomputable def zt6 (C f : Str) : D -> Option D
  | .obj _ C' ns vs => if C' = C then (zf2 ns f).bind fun n => vs[n]? else none
  | _ => none
noncomputable def zi8 (C f : Str) (fo : PSt -> Option D) : PSt -> Option D := fun ps => (fo ps).bind (zt6 C f)
theorem Rep.obj_inv {K : PySem.W.Frag} {κ : Str -> Addr} {H : Hp} {v : V} {o : Bool} {C : Str} {ns : List Str} {ds : List D} {fp : List Addr} (r : Rep K κ H v (.obj o C ns ds) fp) : ∃ a dx fs g, v = .ref a /\ Rd H a (.ins (κ C) dx fs) /\ fs.map (·.1) = ns /\ Reps K κ H (fs.map (·.2)) ds g /\ g.Sublist fp := by
  cases r with
  | obj h e hs => exact ⟨_, _, _, _, rfl, .inl h, e, hs, List.sublist_cons_self _ _⟩
  | objF h e hs => exact ⟨_, _, _, _, rfl, .inr ⟨_, h⟩, e, hs, .refl _⟩
section
variable {X : Cx} {κ : Str -> Addr} {o e : Expr} {C fn : Str} {fo : PSt -> Option D} {pos : Pos}
theorem zn2 (hc : Cls X.K (κ C)) (hna : zh0 X.K (κ C) fn) (ho : QV X κ o fo) (hb : attributeBase o fn X.env (eval o X.env) = eval o X.env := by rfl) : QV X κ (.Attribute o fn pos) (zi8 C fn fo) :=
  (wq2 ho hb).imp fun σ H Q hh_ => by
    obtain ⟨ps, d, w, e, q⟩ := hh_
    obtain ⟨x, e1, e2⟩ := bind_some e
    refine ⟨ps, x, w, e1, fun v H1 fp s1 r1 => ?_⟩
    cases x with
    | obj ow C' ns ds =>
      have e2' : (if C' = C then (zf2 ns fn).bind fun n => ds[n]? else none) = some d := e2
      by_cases hC : C' = C
      case neg => rw [if_neg hC] at e2'; cases e2'
      rw [if_pos hC] at e2'
      subst hC
      obtain ⟨n, e4, e5⟩ := bind_some e2'
      obtain ⟨a, dx, fs, g, rfl, h, hk, hs, sub⟩ := r1.obj_inv
      subst hk
      obtain ⟨u, f1, k3, k4, _⟩ := hs.get e5
      exact ⟨a, κ C', dx, fs, u, rfl, h, hc, hna, yh5 e4 k3, q u H1 f1 s1 k4⟩
    | _ => cases e2
end
theorem xu0 : ∀ {fs : List (Str × V)} {f : Str} {n : Nat} (v : V), zf2 (fs.map (·.1)) f = some n -> (zp5 f v fs).map (·.1) = fs.map (·.1) /\ (zp5 f v fs).map (·.2) = (fs.map (·.2)).set n v
  | [], _, _, _, h => by cases h
  | (g, x) :: r, f, n, v, h => by
    rw [List.map_cons, zf2] at h
    by_cases z : g = f
    . have z' : (g, x).1 = f := z
      rw [if_pos z'] at h; cases h
      rw [zp5, if_pos z]; exact ⟨rfl, rfl⟩
    . have z' : ¬ (g, x).1 = f := z
      rw [if_neg z'] at h
      obtain ⟨m, h1, h2⟩ := Option.map_eq_some_iff.mp h
      subst h2
      obtain ⟨k1, k2⟩ := xu0 v h1
      rw [zp5, if_neg z]
      exact ⟨by rw [List.map_cons, List.map_cons, k1], by rw [List.map_cons, List.map_cons, List.set_cons_succ, k2]⟩
theorem xn6 : ∀ {fs : List (Str × V)} {f : Str} (v : V), zf2 (fs.map (·.1)) f = none -> (zp5 f v fs).map (·.1) = fs.map (·.1) ++ [f] /\ (zp5 f v fs).map (·.2) = fs.map (·.2) ++ [v]
  | [], _, _, _ => ⟨rfl, rfl⟩
  | (g, x) :: r, f, v, h => by
    rw [List.map_cons, zf2] at h
    by_cases z : g = f
    . have z' : (g, x).1 = f := z
      rw [if_pos z'] at h; cases h
    . have z' : ¬ (g, x).1 = f := z
      rw [if_neg z'] at h
      obtain ⟨k1, k2⟩ := xn6 v (Option.map_eq_none_iff.mp h)
      rw [zp5, if_neg z]
      exact ⟨by rw [List.map_cons, List.map_cons, k1]; rfl, by rw [List.map_cons, List.map_cons, k2]; rfl⟩
noncomputable def zj7 (C f : Str) (y : D) : D -> Option (Unit × D)
  | .obj true C' ns vs => if (C' = C /\ ns.length < 900) then (match zf2 ns f with
      | some n => some ((), .obj true C' ns (vs.set n y))
      | none => some ((), .obj true C' (ns ++ [f]) (vs ++ [y]))) else none
  | _ => none
theorem xn7 {C f : Str} {y d d' : D} {r : Unit} (h : zj7 C f y d = some (r, d')) : ∃ ns vs, d = .obj true C ns vs /\ ns.length < 900 /\ ((∃ n, zf2 ns f = some n /\ d' = .obj true C ns (vs.set n y)) \/ (zf2 ns f = none /\ d' = .obj true C (ns ++ [f]) (vs ++ [y]))) := by
  unfold zj7 at h
  split at h
  . rename_i C' ns vs
    by_cases hh : C' = C /\ ns.length < 900
    . rw [if_pos hh] at h
      obtain ⟨hC, hl⟩ := hh
      subst hC
      cases q : zf2 ns f with
      | some n => rw [q] at h; cases h; exact ⟨ns, vs, rfl, hl, .inl ⟨n, q, rfl⟩⟩
      | none => rw [q] at h; cases h; exact ⟨ns, vs, rfl, hl, .inr ⟨q, rfl⟩⟩
    . rw [if_neg hh] at h; cases h
  . cases h
noncomputable def zh5 (j : Nat) (pf : PSt -> Option (List Ps1)) (C f : Str) (fe : PSt -> Option D) : PSt -> Option (Fl × PSt) := fun ps => (fe ps).bind fun y => ((ps[j]?).join).bind fun d0 => (pf ps).bind fun p => (ze0 (zj7 C f y) d0 p).bind fun r => some (.nx, ps.set j (some r.2))
theorem xn8 : ∀ {ns : List Str} {f : Str} {n : Nat}, zf2 ns f = some n -> n < ns.length
  | [], _, _, h => by cases h
  | m :: ns, f, n, h => by
    rw [zf2] at h
    by_cases z : m = f
    . rw [if_pos z] at h; cases h; simp
    . rw [if_neg z] at h
      obtain ⟨k, h1, h2⟩ := Option.map_eq_some_iff.mp h
      subst h2
      have := xn8 h1
      simp; omega
section
variable {X : Cx} {κ : Str -> Addr} {φ : F0} {o e : Expr} {C fn : Str} {j : Nat} {pf : PSt -> Option (List Ps1)} {fe : PSt -> Option D} {pos pos' : Pos}
theorem zr1 (hc : Cls X.K (κ C)) (hna : zh0 X.K (κ C) fn) (hb : φ.bor j = false) (he : PE X e (tP X.K κ fe)) (ho : PE X o (zp9 X.K κ j pf)) (hs : swapsWith e (some (.Attribute o fn pos')) pos.line X.env = pure false := by rfl) :
    QS X κ φ (.Assign [.Attribute o fn pos'] e pos) (zh5 j pf C fn fe) :=
  (wu3 ho he hs).imp fun E σ H hh_ => by
    obtain ⟨ps, F, fl, ps', R, e, q⟩ := hh_
    obtain ⟨y, e1, e2⟩ := bind_some e
    obtain ⟨d0, e3, e4⟩ := bind_some e2
    have e0 := join_some e3
    obtain ⟨p, e5, e6⟩ := bind_some e4
    obtain ⟨⟨r, d0'⟩, em, e9⟩ := bind_some e6
    cases e9
    obtain ⟨dd, dn, gp, hh⟩ := yd2 em
    refine ⟨ps, y, R.ws, e1, fun v H1 fy s1 n1 nd1 ry => ⟨ps, p, d0, dd, R.ws.same s1, e0, e5, gp, fun lv H2 v0 s2 ev a2 => ?_⟩⟩
    have s12 := s1.trans s2
    obtain ⟨d1, d1', fd, m1, m2, m3, m4, m5⟩ := yp9 R s12 hb e0 ev em a2
    obtain ⟨ns, vs, rfl, hlen, hd⟩ := xn7 m2
    obtain ⟨l, dx, fs, g1, rfl, hl, hn, hr, rfl⟩ := m1.objT_inv
    subst hn
    have ry2 := ry.same s2
    obtain ⟨nl, nd3⟩ := List.nodup_cons.mp m3
    have own0 : ∀ a ∈ l :: g1, H a ≠ none := fun a ha z => by obtain ⟨o, h, _⟩ := R.own (m4 a ha); rw [z] at h; cases h
    have nl2 : l ∉ fy := fun z => own0 l List.mem_cons_self (n1 l z)
    have hl9 : fs.length < 900 := by rw [List.length_map] at hlen; exact hlen
    refine ⟨l, κ C, dx, fs, rfl, hl, hc, hna, by omega, ?_⟩
    have go : ∀ (g2 : List Addr), (∀ a ∈ g2, a ∈ fy \/ a ∈ g1) -> g2.Nodup -> Rep X.K κ (upd H2 l (.ins (κ C) dx (zp5 fn v fs))) (.ref l) d1' (l :: g2) -> ∃ F', Stp (φ.fx X.K κ) σ H F σ (upd H2 l (.ins (κ C) dx (zp5 fn v fs))) (ps.set j (some d0')) F' := fun g2 mem2 nd2 rp => by
      have n2 : l ∉ g2 := fun z => (mem2 l z).elim nl2 nl
      obtain ⟨F', st, ow⟩ := m5 (upd H2 l (.ins (κ C) dx (zp5 fn v fs))) (l :: g2) [] (fun a o h _ hn => yw4 h hn) (fun a h => yw5 h) rp
        (by rw [List.append_nil, List.nodup_cons]; exact ⟨n2, nd2⟩)
        (fun a ha => by
          rw [List.append_nil] at ha
          rcases List.mem_cons.mp ha with z | z
          . exact .inl (by rw [z]; exact List.mem_cons_self)
          . exact (mem2 a z).elim (fun z => .inr (n1 a z)) fun z => .inl (List.mem_cons_of_mem _ z))
      exact ⟨F', st⟩
    rcases hd with ⟨n, hx, rfl⟩ | ⟨hx, rfl⟩
    . obtain ⟨k1, k2⟩ := xu0 v hx
      have hn' := xn8 hx
      obtain ⟨f1, zd5, g2, p1, p2, p3⟩ := hr.setV (n := n) (by rw [<- hr.length, List.length_map]; rw [List.length_map] at hn'; exact hn') ry2
      have mem2 : ∀ a ∈ g2, a ∈ fy \/ a ∈ g1 := fun a ha => (List.mem_append.mp (p3.mem_iff.mp ha)).elim .inl fun z => .inr (p1.mem_iff.mpr (List.mem_append_right _ z))
      have n2 : l ∉ g2 := fun z => (mem2 l z).elim nl2 nl
      have nd2 : g2.Nodup := p3.nodup_iff.mpr (List.nodup_append.mpr ⟨nd1, (List.nodup_append.mp (p1.nodup_iff.mp nd3)).2.1, fun a ha b hb e => by
        subst e
        exact own0 a (List.mem_cons_of_mem _ (p1.mem_iff.mpr (List.mem_append_right _ hb))) (n1 a ha)⟩)
      obtain ⟨F', st⟩ := go g2 mem2 nd2 (.obj zj5 k1 (by rw [k2]; exact p2.updL hl rfl n2))
      exact q _ _ F' st
    . obtain ⟨k1, k2⟩ := xn6 v hx
      have mem2 : ∀ a ∈ g1 ++ fy, a ∈ fy \/ a ∈ g1 := fun a ha => (List.mem_append.mp ha).elim .inr .inl
      have n2 : l ∉ g1 ++ fy := fun z => (mem2 l z).elim nl2 nl
      have nd2 : (g1 ++ fy).Nodup := List.nodup_append.mpr ⟨nd3, nd1, fun a ha b hb e => by
        subst e
        exact own0 a (List.mem_cons_of_mem _ ha) (n1 a hb)⟩
      obtain ⟨F', st⟩ := go (g1 ++ fy) mem2 nd2 (.obj zj5 k1 (by rw [k2]; exact (Reps.append hr (Reps.one ry2)).updL hl rfl n2))
      exact q _ _ F' st
end
end L2
namespace L2
open PySem PySem.Spec PyProof.Rows
structure Mn (K : PySem.W.Frag) (κ : Str -> Addr) (C m qual : Str) (st : Stmt) (ps : List Str) (f : Addr) (fd : FuncData) : Prop where
  F : Fun K m qual st f fd
  b : zz2 K fd ps []
  c : Cls K (κ C)
  h : Meth K (κ C) m f
noncomputable def zn0 (C m : Str) (fo : PSt -> Option D) : PSt -> Option D := fun ps => (fo ps).bind fun d => match d with
  | .obj true C' ns vs => if (C' = C /\ zf2 ns m = none) then some (.obj true C' ns vs) else none
  | _ => none
theorem xx8 {C m : Str} {fo : PSt -> Option D} {ps : PSt} {d : D} (h : zn0 C m fo ps = some d) : ∃ ns vs, d = .obj true C ns vs /\ fo ps = some d /\ zf2 ns m = none := by
  obtain ⟨x, e1, e2⟩ := bind_some h
  cases x with
  | obj o C' ns vs => cases o with
    | true =>
      have e2' : (if (C' = C /\ zf2 ns m = none) then some (D.obj true C' ns vs) else none) = some d := e2
      obtain ⟨⟨hC, hn⟩, e3⟩ := zg9 e2'
      subst hC; cases e3
      exact ⟨ns, vs, rfl, e1, hn⟩
    | false => cases e2
  | _ => cases e2
theorem yk3 : ∀ {fs : List (Str × V)} {m : Str}, zf2 (fs.map (·.1)) m = none -> fs.lookup m = none
  | [], _, _ => rfl
  | (g, x) :: r, m, h => by
    rw [List.map_cons, zf2] at h
    by_cases z : g = m
    . have z' : (g, x).1 = m := z
      rw [if_pos z'] at h; cases h
    . have z' : ¬ (g, x).1 = m := z
      rw [if_neg z'] at h
      have ih := yk3 (Option.map_eq_none_iff.mp h)
      rw [List.lookup_cons]
      have : (m == g) = false := by
        rw [beq_eq_false_iff_ne]; exact fun e => z e.symm
      rw [this]; exact ih
section
variable {X : Cx} {κ : Str -> Addr} {o e : Expr} {es : List Expr} {C m qual : Str} {st : Stmt} {ps : List Str} {f : Addr} {fd : FuncData} {k np : Nat} {h : List D -> Option D} {fo : PSt -> Option D} {g : PSt -> Option (List D)} {apos pos p : Pos} {pl : Sem Bool}
theorem yw6 (M : Mn X.K κ C m qual st ps f fd) (G : FnOk X.prog X.w X.K X.mg X.base CX0 k f fd ps (SpP 1 X.K κ h)) (hr : Room k X.A) (ho : QV X κ o fo)
    (ht : eval (.Call (.Attribute o m apos) [] [] pos) X.env = (do
      let ov <- eval o X.env
      standAt apos.atName
      let (f, first) <- holding [ov] (getMethod ov m pl)
      callWith pos f first (backTo pos (starEach [] X.env)) (backToKw pos (keywordEach [] X.env))) := by rfl) :
    QP X κ (.Call (.Attribute o m apos) [] [] pos) (za4 h (za1 (zn0 C m fo) za3)) := (wi1 ho M.c M.h G hr M.b .nil yy8 ht).imp fun σ H Q hh_ => by
  obtain ⟨ps, d, w, e, q⟩ := hh_
  obtain ⟨ds, e1, e2⟩ := bind_some e
  obtain ⟨x, k1, k2⟩ := bind_some e1
  obtain ⟨ds', k3, k4⟩ := bind_some k2
  cases k4; cases k3
  obtain ⟨ns, vs, rfl, k5, k6⟩ := xx8 k1
  refine ⟨ps, _, w, k5, fun v H1 fp s1 r1 => ?_⟩
  have r1' := r1
  obtain ⟨_, _, _, _, rfl, hl, hn, hs, rfl⟩ := r1.objT_inv
  subst hn
  exact ⟨_, _, _, rfl, hl, yk3 k6, rfl, _, _, d, Reps.one r1', e2, q.after s1⟩
end
noncomputable def zz3 : Nat -> Bool := fun i => decide (i = 0)
noncomputable def yj7 (fd : List Addr) : Nat -> List Addr := fun i => if i = 0 then fd else []
theorem zx3 {fd : List Addr} {i : Nat} {a : Addr} (h : a ∈ yj7 fd i) : i = 0 /\ a ∈ fd := by
  unfold yj7 at h
  by_cases z : i = 0
  . rw [if_pos z] at h; exact ⟨z, h⟩
  . rw [if_neg z] at h; exact absurd h (by simp)
theorem yz9 {K : PySem.W.Frag} {κ : Str -> Addr} {H : Hp} {v : V} {vs : List V} {d : D} {ds : List D} {fd : List Addr} (r : Rep K κ H v d fd) (nd : fd.Nodup) (rs : Reps K κ H vs ds []) :
    RS (fxE K κ (ds.length + 1) zz3) H ((v :: vs).map some) ((d :: ds).map some) (yj7 fd) := by
  refine ⟨fun i x hx => ?_, fun i a ha => ?_, fun i j a h1 h2 => ?_, fun i => ?_, fun i a _ k z => z.elim, fun k a z => z.elim, by simp [rs.length]⟩
  . cases i with
    | zero =>
      simp at hx; subst hx
      exact ⟨v, fd, rfl, r, fun _ => rfl, fun z => by simp [fxE, zz3] at z⟩
    | succ i =>
      rw [List.map_cons, List.getElem?_cons_succ, List.getElem?_map] at hx
      obtain ⟨y, hy, e⟩ := Option.map_eq_some_iff.mp hx
      cases e
      obtain ⟨u, f1, k1, k2, k3⟩ := rs.get hy
      have ef : f1 = [] := by
        cases f1 with
        | nil => rfl
        | cons b l => exact absurd (k3 b List.mem_cons_self) (by simp)
      subst ef
      exact ⟨u, [], by rw [List.map_cons, List.getElem?_cons_succ, List.getElem?_map, k1]; rfl, k2, (fun _ => by simp [yj7]), fun _ a ha => absurd ha (by simp)⟩
  . obtain ⟨e, h⟩ := zx3 ha
    subst e
    exact ⟨by simp [fxE, zz3], d, rfl⟩
  . rw [(zx3 h1).1, (zx3 h2).1]
  . unfold yj7; split
    . exact nd
    . exact List.nodup_nil
noncomputable def yu1 : List Arg -> Bool
  | [] => true
  | .im _ :: as => yu1 as
  | .io _ :: _ => false
theorem ArgsAt.reps {K : PySem.W.Frag} {κ : Str -> Addr} {H : Hp} {σ : St} {ps : PSt} : ∀ {as : List Arg} {vs : List V} {ds : List D}, ArgsAt K κ H σ ps as vs ds -> yu1 as = true -> Reps K κ H vs ds []
  | _, _, _, .nil, _ => .nil
  | _, _, _, .io _ _ _, h => by cases h
  | _, _, _, .im r a, h => .cons (f := []) (g := []) r (ArgsAt.reps a h)
noncomputable def zo9 (C m : Str) (g : List D -> Option (D × List D)) (ys : List D) (d : D) : Option (D × D) := match d with
  | .obj true C' ns vs => if (C' = C /\ zf2 ns m = none) then (g (.obj true C' ns vs :: ys)).bind fun r => match r.2 with
      | d' :: ds => if ds.length = ys.length then some (r.1, d') else none
      | [] => none
    else none
  | _ => none
theorem xa0 {C m : Str} {g : List D -> Option (D × List D)} {ys : List D} {d r d' : D} (h : zo9 C m g ys d = some (r, d')) : ∃ ns vs ds, d = .obj true C ns vs /\ zf2 ns m = none /\ g (d :: ys) = some (r, d' :: ds) /\ ds.length = ys.length := by
  unfold zo9 at h
  split at h
  . rename_i C' ns vs
    by_cases hc : C' = C /\ zf2 ns m = none
    . rw [if_pos hc] at h
      obtain ⟨hC, hn⟩ := hc
      subst hC
      obtain ⟨⟨r1, ds⟩, e1, e2⟩ := bind_some h
      cases ds with
      | nil => cases e2
      | cons d1 ds =>
        obtain ⟨hl, e3⟩ := zg9 e2
        cases e3
        exact ⟨ns, vs, ds, rfl, hn, e1, hl⟩
    . rw [if_neg hc] at h; cases h
  . cases h
section
variable {X : Cx} {κ : Str -> Addr} {φ : F0} {o e : Expr} {es : List Expr} {C m qual : Str} {st : Stmt} {ps : List Str} {f : Addr} {fd : FuncData} {k np j : Nat} {mk : Nat -> Bool} {g : List D -> Option (D × List D)} {pf : PSt -> Option (List Ps1)} {as : List Arg} {apos pos p : Pos} {pl : Sem Bool}
theorem wj6 {σ : St} {H H1 : Hp} {Q : VK} {ps : PSt} {F : Nat -> List Addr} {d0 d0' r : D} {pp : List Ps1} {v0 v : V} {ys : List D} {us : List V} (R : RS (φ.fx X.K κ) H σ ps F) (s1 : SameK H H1) (hb : φ.bor j = false) (e0 : ps[j]? = some (some d0)) (ev : σ[j]? = some (some v0))
    (em : ze0 (zo9 C m g ys) d0 pp = some (r, d0')) (at_ : At H1 v0 pp v) (ry : Reps X.K κ H1 us ys []) (hnp : np = ys.length + 1) (hm : mk = zz3)
    (q : ∀ v H' F' fv, Stp (φ.fx X.K κ) σ H F σ H' (ps.set j (some d0')) F' -> OwnV F H F' fv -> Rep X.K κ H' v r fv -> Q v H') : SpE np X.K κ mk g (v :: us) H1 Q E0 := by
  subst hnp hm
  obtain ⟨d1, d1', fd, m1, m2, m3, m4, m5⟩ := yp9 R s1 hb e0 ev em at_
  obtain ⟨ns, vs, ds, rfl, hn, eg, hl⟩ := xa0 m2
  refine ⟨by rw [List.length_cons, ry.length], _, r, d1' :: ds, yj7 fd, by simp, yz9 m1 m3 ry, eg, fun u H' F' fv s o rv => ?_⟩
  obtain ⟨v2, fp2, k1, k2, k3, _⟩ := s.rs.rep 0 d1' rfl
  have ek : v2 = v := by
    have : (List.map some (v :: us))[0]? = some (some v2) := k1
    simp at this; exact this.symm
  subst ek
  have k3' := k3 (by simp [fxE, zz3])
  subst k3'
  have old : ∀ a, ((∃ i, a ∈ yj7 fd i) \/ H1 a = none) -> a ∈ fd \/ H a = none := fun a h => h.elim (fun ⟨i, hi⟩ => .inl (zx3 hi).2) fun z => .inr (s1.grow a z)
  obtain ⟨F2, st2, ow2⟩ := m5 H' (F' 0) fv (fun a o h k hn => s.fr.keep a o h k fun i hi => hn (zx3 hi).2) (fun a h => s.fr.grow a h) k2
    (List.nodup_append.mpr ⟨s.rs.nd 0, o.nd, fun a ha b hb e => by subst e; exact o.dis 0 a ha hb⟩)
    (fun a ha => (List.mem_append.mp ha).elim (fun z => old a (s.nw 0 a z)) fun z => old a (o.nw a z))
  exact q u H' F2 fv st2 ow2 rv
theorem wj7 {σ : St} {H H1 : Hp} {ps : PSt} {F : Nat -> List Addr} {d0 d0' r : D} {pp : List Ps1} {v0 v : V} {ys : List D} (R : RS (φ.fx X.K κ) H σ ps F) (s1 : SameK H H1) (e0 : ps[j]? = some (some d0)) (ev : σ[j]? = some (some v0))
    (em : ze0 (zo9 C m g ys) d0 pp = some (r, d0')) (at_ : At H1 v0 pp v) : ∃ a dx fs, v = .ref a /\ H1 a = some (.ins (κ C) dx fs) /\ fs.lookup m = none := by
  obtain ⟨dd, dn, gp, hh⟩ := yd2 em
  obtain ⟨ns, vs, ds, rfl, hn, _⟩ := xa0 hh
  obtain ⟨fd, rd⟩ := xe8 R.ws s1 e0 ev gp at_
  obtain ⟨_, _, _, _, rfl, hl, hk, hs, rfl⟩ := rd.objT_inv
  subst hk; exact ⟨_, _, _, rfl, hl, yk3 hn⟩
theorem yd4 (M : Mn X.K κ C m qual st ps f fd) (G : FnOk X.prog X.w X.K X.mg X.base CX0 k f fd ps (SpE np X.K κ mk g)) (hr : Room k X.A) (hb : φ.bor j = false) (ho : PE X o (zp9 X.K κ j pf)) (ha : PA X (e :: es) (tIO X.K κ as)) (has : yu1 as = true) (hnp : np = as.length + 1) (hm : mk = zz3)
    (hst : starEach (e :: es) X.env = (false, eval e X.env) :: starEach es X.env := by rfl) (hpl : (backTo pos (starEach es X.env)).any (·.1) = false := by rfl)
    (ht : eval (.Call (.Attribute o m apos) (e :: es) [] pos) X.env = (do
      let ov <- eval o X.env
      standAt apos.atName
      let (f, first) <- holding [ov] (getMethod ov m pl)
      callWith pos f first (backTo pos (starEach (e :: es) X.env)) (backToKw pos (keywordEach [] X.env))) := by rfl) :
    QE X κ φ (.Call (.Attribute o m apos) (e :: es) [] pos) (zd1 j pf (zc7 as) (zo9 C m g)) := (wo9 ho M.c M.h G hr M.b .nil yy8 ha hst hpl ht).imp fun σ H Q hh_ => by
  obtain ⟨ps, F, d, ps', R, e, q⟩ := hh_
  obtain ⟨d0, pp, ys, d0', e0, ep, eg, em, rfl⟩ := yq1 e
  obtain ⟨dd, dn, gp, hh⟩ := yd2 em
  refine ⟨ps, pp, d0, dd, R.ws, e0, ep, gp, fun v H1 v0 s1 ev a1 => ?_⟩
  obtain ⟨a, dx, fs, rfl, hl, hn⟩ := wj7 R s1 e0 ev em a1
  refine ⟨a, dx, fs, rfl, hl, hn, ps, ys, R.ws.same s1, eg, fun us H2 s2 a2 => ?_⟩
  show SpE np X.K κ mk g (_ :: (us ++ [])) H2 Q E0
  rw [List.append_nil]
  exact wj6 R (s1.trans s2) hb e0 ev em (a1.same s2) (a2.reps has) (by rw [hnp, a2.len.2]) hm q
end
structure Kn (K : PySem.W.Frag) (mg : Str -> Option Value) (κ : Str -> Addr) (C qual : Str) (st : Stmt) (ps : List Str) (f : Addr) (fd : FuncData) : Prop where
  F : Fun K "__init__" qual st f fd
  b : zz2 K fd ps []
  M : Mk K (κ C) f
  m : mg C = some (.ref (κ C))
noncomputable def zj9 (C : Str) (ga : PSt -> Option (List D)) (g : List D -> Option (D × List D)) : PSt -> Option D := fun ps => (ga ps).bind fun ys => (g (.obj true C [] [] :: ys)).bind fun r => match r with
  | (.non, d' :: _) => some d'
  | _ => none
theorem xx9 {C : Str} {ga : PSt -> Option (List D)} {g : List D -> Option (D × List D)} {ps : PSt} {d : D} (h : zj9 C ga g ps = some d) : ∃ ys ds, ga ps = some ys /\ g (.obj true C [] [] :: ys) = some (.non, d :: ds) := by
  obtain ⟨ys, e1, e2⟩ := bind_some h
  obtain ⟨⟨r, ds⟩, e3, e4⟩ := bind_some e2
  cases r with
  | non => cases ds with
    | nil => cases e4
    | cons d1 ds => cases e4; exact ⟨ys, ds, e1, e3⟩
  | _ => cases e4
section
variable {X : Cx} {κ : Str -> Addr} {e : Expr} {es : List Expr} {C qual : Str} {st : Stmt} {ps : List Str} {f : Addr} {fd : FuncData} {k np : Nat} {mk : Nat -> Bool} {g : List D -> Option (D × List D)} {as : List Arg} {pos p : Pos}
theorem wq3 {H H1 : Hp} {Q : VK} {d : D} {ys ds : List D} {us : List V} {x dx : Addr} (s1 : SameK H H1) (hx : H1 x = none) (hdx : H1 dx = none) (hne : dx ≠ x) (ry : Reps X.K κ H1 us ys []) (hnp : np = ys.length + 1) (hm : mk = zz3) (eg : g (.obj true C [] [] :: ys) = some (.non, d :: ds)) (q : zw4 X.K κ H d Q) :
    SpE np X.K κ mk g (.ref x :: us) (upd (upd H1 dx (.own x)) x (.ins (κ C) dx [])) (fun v H2 => v = .non /\ Q (.ref x) H2) E0 := by
  subst hnp hm
  have ne : ∀ a o, H1 a = some o -> a ≠ x /\ a ≠ dx := fun a o h => ⟨fun z => (by rw [z, hx] at h; cases h), fun z => (by rw [z, hdx] at h; cases h)⟩
  have up : ∀ a o, H1 a = some o -> upd (upd H1 dx (.own x)) x (.ins (κ C) dx []) a = some o := fun a o h => by rw [zg5 (ne a o h).1, zg5 (ne a o h).2]; exact h
  have gr : ∀ a, upd (upd H1 dx (.own x)) x (.ins (κ C) dx []) a = none -> H1 a = none := fun a h => by
    by_cases z : a = x
    . rw [z]; exact hx
    . rw [zg5 z] at h
      by_cases z2 : a = dx
      . rw [z2]; exact hdx
      . rwa [zg5 z2] at h
  have s2 : SameK H1 (upd (upd H1 dx (.own x)) x (.ins (κ C) dx [])) := ⟨fun a o h _ => up a o h, gr⟩
  have r0 : Rep X.K κ (upd (upd H1 dx (.own x)) x (.ins (κ C) dx [])) (.ref x) (.obj true C [] []) [x] := .obj (fs := []) zj5 rfl .nil
  have ry2 : Reps X.K κ (upd (upd H1 dx (.own x)) x (.ins (κ C) dx [])) us ys [] := ry.move (fun a o h _ => up a o h) fun a ha => absurd ha (by simp)
  refine ⟨by rw [List.length_cons, ry.length], _, .non, d :: ds, yj7 [x], by simp, yz9 r0 (by simp) ry2, eg, fun u H' F' fv s o rv => ⟨by cases rv; rfl, ?_⟩⟩
  obtain ⟨v2, fp2, k1, k2, k3, _⟩ := s.rs.rep 0 d rfl
  have ek : v2 = .ref x := by
    have : (List.map some (V.ref x :: us))[0]? = some (some v2) := k1
    simp at this; exact this.symm
  subst ek
  have k3' := k3 (by simp [fxE, zz3])
  subst k3'
  refine q (.ref x) H' (F' 0) ⟨fun a o h hk => ?_, fun a h => s1.grow a (gr a (s.fr.grow a h))⟩ (fun a ha => ?_) (s.rs.nd 0) k2
  . have h1 := s1.keep a o h hk
    refine s.fr.keep a o (up a o h1) hk fun i hi => ?_
    have := (zx3 hi).2
    simp at this
    exact (ne a o h1).1 this
  . rcases s.nw 0 a ha with ⟨i, hi⟩ | z
    . have := (zx3 hi).2
      simp at this
      subst this
      exact s1.grow a hx
    . exact s1.grow a (gr a z)
theorem yh1 (Kd : Kn X.K X.mg κ C qual st ps f fd) (G : FnOk X.prog X.w X.K X.mg X.base CX0 k f fd ps (SpE np X.K κ mk g)) (hr : Room (k + 1) X.A) (hg : Gl X C) (ha : PA X (e :: es) (tIO X.K κ as)) (has : yu1 as = true) (hnp : np = as.length + 1) (hm : mk = zz3)
    (hdb : (C == ("__debug__" : Str)) = false := by decide) (he : starEach (e :: es) X.env = (false, eval e X.env) :: starEach es X.env := by rfl) (hpl : (backTo pos (starEach es X.env)).any (·.1) = false := by rfl) :
    QP X κ (.Call (.Name C p) (e :: es) [] pos) (zj9 C (zc7 as) g) := (wp0 Kd.M G hr hg Kd.m Kd.b .nil yy8 ha hdb he hpl).imp fun σ H Q hh_ => by
  obtain ⟨ps, d, w, e, q⟩ := hh_
  obtain ⟨ys, ds, e1, e2⟩ := xx9 e
  refine ⟨ps, ys, w, e1, fun us H1 s1 a1 x dx hx hdx hne => ?_⟩
  show SpE np X.K κ mk g (_ :: (us ++ [])) _ _ E0
  rw [List.append_nil]
  exact wq3 s1 hx hdx hne (a1.reps has) (by rw [hnp, a1.len.2]) hm e2 q
end
end L2
namespace L2
open PySem PySem.Spec PyProof.Rows
section
variable {X : Cx} {κ : Str -> Addr}
theorem wd5 : MtR X "str.startswith" (fun x xs H Q => ∃ z y, x = .str z /\ xs = [.str y] /\ Q (.bl (Txt.startswith z y)) H) := by
  intro pins s σ H x xs v us Q I rx r h
  obtain ⟨z, y, rfl, rfl, q⟩ := h
  obtain ⟨t, rfl⟩ := rx
  obtain ⟨u, rfl, t', rfl⟩ := yi8 r
  exact SC.startswith ⟨.bl _, H, I.tok _, rfl, q⟩
noncomputable def zz8 : D -> List D -> Option D
  | .str z, [.str y] => some (.bl (Txt.startswith z y))
  | _, _ => none
theorem yh6 : MtR X "str.startswith" (PMt X.K κ zz8) := by
  rintro pins s σ H x vs v us Q I rx r ⟨dx, ds, fx, fp, d, r1, rs, e, q⟩
  unfold zz8 at e
  split at e
  . cases e
    obtain ⟨w, rfl, r2⟩ := rs.one_inv
    exact wd5 pins s σ H x _ v us Q I rx r ⟨_, _, r1.is_str, by rw [r2.is_str], q.now (.bl _)⟩
  . cases e
end
theorem zq5 (n : Nat) : zd3 (true :: List.replicate n false) = zz3 := by
  funext i
  unfold zd3 zz3
  cases i with
  | zero => rfl
  | succ i =>
    rw [List.getElem?_cons_succ, List.getElem?_replicate]
    split <;> simp
noncomputable def kap : List (Str × Addr) -> Str -> Addr
  | [], _ => mainGlobals
  | (x, a) :: r, y => if x = y then a else kap r y
end L2
namespace L2
open PySem PySem.Spec PyProof.Rows
section
variable {X : Cx} {pins : List (Addr × Obj)} {σ : St} {H : Hp} {s : Shared} {a C dx : Addr} {fs : List (Str × V)}
theorem Inv.freeze (I : Inv X pins σ H s) (h : H a = some (.ins C dx fs)) : Inv X pins σ (upd H a (.frz (PySem.W.instObj C dx) (.ins C dx fs))) s := by
  have ne : ∀ b, H b = none -> b ≠ a := fun b hb z => by rw [z, h] at hb; cases hb
  have nt : ∀ b o, H b = some o -> (∀ C' dx' fs', o ≠ .ins C' dx' fs') -> b ≠ a := fun b o hb ho z => by
    rw [z, h] at hb
    cases hb
    exact ho _ _ _ rfl
  refine ⟨I.ok, I.os, I.bare, ⟨I.base.keep, I.base.slot, fun b o h1 h2 h3 => ?_, I.base.there, fun b xs h1 => ?_, fun b o u h1 => ?_, fun b ps h1 => ?_⟩, I.loc, I.cell, ?_, fun x c e => ?_, fun p hp => ?_, fun b o e => ?_, I.len⟩
  . have := I.base.free b o h1 h2 h3
    rw [zg5 (ne b this)]; exact this
  . have := I.base.tups b xs h1
    rw [zg5 (nt b _ this fun _ _ _ z => by cases z)]; exact this
  . have := I.base.frzs b o u h1
    rw [zg5 (nt b _ this fun _ _ _ z => by cases z)]; exact this
  . obtain ⟨more, this⟩ := I.base.tbls b ps h1
    exact ⟨more, by rw [zg5 (nt b _ this fun _ _ _ z => by cases z)]; exact this⟩
  . rw [zg5 (ne _ I.free)]; exact I.free
  . have := I.freeC x c e
    rw [zg5 (ne _ this)]; exact this
  . obtain ⟨p1, p2, p3⟩ := I.pin p hp
    exact ⟨p1, by rw [zg5 (ne _ p2)]; exact p2, p3⟩
  . have st : ∀ {b o}, zs5 X.prog X.w H s.heap b o -> zs5 X.prog X.w (upd H a (.frz (PySem.W.instObj C dx) (.ins C dx fs))) s.heap b o := fun x =>
      x.stay (fun _ _ _ q => q) (fun b' hb => by rw [zg5 (nt b' _ hb fun _ _ _ z => by cases z)]; exact hb) fun b' xs hb => by rw [zg5 (nt b' _ hb fun _ _ _ z => by cases z)]; exact hb
    by_cases z : b = a
    . subst z
      rw [zj5] at e
      cases e
      have x := I.hok b _ h
      obtain ⟨_, _, _, ob, _⟩ := (show zs5 X.prog X.w H s.heap b (.ins C dx fs) from x)
      exact ⟨ob, st x⟩
    . rw [zg5 z] at e
      exact st (I.hok b o e)
end
theorem PE.frz {X : Cx} {e : Expr} {t : TE} (h : PE X e t) : PE X e (fun σ H Q => t σ H fun x H' => ∃ a C dx fs, x = .ref a /\ H' a = some (.ins C dx fs) /\ Q x (upd H' a (.frz (PySem.W.instObj C dx) (.ins C dx fs)))) := by
  intro pins s σ H Q I q
  exact thn (h pins s σ H _ I q) fun v s1 ⟨x, H1, I1, rx, a, C, dx, fs, ex, ea, q1⟩ => ⟨x, _, I1.freeze ea, rx, q1⟩
noncomputable def ye4 (f : PSt -> Option D) : PSt -> Option D := fun ps => (f ps).bind fun d => match d with
  | .obj true C ns vs => if D.imms vs = true then some (.obj false C ns vs) else none
  | _ => none
theorem yq6 {X : Cx} {κ : Str -> Addr} {e : Expr} {f : PSt -> Option D} (h : QP X κ e f) : QP X κ e (ye4 f) :=
  (PE.frz h).imp fun σ H Q hh_ => by
    obtain ⟨ps, d, w, e, q⟩ := hh_
    obtain ⟨d0, e1, e2⟩ := bind_some e
    refine ⟨ps, d0, w, e1, fun v H1 fv s1 n1 nd1 r1 => ?_⟩
    cases d0 with
    | obj o C ns vs => cases o with
      | true =>
        have e2' : (if D.imms vs = true then some (D.obj false C ns vs) else none) = some d := e2
        obtain ⟨hi, e3⟩ := zg9 e2'
        cases e3
        obtain ⟨l, dx, fs, g, rfl, hl, hn, hs, rfl⟩ := r1.objT_inv
        have eg := hs.imm hi
        subst eg
        have hln := n1 l List.mem_cons_self
        have up : ∀ b o, H b = some o -> b ≠ l := fun b o hb z => by rw [z, hln] at hb; cases hb
        refine ⟨l, κ C, dx, fs, rfl, hl, q (.ref l) _ [] ⟨fun b o hb hk => ?_, fun b hb => ?_⟩ (fun _ h => absurd h (by simp)) List.nodup_nil (.objF zj5 hn (hs.move (fun b o hb ht => ?_) fun _ h => absurd h (by simp)))⟩
        . rw [zg5 (up b o hb)]; exact s1.keep b o hb hk
        . by_cases z : b = l
          . rw [z, zj5] at hb; cases hb
          . rw [zg5 z] at hb; exact s1.grow b hb
        . by_cases z : b = l
          . rw [z, hl] at hb; cases hb; cases ht
          . rw [zg5 z]; exact hb
      | false => cases e2
    | _ => cases e2
end L2
namespace L2
open PySem PySem.Spec PyProof.Rows
section
variable {X : Cx} {κ : Str -> Addr} {φ : F0} {sc scope : Scope} {NX N : List Str} {pick : List (Option Nat)} {elt iter : Expr} {ifs : List Expr} {x : Str} {px pos : Pos} {fi : PSt -> Option (List D)} {ft : PSt -> Option Bool} {fe : PSt -> Option D}
theorem xf1 (i : Nat) {y : Str} {py spos : Pos} (hN : X.N.Nodup) (hi' : X.N[i]? = some y) (hy : X.env.scope.names.lookup y = some .local) (hb : φ.bor i = false) (hm : φ.M i = false)
    (S : CScope sc NX N pick scope) (hsc : X.env.scope = sc) (hNX : X.N = NX) (hc : X.calm = true) (hi : QIV X κ (.Name x px) iter fi)
    (hg : ∀ cl fp s H, PG (cxB X N scope cl fp s H) (.Name x px) (yc2 0)) (ht : ∀ cl fp s H, PTs (cxB X N scope cl fp s H) ifs (tQ X.K κ ft)) (he : ∀ cl fp s H, PE (cxB X N scope cl fp s H) elt (tP X.K κ fe))
    (hsw : swapsWith (.ListComp elt [⟨.Name x px, iter, ifs, 0⟩] scope pos) (some (.Name y py)) spos.line X.env = pure true := by rfl)
    (hs : ∀ x, foldedSetIterable iter X.env x = pure x := by intro _; rfl) : QS X κ φ (.Assign [.Name y py] (.ListComp elt [⟨.Name x px, iter, ifs, 0⟩] scope pos) spos) (zb9 i (za5 (ye8 pick fi ft fe))) :=
  (wp6 hN hi' hy hsw S hsc hNX hc hi hg ht he hs).imp fun E σ H hh_ => by
    obtain ⟨ps, F, fl, ps', R, e, q⟩ := hh_
    obtain ⟨⟨d, ps1⟩, e1, e2⟩ := bind_some e
    cases e2
    obtain ⟨d', e3, e4⟩ := bind_some e1
    cases e4
    obtain ⟨ds, e5, e6⟩ := bind_some e3
    obtain ⟨hz, e7⟩ := zg9 e6
    obtain ⟨rs, e8, e9⟩ := bind_some e7
    cases e9
    refine ⟨ps, ds, R.ws, e5, fun J H1 Z s1 W Dd hD => ?_⟩
    refine xn1 (Q := fun Dd H' => E.nx (σ.set i (some (.ref Dd))) H') (R.ws.same s1) hD W hz e8 fun H' vs fv G => ?_
    have nw : ∀ a ∈ Dd :: fv, H a = none := fun a ha => by
      rcases List.mem_cons.mp ha with z | z
      . rw [z]; exact s1.grow Dd hD
      . exact s1.grow a (G.new a z)
    obtain ⟨F2, s2⟩ := (Stp.same R (s1.trans G.same)).set (OwnV.new R nw (List.nodup_cons.mpr ⟨G.ne, G.nd⟩)) R (v := .ref Dd) (d := .lst true rs) (.lst G.at_ G.rep) (.inl hb) hm (i := i)
    exact q _ _ F2 s2
end
section
variable {X : Cx} {κ : Str -> Addr}
theorem wj8 : MtR X "str.rfind" (fun x xs H Q => ∃ z y, x = .str z /\ xs = [.str y] /\ Q (.int (Txt.rfind z y)) H) := by
  intro pins s σ H x xs v us Q I rx r h
  obtain ⟨z, y, rfl, rfl, q⟩ := h
  obtain ⟨t, rfl⟩ := rx
  obtain ⟨u, rfl, t', rfl⟩ := yi8 r
  exact SC.rfind ⟨.int _, H, I.tok _, ⟨_, rfl⟩, q⟩
noncomputable def yr9 : D -> List D -> Option D
  | .str z, [.str y] => some (.int (Txt.rfind z y))
  | _, _ => none
theorem xf2 : MtR X "str.rfind" (PMt X.K κ yr9) := by
  rintro pins s σ H x vs v us Q I rx r ⟨dx, ds, fx, fp, d, r1, rs, e, q⟩
  unfold yr9 at e
  split at e
  . cases e
    obtain ⟨w, rfl, r2⟩ := rs.one_inv
    exact wj8 pins s σ H x _ v us Q I rx r ⟨_, _, r1.is_str, by rw [r2.is_str], q.now (.int _)⟩
  . cases e
end
noncomputable def ya1 (f : PSt -> Option (Bool × PSt)) : PSt -> Option (Bool × PSt) := fun ps => (f ps).bind fun r => some (!r.1, r.2)
noncomputable def fTE (f : PSt -> Option (D × PSt)) : PSt -> Option (Bool × PSt) := fun ps => (f ps).bind fun r => (zd9 r.1).bind fun b => some (b, r.2)
noncomputable def fE2 (g : D -> D -> Option D) (fa : PSt -> Option (D × PSt)) (fb : PSt -> Option D) : PSt -> Option (D × PSt) := fun ps => (fa ps).bind fun r => (fb r.2).bind fun y => (g r.1 y).bind fun d => some (d, r.2)
section
variable {X : Cx} {κ : Str -> Addr} {φ : F0} {a b : Expr} {pos : Pos}
theorem yl7 {f : PSt -> Option (Bool × PSt)} (h : QTE X κ φ a f) : QTE X κ φ (.UnaryOp .Not a pos) (ya1 f) := (wa5 h).imp fun σ H Q hh_ => by
  obtain ⟨ps, F, c, ps', R, e, q⟩ := hh_
  obtain ⟨⟨c1, p1⟩, e1, e2⟩ := bind_some e
  cases e2
  exact ⟨ps, F, c1, p1, R, e1, fun H' F' s => q H' F' s⟩
theorem yh2 {f : PSt -> Option (D × PSt)} (h : QE X κ φ a f) (he : ∀ whole, isTrue a X.env whole = (do let v <- whole; standAt a.pos; holding [v] (truthy v)) := by intro _; rfl) : QTE X κ φ a (fTE f) := (xl8 h he).imp fun σ H Q hh_ => by
  obtain ⟨ps, F, c, ps', R, e, q⟩ := hh_
  obtain ⟨⟨d, p1⟩, e1, e2⟩ := bind_some e
  obtain ⟨c1, e3, e4⟩ := bind_some e2
  cases e4
  exact ⟨ps, F, d, p1, R, e1, fun v H' F' fv s o r => ⟨_, xt3 r e3, q H' F' s⟩⟩
theorem xn9 {op : CmpOp} {g : D -> D -> Option D} {fa : PSt -> Option (D × PSt)} {fb : PSt -> Option D} (ho : OpR X (compareOp op) (POp X.K κ g)) (ha : QE X κ φ a fa) (hb : QV X κ b fb) (hm : behindInMarks op b = false) : QE X κ φ (.Compare a [op] [b] pos) (fE2 g fa fb) :=
  (xs9 ho ha hb hm).imp fun σ H Q hh_ => by
    obtain ⟨ps, F, d, ps', R, e, q⟩ := hh_
    obtain ⟨⟨dx, p1⟩, e1, e2⟩ := bind_some e
    obtain ⟨y, e3, e4⟩ := bind_some e2
    obtain ⟨d1, e5, e6⟩ := bind_some e4
    cases e6
    refine ⟨ps, F, dx, p1, R, e1, fun v H1 F1 fv s1 o1 r1 => ⟨p1, y, s1.rs.ws, e3, fun u H2 fu s2 r2 => ⟨dx, y, _, fv, fu, r1.same s2, r2, e5, fun w H3 fw s3 n3 nd3 r3 => ?_⟩⟩⟩
    exact q w H3 F1 fw (s1.trans (.same s1.rs (s2.trans s3))) (OwnV.after s1 (OwnV.new s1.rs (fun a ha => s2.grow a (n3 a ha)) nd3)) r3
end
end L2
namespace L2
open PySem PySem.Spec PyProof.Rows
section
variable {X : Cx} {κ : Str -> Addr}
noncomputable def xg6 : D -> D -> Option D
  | .bl a, .bl b => some (.bl (a == b))
  | _, _ => none
theorem xk4 : OpR X (compareOp .Is) (POp X.K κ xg6) := by
  rintro pins s σ H x y v u Q I rx ry ⟨dx, dy, d, fx, fy, r1, r2, e, q⟩
  unfold xg6 at e
  split at e
  . cases e; cases r1; cases r2; cases rx; cases ry
    exact is_bool (zi3 I (q.now (.bl _)) rfl)
  . cases e
end
end L2
namespace L3
open PySem PySem.Spec PyProof.Rows L2
@[irreducible] def PE := @L2.PE
@[irreducible] def PT := @L2.PT
@[irreducible] def PW := @L2.PW
@[irreducible] def PA := @L2.PA
@[irreducible] def PS := @L2.PS
@[irreducible] def PSs := @L2.PSs
@[irreducible] def PI := @L2.PI
@[irreducible] def PG := @L2.PG
@[irreducible] def PGs := @L2.PGs
@[irreducible] def PTs := @L2.PTs
@[irreducible] def PO := @L2.PO
@[irreducible] def OpR := @L2.OpR
@[irreducible] def zn9 := @L2.zn9
@[irreducible] def MtR := @L2.MtR
noncomputable abbrev QV (X : Cx) (κ : Str -> Addr) (e : Expr) (f : PSt -> Option D) : Prop := PE X e (tV X.K κ f)
noncomputable abbrev QP (X : Cx) (κ : Str -> Addr) (e : Expr) (f : PSt -> Option D) : Prop := PE X e (tP X.K κ f)
noncomputable abbrev QT (X : Cx) (κ : Str -> Addr) (e : Expr) (f : PSt -> Option Bool) : Prop := PT X e (tQ X.K κ f)
noncomputable abbrev QW (X : Cx) (κ : Str -> Addr) (e : Expr) (f : PSt -> Option Bool) : Prop := PW X e (tQ X.K κ f)
noncomputable abbrev QVA (X : Cx) (κ : Str -> Addr) (es : List Expr) (f : PSt -> Option (List D)) : Prop := PA X es (tVA X.K κ f)
noncomputable abbrev QPA (X : Cx) (κ : Str -> Addr) (es : List Expr) (f : PSt -> Option (List D)) : Prop := PA X es (tPA X.K κ f)
noncomputable abbrev QO (X : Cx) (κ : Str -> Addr) (e : Option Expr) (f : PSt -> Option (Option Int)) : Prop := PO X e (tO X.K κ f)
noncomputable abbrev QS (X : Cx) (κ : Str -> Addr) (φ : F0) (st : Stmt) (f : PSt -> Option (Fl × PSt)) : Prop := PS X st (tS (φ.fx X.K κ) f)
noncomputable abbrev QSs (X : Cx) (κ : Str -> Addr) (φ : F0) (st : List Stmt) (f : PSt -> Option (Fl × PSt)) : Prop := PSs X st (tS (φ.fx X.K κ) f)
noncomputable abbrev QE (X : Cx) (κ : Str -> Addr) (φ : F0) (e : Expr) (f : PSt -> Option (D × PSt)) : Prop := PE X e (tE (φ.fx X.K κ) f)
noncomputable abbrev QTE (X : Cx) (κ : Str -> Addr) (φ : F0) (e : Expr) (f : PSt -> Option (Bool × PSt)) : Prop := PT X e (tTE (φ.fx X.K κ) f)
noncomputable abbrev QIV (X : Cx) (κ : Str -> Addr) (tg iter : Expr) (f : PSt -> Option (List D)) : Prop := PI X tg iter (tIV X.K κ f)
noncomputable abbrev QIP (X : Cx) (κ : Str -> Addr) (tg iter : Expr) (f : PSt -> Option (List D)) : Prop := PI X tg iter (tIP X.K κ f)
section
variable {X : Cx} {pos : Pos}
theorem zw1 {i : Nat} {x : Str} (hN : X.N.Nodup) (hi : X.N[i]? = some x) (hx : Loc X.env.scope x) (hf : X.fn x = true \/ X.env.scope.names.lookup x = some .local := by first | exact .inl rfl | exact .inr rfl | assumption) : PG X (.Name x pos) (yc2 i) := by with_unfolding_all exact L2.zw1 hN hi hx hf
end
section
variable {X : Cx} {pos : Pos}
theorem xd5 : PGs X [] wm2 := by with_unfolding_all exact L2.xd5
end
section
variable {X : Cx} {pos : Pos}
theorem yd0 {e : Expr} {es : List Expr} {t : TG} {u : TGs} (h1 : PG X e t) (h2 : PGs X es u)
    (hs : (assignEach (e :: es) X.env).map (·.2) = assign e X.env :: (assignEach es X.env).map (·.2) := by rfl) : PGs X (e :: es) (xz5 t u) := by with_unfolding_all exact L2.yd0 h1 h2 hs
end
section
variable {X : Cx} {κ : Str -> Addr} {e a b : Expr} {f fa fb : PSt -> Option D}
theorem QP.v (h : QP X κ e f) : QV X κ e f := by with_unfolding_all exact L2.QP.v h
end
section
variable {X : Cx} {κ : Str -> Addr} {e a b : Expr} {f fa fb : PSt -> Option D}
theorem QV.p (h : QV X κ e f) : QP X κ e (zc0 f) := by with_unfolding_all exact L2.QV.p h
end
section
variable {X : Cx} {κ : Str -> Addr} {e a b : Expr} {f fa fb : PSt -> Option D}
theorem za2 (i : Nat) {x : Str} {pos : Pos} (hN : X.N[i]? = some x := by rfl) (hv : Vis X.env.scope x := by first | exact Or.inl rfl | exact Or.inr (Or.inl rfl) | exact Or.inr (Or.inr rfl)) (hd : (x == ("__debug__" : Str)) = false := by decide)
    (hcd : (x == ("__classdict__" : Str)) = false := by decide) : QV X κ (.Name x pos) (za0 i) := by with_unfolding_all exact L2.za2 i hN hv hd hcd
end
section
variable {X : Cx} {κ : Str -> Addr} {e a b : Expr} {f fa fb : PSt -> Option D}
theorem za6 {i j pos} : QP X κ (.Constant (.int i) j pos) (fC (.int i)) := by with_unfolding_all exact L2.za6
end
section
variable {X : Cx} {κ : Str -> Addr} {e a b : Expr} {f fa fb : PSt -> Option D}
theorem zf9 {x j pos} : QP X κ (.Constant (.str x) j pos) (fC (.str x)) := by with_unfolding_all exact L2.zf9
end
section
variable {X : Cx} {κ : Str -> Addr} {e a b : Expr} {f fa fb : PSt -> Option D}
theorem zs3 {b j pos} : QP X κ (.Constant (.bool b) j pos) (fC (.bl b)) := by with_unfolding_all exact L2.zs3
end
section
variable {X : Cx} {κ : Str -> Addr} {e a b : Expr} {f fa fb : PSt -> Option D}
theorem yl2 {j pos} : QP X κ (.Constant .none j pos) (fC .non) := by with_unfolding_all exact L2.yl2
end
section
variable {X : Cx} {κ : Str -> Addr} {e a b : Expr} {f fa fb : PSt -> Option D}
theorem xe2 {x : Str} {v : V} {u : Value} {d : D} {pos : Pos} (hg : Gl X x) (hm : X.mg x = some u) (r : zh6 v u) (hd : ∀ H, Rep X.K κ H v d []) (hdb : (x == ("__debug__" : Str)) = false := by decide) : QP X κ (.Name x pos) (fC d) := by with_unfolding_all exact L2.xe2 hg hm r hd hdb
end
section
variable {X : Cx} {κ : Str -> Addr} {e a b : Expr} {f fa fb : PSt -> Option D}
theorem zd2 {op : Operator} {g : D -> D -> Option D} {pos : Pos} (ho : OpR X (binaryOp op) (POp X.K κ g)) (ha : QV X κ a fa) (hb : QV X κ b fb) : QP X κ (.BinOp a op b pos) (f2 g fa fb) := by with_unfolding_all exact L2.zd2 ho ha hb
end
section
variable {X : Cx} {κ : Str -> Addr} {e a b : Expr} {f fa fb : PSt -> Option D}
theorem yb6 {op : CmpOp} {g : D -> D -> Option D} {pos : Pos} (ho : OpR X (compareOp op) (POp X.K κ g)) (ha : QV X κ a fa) (hb : QV X κ b fb) (hm : behindInMarks op b = false) : QP X κ (.Compare a [op] [b] pos) (f2 g fa fb) := by with_unfolding_all exact L2.yb6 ho ha hb hm
end
section
variable {X : Cx} {κ : Str -> Addr} {e a b : Expr} {f fa fb : PSt -> Option D}
theorem zf4 {op : CmpOp} {g : D -> D -> Option D} {pos : Pos} (ho : OpR X (compareOp op) (POp X.K κ g)) (ha : QV X κ a fa) (hb : QV X κ b fb) (hm : behindInMarks op b = false) : QT X κ (.Compare a [op] [b] pos) (fB (f2 g fa fb)) := by with_unfolding_all exact L2.zf4 ho ha hb hm
end
section
variable {X : Cx} {κ : Str -> Addr} {e a b : Expr} {f fa fb : PSt -> Option D}
theorem zr7 (ha : QV X κ a fa) (he : ∀ whole, isTrue a X.env whole = (do let v <- whole; standAt a.pos; holding [v] (truthy v)) := by intro _; rfl) : QT X κ a (fT fa) := by with_unfolding_all exact L2.zr7 ha he
end
section
variable {X : Cx} {κ : Str -> Addr} {e a b : Expr} {f fa fb : PSt -> Option D}
variable {pos : Pos} {zd5 : List Expr} {ta tb : PSt -> Option Bool}
theorem zr4 (ha : QT X κ a ta) : QW X κ (.BoolOp .And [a] pos) ta := by with_unfolding_all exact L2.zr4 ha
end
section
variable {X : Cx} {κ : Str -> Addr} {e a b : Expr} {f fa fb : PSt -> Option D}
variable {pos : Pos} {zd5 : List Expr} {ta tb : PSt -> Option Bool}
theorem yz1 (ha : QT X κ a ta) : QW X κ (.BoolOp .Or [a] pos) ta := by with_unfolding_all exact L2.yz1 ha
end
section
variable {X : Cx} {κ : Str -> Addr} {e a b : Expr} {f fa fb : PSt -> Option D}
variable {pos : Pos} {zd5 : List Expr} {ta tb : PSt -> Option Bool}
theorem zs7 (ha : QT X κ a ta) (hb : QW X κ (.BoolOp .And (b :: zd5) pos) tb) : QW X κ (.BoolOp .And (a :: b :: zd5) pos) (zf8 ta tb) := by with_unfolding_all exact L2.zs7 ha hb
end
section
variable {X : Cx} {κ : Str -> Addr} {e a b : Expr} {f fa fb : PSt -> Option D}
variable {pos : Pos} {zd5 : List Expr} {ta tb : PSt -> Option Bool}
theorem xk3 (ha : QT X κ a ta) (hb : QW X κ (.BoolOp .Or (b :: zd5) pos) tb) : QW X κ (.BoolOp .Or (a :: b :: zd5) pos) (zk8 ta tb) := by with_unfolding_all exact L2.xk3 ha hb
end
section
variable {X : Cx} {κ : Str -> Addr} {e a b : Expr} {f fa fb : PSt -> Option D}
variable {pos : Pos} {zd5 : List Expr} {ta tb : PSt -> Option Bool}
theorem ya5 (h : QW X κ a ta) : QT X κ a ta := by with_unfolding_all exact L2.ya5 h
end
section
variable {X : Cx} {κ : Str -> Addr} {e a b : Expr} {f fa fb : PSt -> Option D}
variable {pos : Pos} {zd5 : List Expr} {ta tb : PSt -> Option Bool}
theorem yf0 (ha : QT X κ a ta) : QT X κ (.UnaryOp .Not a pos) (zh4 ta) := by with_unfolding_all exact L2.yf0 ha
end
section
variable {X : Cx} {κ : Str -> Addr} {e a b : Expr} {f fa fb : PSt -> Option D}
variable {pos : Pos} {zd5 : List Expr} {ta tb : PSt -> Option Bool}
theorem yp7 {op} (h : QP X κ a fa) : QP X κ (.BoolOp op [a] pos) fa := by with_unfolding_all exact L2.yp7 h
end
section
variable {X : Cx} {κ : Str -> Addr} {e a b : Expr} {f fa fb : PSt -> Option D}
variable {pos : Pos} {zd5 : List Expr} {ta tb : PSt -> Option Bool}
theorem yz2 (ha : QP X κ a fa) (hb : QP X κ (.BoolOp .And (b :: zd5) pos) fb) : QP X κ (.BoolOp .And (a :: b :: zd5) pos) (yi1 fa fb) := by with_unfolding_all exact L2.yz2 ha hb
end
section
variable {X : Cx} {κ : Str -> Addr} {e a b : Expr} {f fa fb : PSt -> Option D}
variable {pos : Pos} {zd5 : List Expr} {ta tb : PSt -> Option Bool}
theorem xx1 (ha : QP X κ a fa) (hb : QP X κ (.BoolOp .Or (b :: zd5) pos) fb) : QP X κ (.BoolOp .Or (a :: b :: zd5) pos) (fOr fa fb) := by with_unfolding_all exact L2.xx1 ha hb
end
section
variable {X : Cx} {κ : Str -> Addr} {e a b : Expr} {f fa fb : PSt -> Option D}
variable {pos : Pos} {zd5 : List Expr} {ta tb : PSt -> Option Bool}
theorem yb8 (ha : QV X κ a fa) : QP X κ (.UnaryOp .USub a pos) (zk3 fa) := by with_unfolding_all exact L2.yb8 ha
end
section
variable {X : Cx} {κ : Str -> Addr}
theorem zl1 : OpR X (binaryOp .Add) (POp X.K κ zc9) := by with_unfolding_all exact L2.zl1
end
section
variable {X : Cx} {κ : Str -> Addr}
theorem yj0 : OpR X (binaryOp .Sub) (POp X.K κ zl7) := by with_unfolding_all exact L2.yj0
end
section
variable {X : Cx} {κ : Str -> Addr}
theorem yg7 : OpR X (binaryOp .Mult) (POp X.K κ zq1) := by with_unfolding_all exact L2.yg7
end
section
variable {X : Cx} {κ : Str -> Addr}
theorem zl5 : OpR X (binaryOp .Mod) (POp X.K κ zh1) := by with_unfolding_all exact L2.zl5
end
section
variable {X : Cx} {κ : Str -> Addr}
theorem zv2 : OpR X (binaryOp .FloorDiv) (POp X.K κ zl8) := by with_unfolding_all exact L2.zv2
end
section
variable {X : Cx} {κ : Str -> Addr}
theorem yz3 : OpR X (binaryOp .Pow) (POp X.K κ yr7) := by with_unfolding_all exact L2.yz3
end
section
variable {X : Cx} {κ : Str -> Addr}
theorem yf6 (hu : X.A.units < cLine) : OpR X (compareOp .Lt) (POp X.K κ dLt) := by with_unfolding_all exact L2.yf6 hu
end
section
variable {X : Cx} {κ : Str -> Addr}
theorem xx3 : OpR X (compareOp .LtE) (POp X.K κ dLe) := by with_unfolding_all exact L2.xx3
end
section
variable {X : Cx} {κ : Str -> Addr}
theorem yv8 : OpR X (compareOp .Gt) (POp X.K κ dGt) := by with_unfolding_all exact L2.yv8
end
section
variable {X : Cx} {κ : Str -> Addr}
theorem xx4 : OpR X (compareOp .GtE) (POp X.K κ dGe) := by with_unfolding_all exact L2.xx4
end
section
variable {X : Cx} {κ : Str -> Addr}
theorem zn5 (hu : X.A.units + 64 < cLine) : OpR X (compareOp .Eq) (POp X.K κ dEq) := by with_unfolding_all exact L2.zn5 hu
end
section
variable {X : Cx} {κ : Str -> Addr}
theorem xm4 (hu : X.A.units + 64 < cLine) : OpR X (compareOp .NotEq) (POp X.K κ dNe) := by with_unfolding_all exact L2.xm4 hu
end
section
variable {X : Cx} {κ : Str -> Addr}
theorem xx5 : OpR X (compareOp .Is) (POp X.K κ dIs) := by with_unfolding_all exact L2.xx5
end
section
variable {X : Cx} {κ : Str -> Addr}
theorem wj0 : OpR X (compareOp .In) (POp X.K κ dIn) := by with_unfolding_all exact L2.wj0
end
section
variable {X : Cx} {κ : Str -> Addr} {e a b : Expr} {es : List Expr} {f fa fb : PSt -> Option D} {g : PSt -> Option (List D)} {pos p2 : Pos}
theorem zc6 : QVA X κ [] za3 := by with_unfolding_all exact L2.zc6
end
section
variable {X : Cx} {κ : Str -> Addr} {e a b : Expr} {es : List Expr} {f fa fb : PSt -> Option D} {g : PSt -> Option (List D)} {pos p2 : Pos}
theorem zb0 (ha : QV X κ e f) (hr : QVA X κ es g) (hs : starEach (e :: es) X.env = (false, eval e X.env) :: starEach es X.env := by rfl) : QVA X κ (e :: es) (za1 f g) := by with_unfolding_all exact L2.zb0 ha hr hs
end
section
variable {X : Cx} {κ : Str -> Addr} {e a b : Expr} {es : List Expr} {f fa fb : PSt -> Option D} {g : PSt -> Option (List D)} {pos p2 : Pos}
theorem ze4 : QPA X κ [] za3 := by with_unfolding_all exact L2.ze4
end
section
variable {X : Cx} {κ : Str -> Addr} {e a b : Expr} {es : List Expr} {f fa fb : PSt -> Option D} {g : PSt -> Option (List D)} {pos p2 : Pos}
theorem zc1 (ha : QP X κ e f) (hr : QPA X κ es g) (hs : starEach (e :: es) X.env = (false, eval e X.env) :: starEach es X.env := by rfl) : QPA X κ (e :: es) (za1 f g) := by with_unfolding_all exact L2.zc1 ha hr hs
end
section
variable {X : Cx} {κ : Str -> Addr} {e a b : Expr} {es : List Expr} {f fa fb : PSt -> Option D} {g : PSt -> Option (List D)} {pos p2 : Pos}
theorem zp2 {x1} (h : QPA X κ es g) : QP X κ (.Tuple es x1 pos) (zh9 g) := by with_unfolding_all exact L2.zp2 h
end
section
variable {X : Cx} {κ : Str -> Addr} {e a b : Expr} {es : List Expr} {f fa fb : PSt -> Option D} {g : PSt -> Option (List D)} {pos p2 : Pos}
theorem zj0 (h : QPA X κ es g) : QP X κ (.List es pos) (ze2 g) := by with_unfolding_all exact L2.zj0 h
end
section
variable {X : Cx} {κ : Str -> Addr} {e a b : Expr} {es : List Expr} {f fa fb : PSt -> Option D} {g : PSt -> Option (List D)} {pos p2 : Pos}
theorem zd0 (ha : QV X κ a fa) (hb : QV X κ b fb) (hs : ye1 b := by exact fun _ _ => rfl) : QV X κ (.Subscript a b pos) (f2 dIx fa fb) := by with_unfolding_all exact L2.zd0 ha hb hs
end
section
variable {X : Cx} {κ : Str -> Addr} {e a b : Expr} {es : List Expr} {f fa fb : PSt -> Option D} {g : PSt -> Option (List D)} {pos p2 : Pos}
theorem yg8 (ha : QP X κ a fa) (hb : QV X κ b fb) (hs : ye1 b := by exact fun _ _ => rfl) : QP X κ (.Subscript a b pos) (f2 dIx fa fb) := by with_unfolding_all exact L2.yg8 ha hb hs
end
section
variable {X : Cx} {κ : Str -> Addr} {e a b : Expr} {es : List Expr} {f fa fb : PSt -> Option D} {g : PSt -> Option (List D)} {pos p2 : Pos}
theorem xe4 : QO X κ none zw3 := by with_unfolding_all exact L2.xe4
end
section
variable {X : Cx} {κ : Str -> Addr} {e a b : Expr} {es : List Expr} {f fa fb : PSt -> Option D} {g : PSt -> Option (List D)} {pos p2 : Pos}
theorem xe5 (h : QV X κ e f) : QO X κ (some e) (ye7 f) := by with_unfolding_all exact L2.xe5 h
end
section
variable {X : Cx} {κ : Str -> Addr} {e a b : Expr} {es : List Expr} {f fa fb : PSt -> Option D} {g : PSt -> Option (List D)} {pos p2 : Pos}
theorem yv9 {lo hi : Option Expr} {fl fh : PSt -> Option (Option Int)} (he : QV X κ e f) (hl : QO X κ lo fl) (hh : QO X κ hi fh) : QP X κ (.Subscript e (.Slice lo hi none p2) pos) (fSl f fl fh) := by with_unfolding_all exact L2.yv9 he hl hh
end
section
variable {X : Cx} {κ : Str -> Addr} {e a b : Expr} {es : List Expr} {f fa fb : PSt -> Option D} {g : PSt -> Option (List D)} {pos p2 : Pos}
theorem zk7 {x : Str} {id : String} {p : Pos} {h : List D -> Option D} (hc : zn9 X (.builtin id) (PCl X.K κ h)) (hg : Gl X x) (hm : X.mg x = none) (hv : bootBuiltins x = some (.builtin id)) (ha : QVA X κ (e :: es) g) (hn : x ≠ "__name__" := by decide) (hdb : (x == ("__debug__" : Str)) = false := by decide)
    (hs : starEach (e :: es) X.env = (false, eval e X.env) :: starEach es X.env := by rfl) (hpl : (backTo pos (starEach es X.env)).any (·.1) = false := by rfl) : QP X κ (.Call (.Name x p) (e :: es) [] pos) (za4 h g) := by with_unfolding_all exact L2.zk7 hc hg hm hv ha hn hdb hs hpl
end
section
variable {X : Cx} {κ : Str -> Addr} {e a b : Expr} {es : List Expr} {f fa fb : PSt -> Option D} {g : PSt -> Option (List D)} {pos p2 : Pos}
theorem zp3 {x : Str} {T : String} {p : Pos} {h : List D -> Option D} (hc : zn9 X (.type T) (PCl X.K κ h)) (hg : Gl X x) (hm : X.mg x = none) (hv : bootBuiltins x = some (.type T)) (ha : QVA X κ (e :: es) g) (hn : x ≠ "__name__" := by decide) (hdb : (x == ("__debug__" : Str)) = false := by decide)
    (hs : starEach (e :: es) X.env = (false, eval e X.env) :: starEach es X.env := by rfl) (hpl : (backTo pos (starEach es X.env)).any (·.1) = false := by rfl) : QP X κ (.Call (.Name x p) (e :: es) [] pos) (za4 h g) := by with_unfolding_all exact L2.zp3 hc hg hm hv ha hn hdb hs hpl
end
section
variable {X : Cx} {κ : Str -> Addr} {e a b : Expr} {es : List Expr} {f fa fb : PSt -> Option D} {g : PSt -> Option (List D)} {pos p2 : Pos}
theorem zs8 : zn9 X (.builtin "len") (PCl X.K κ zd7) := by with_unfolding_all exact L2.zs8
end
section
variable {X : Cx} {κ : Str -> Addr} {e a b : Expr} {es : List Expr} {f fa fb : PSt -> Option D} {g : PSt -> Option (List D)} {pos p2 : Pos}
theorem xm6 (hc : X.calm = true) : zn9 X (.builtin "min") (PCl X.K κ yj5) := by with_unfolding_all exact L2.xm6 hc
end
section
variable {X : Cx} {κ : Str -> Addr} {e a b : Expr} {es : List Expr} {f fa fb : PSt -> Option D} {g : PSt -> Option (List D)} {pos p2 : Pos}
theorem zw2 : zn9 X (.type "tuple") (PCl X.K κ zg8) := by with_unfolding_all exact L2.zw2
end
section
variable {X : Cx} {κ : Str -> Addr} {e a b : Expr} {es : List Expr} {f fa fb : PSt -> Option D} {g : PSt -> Option (List D)} {pos p2 : Pos}
theorem xx6 : zn9 X (.type "int") (PCl X.K κ yc3) := by with_unfolding_all exact L2.xx6
end
section
variable {X : Cx} {κ : Str -> Addr} {e a b : Expr} {es : List Expr} {f fa fb : PSt -> Option D} {g : PSt -> Option (List D)} {pos p2 : Pos}
theorem yz4 {name : Str} {id : String} {apos : Pos} {h : D -> List D -> Option D} (slot : Slot "str" name id) (hty : typeOf (.builtin id) = pure (.type "method_descriptor")) (hm : MtR X id (PMt X.K κ h)) (ho : QV X κ a fa) (ha : QVA X κ (e :: es) g)
    (hbase : attributeBase a name X.env (eval a X.env) = eval a X.env := by rfl)
    (hfew : ((backTo pos (starEach (e :: es) X.env)).all (fun x => !x.1) && (backToKw pos (keywordEach [] X.env)).all (fun x => x.1.isSome)
      && decide ((e :: es).length + ([] : List Keyword).length + (if ([] : List Keyword).isEmpty then 0 else 1) < 30)) = true := by rfl)
    (hline : (apos.endLine == pos.line) = true := by rfl) (hs : starEach (e :: es) X.env = (false, eval e X.env) :: starEach es X.env := by rfl) (hplain : (backTo pos (starEach es X.env)).any (·.1) = false := by rfl) :
    QP X κ (.Call (.Attribute a name apos) (e :: es) [] pos) (fMt h fa g) := by with_unfolding_all exact L2.yz4 slot hty hm ho ha hbase hfew hline hs hplain
end
section
variable {X : Cx} {κ : Str -> Addr} {e a b : Expr} {es : List Expr} {f fa fb : PSt -> Option D} {g : PSt -> Option (List D)} {pos p2 : Pos}
theorem xm7 : MtR X "str.join" (PMt X.K κ yt7) := by with_unfolding_all exact L2.xm7
end
section
variable {X : Cx} {κ : Str -> Addr} {φ : F0} {st : Stmt} {zd5 : List Stmt} {f g : PSt -> Option (Fl × PSt)} {pos : Pos}
theorem ze6 : QSs X κ φ [] zc3 := by with_unfolding_all exact L2.ze6
end
section
variable {X : Cx} {κ : Str -> Addr} {φ : F0} {st : Stmt} {zd5 : List Stmt} {f g : PSt -> Option (Fl × PSt)} {pos : Pos}
theorem zb6 (h : QS X κ φ st f) : QSs X κ φ [st] f := by with_unfolding_all exact L2.zb6 h
end
section
variable {X : Cx} {κ : Str -> Addr} {φ : F0} {st : Stmt} {zd5 : List Stmt} {f g : PSt -> Option (Fl × PSt)} {pos : Pos}
theorem zb2 (h1 : QS X κ φ st f) (h2 : QSs X κ φ zd5 g) : QSs X κ φ (st :: zd5) (zb3 f g) := by with_unfolding_all exact L2.zb2 h1 h2
end
section
variable {X : Cx} {κ : Str -> Addr} {φ : F0} {st : Stmt} {zd5 : List Stmt} {f g : PSt -> Option (Fl × PSt)} {pos : Pos}
theorem yd1 : QS X κ φ st ym3 := by with_unfolding_all exact L2.yd1
end
section
variable {X : Cx} {κ : Str -> Addr} {φ : F0} {st : Stmt} {zd5 : List Stmt} {f g : PSt -> Option (Fl × PSt)} {pos : Pos}
theorem QP.e {e : Expr} {f : PSt -> Option D} (h : PE X e (tP X.K κ f)) : QE X κ φ e (za5 f) := by with_unfolding_all exact L2.QP.e h
end
section
variable {X : Cx} {κ : Str -> Addr} {φ : F0} {st : Stmt} {zd5 : List Stmt} {f g : PSt -> Option (Fl × PSt)} {pos : Pos}
theorem QT.e {e : Expr} {f : PSt -> Option Bool} (h : PT X e (tQ X.K κ f)) : QTE X κ φ e (za8 f) := by with_unfolding_all exact L2.QT.e h
end
section
variable {X : Cx} {κ : Str -> Addr} {φ : F0} {st : Stmt} {zd5 : List Stmt} {f g : PSt -> Option (Fl × PSt)} {pos : Pos}
theorem zg0 (i : Nat) {x : Str} {e : Expr} {pos' : Pos} {f : PSt -> Option (D × PSt)} (hN : X.N.Nodup) (hi : X.N[i]? = some x) (hx : Loc X.env.scope x) (hb : φ.bor i = false) (hm : φ.M i = false) (he : QE X κ φ e f) (hs : swapsWith e (some (.Name x pos')) pos.line X.env = pure false := by rfl) (hf : X.fn x = true \/ X.env.scope.names.lookup x = some .local := by first | exact .inl rfl | exact .inr rfl | assumption) :
    QS X κ φ (.Assign [.Name x pos'] e pos) (zb9 i f) := by with_unfolding_all exact L2.zg0 i hN hi hx hb hm he hs hf
end
section
variable {X : Cx} {κ : Str -> Addr} {φ : F0} {st : Stmt} {zd5 : List Stmt} {f g : PSt -> Option (Fl × PSt)} {pos : Pos}
theorem zl2 {e : Expr} {f : PSt -> Option (D × PSt)} (he : QE X κ φ e f) (hs : swapsWith e none pos.line X.env = pure false := by rfl) : QS X κ φ (.Expr e pos) (zc2 f) := by with_unfolding_all exact L2.zl2 he hs
end
section
variable {X : Cx} {κ : Str -> Addr} {φ : F0} {st : Stmt} {zd5 : List Stmt} {f g : PSt -> Option (Fl × PSt)} {pos : Pos}
theorem zg1 {e : Expr} {f : PSt -> Option (D × PSt)} (he : QE X κ φ e f) : QS X κ φ (.Return (some e) pos) (zd4 f) := by with_unfolding_all exact L2.zg1 he
end
section
variable {X : Cx} {κ : Str -> Addr} {φ : F0} {st : Stmt} {zd5 : List Stmt} {f g : PSt -> Option (Fl × PSt)} {pos : Pos}
theorem yl5 (i : Nat) {x : Str} {p : Pos} (hb : φ.bor i = false) (hN : X.N[i]? = some x := by rfl) (hv : Vis X.env.scope x := by first | exact Or.inl rfl | exact Or.inr (Or.inl rfl) | exact Or.inr (Or.inr rfl)) (hd : (x == ("__debug__" : Str)) = false := by decide)
    (hcd : (x == ("__classdict__" : Str)) = false := by decide) : QS X κ φ (.Return (some (.Name x p)) pos) (zk4 i) := by with_unfolding_all exact L2.yl5 i hb hN hv hd hcd
end
section
variable {X : Cx} {κ : Str -> Addr} {φ : F0} {st : Stmt} {zd5 : List Stmt} {f g : PSt -> Option (Fl × PSt)} {pos : Pos}
theorem zg4 {c : Expr} {a b : List Stmt} {tc : PSt -> Option (Bool × PSt)} (hc : QTE X κ φ c tc) (ha : QSs X κ φ a f) (hb : QSs X κ φ b g) : QS X κ φ (.If c a b pos) (fIf tc f g) := by with_unfolding_all exact L2.zg4 hc ha hb
end
section
variable {X : Cx} {φ : Fx} {pos : Pos} {body : List Stmt} {f : PSt -> Option (Fl × PSt)}
theorem yw1 {κ : Str -> Addr} {φ : F0} (n : Nat) {c : Expr} {tc : PSt -> Option (Bool × PSt)} (hp : PassesOwn (model X.prog X.w) X.A X.env X.xe) (hc : QTE X κ φ c tc) (hb : QSs X κ φ body f) : QS X κ φ (.While c body [] pos) (zv9 tc f n) := by with_unfolding_all exact L2.yw1 n hp hc hb
end
section
theorem QIP.v {X : Cx} {κ : Str -> Addr} {tg iter : Expr} {f : PSt -> Option (List D)} (h : QIP X κ tg iter f) : QIV X κ tg iter f := by with_unfolding_all exact L2.QIP.v h
end
section
variable {X : Cx} {κ : Str -> Addr} {tg l a b : Expr} {f : PSt -> Option D} {g : PSt -> Option (List D)} {p pos : Pos}
theorem yb1 (hg : Gl X "range") (hm : X.mg "range" = none) (ha : QVA X κ [a] g) (hs : starEach [a] X.env = [(false, eval a X.env)] := by rfl) : QIP X κ tg (.Call (.Name "range" p) [a] [] pos) (zt3 g) := by with_unfolding_all exact L2.yb1 hg hm ha hs
end
section
variable {X : Cx} {κ : Str -> Addr} {tg l a b : Expr} {f : PSt -> Option D} {g : PSt -> Option (List D)} {p pos : Pos}
theorem yp8 (hg : Gl X "range") (hm : X.mg "range" = none) (ha : QVA X κ [a, b] g) (hs : starEach [a, b] X.env = [(false, eval a X.env), (false, eval b X.env)] := by rfl) (hs2 : starEach [b] X.env = [(false, eval b X.env)] := by rfl) : QIP X κ tg (.Call (.Name "range" p) [a, b] [] pos) (yu0 g) := by with_unfolding_all exact L2.yp8 hg hm ha hs hs2
end
section
variable {X : Cx} {κ : Str -> Addr} {tg l a b : Expr} {f : PSt -> Option D} {g : PSt -> Option (List D)} {p pos : Pos}
theorem xm8 (h : QV X κ l f) : QIV X κ tg l (zq7 f) := by with_unfolding_all exact L2.xm8 h
end
section
variable {X : Cx} {φ : Fx} {pos : Pos} {body : List Stmt} {f : PSt -> Option (Fl × PSt)}
theorem yl6 {κ : Str -> Addr} {φ : F0} (i : Nat) {x : Str} {px : Pos} {iter : Expr} {fi : PSt -> Option (List D)} (hp : PassesOwn (model X.prog X.w) X.A X.env X.xe) (hc : X.calm = true) (hN : X.N.Nodup) (hi : X.N[i]? = some x) (hx : Loc X.env.scope x) (hb : φ.bor i = false) (hm : φ.M i = false)
    (hit : PI X (.Name x px) iter (tIP X.K κ fi)) (hbd : QSs X κ φ body f) (hs : ∀ x, foldedSetIterable iter X.env x = pure x := by intro _; rfl) (hf : X.fn x = true \/ X.env.scope.names.lookup x = some .local := by first | exact .inl rfl | exact .inr rfl | assumption) :
    QS X κ φ (.For (.Name x px) iter body [] pos) (zu6 i fi f) := by with_unfolding_all exact L2.yl6 i hp hc hN hi hx hb hm hit hbd hs hf
end
section
variable {X : Cx} {φ : Fx} {pos : Pos} {body : List Stmt} {f : PSt -> Option (Fl × PSt)}
theorem ys9 {κ : Str -> Addr} {φ : F0} (i j : Nat) {x y : Str} {px py : Pos} (hp : PassesOwn (model X.prog X.w) X.A X.env X.xe) (hc : X.calm = true) (hN : X.N.Nodup) (hi : X.N[i]? = some x) (hx : Loc X.env.scope x) (hb : φ.bor i = false) (hm : φ.M i = false) (hj : φ.bor j = true)
    (hbd : QSs X κ φ body f) (hNj : X.N[j]? = some y := by rfl) (hv : Vis X.env.scope y := by first | exact Or.inl rfl | exact Or.inr (Or.inl rfl) | exact Or.inr (Or.inr rfl)) (hd : (y == ("__debug__" : Str)) = false := by decide)
    (hcd : (y == ("__classdict__" : Str)) = false := by decide) (hs : ∀ x, foldedSetIterable (.Name y py) X.env x = pure x := by intro _; rfl) (hf : X.fn x = true \/ X.env.scope.names.lookup x = some .local := by first | exact .inl rfl | exact .inr rfl | assumption) :
    QS X κ φ (.For (.Name x px) (.Name y py) body [] pos) (zu6 i (zq7 (za0 j)) f) := by with_unfolding_all exact L2.ys9 i j hp hc hN hi hx hb hm hj hbd hNj hv hd hcd hs hf
end
section
variable {P : Program} {w : World} {K : PySem.W.Frag} {mg : Str -> Option Value} {base : Heap} {κ : Str -> Addr}
theorem zk0 {x qual : Str} {st : Stmt} {f : Addr} {fd : FuncData} {N ps : List Str} {k : Nat} {fb : PSt -> Option (Fl × PSt)} (F : Fun K x qual st f fd) (S : FnScope N ps (zb4 st))
    (hbody : ∀ (cdv : Value) (A : Around) (outer : List Env) (s : Shared) (H : Hp) (E : XK) (B : Nat -> Addr -> Prop), Room k (A.deeper (envOfC qual (zb4 st) s.heap.objs.size f cdv)) ->
      QSs (yk5 CX0 P w K mg base N qual (zb4 st) f cdv A outer s H E).nox κ (f0P ps.length B) (ze7 st) fb) :
    FnOk P w K mg base CX0 (k + 1) f fd ps (SpP ps.length K κ (gP ps.length (N.length - ps.length) fb)) := by with_unfolding_all exact L2.zk0 F S hbody
end
section
variable {X : Cx} {κ : Str -> Addr} {e : Expr} {es : List Expr} {g : PSt -> Option (List D)} {pos p : Pos}
theorem zi4 {x : Str} {st : Stmt} {ps : List Str} {f : Addr} {fd : FuncData} {k np : Nat} {h : List D -> Option D} (Dd : Dn X.K X.mg x st ps f fd) (G : FnOk X.prog X.w X.K X.mg X.base CX0 k f fd ps (SpP np X.K κ h)) (hr : Room k X.A) (hg : Gl X x) (hnp : (e :: es).length = np) (ha : QVA X κ (e :: es) g)
    (hlen : ∀ ps ds, g ps = some ds -> ds.length = (e :: es).length)
    (hdb : (x == ("__debug__" : Str)) = false := by decide) (he : starEach (e :: es) X.env = (false, eval e X.env) :: starEach es X.env := by rfl) (hpl : (backTo pos (starEach es X.env)).any (·.1) = false := by rfl) :
    QP X κ (.Call (.Name x p) (e :: es) [] pos) (za4 h g) := by with_unfolding_all exact L2.zi4 Dd G hr hg hnp ha hlen hdb he hpl
end
section
variable {X : Cx} {κ : Str -> Addr} {e : Expr} {es : List Expr} {g : PSt -> Option (List D)} {pos p : Pos}
theorem xn0 {x : Str} {st : Stmt} {ps : List Str} {f : Addr} {fd : FuncData} {k : Nat} {h : List D -> Option D} (Dd : Dn X.K X.mg x st ps f fd) (G : FnOk X.prog X.w X.K X.mg X.base CX0 k f fd ps (SpP 0 X.K κ h)) (hr : Room k X.A) (hg : Gl X x)
    (hdb : (x == ("__debug__" : Str)) = false := by decide) : QP X κ (.Call (.Name x p) [] [] pos) (za4 h za3) := by with_unfolding_all exact L2.xn0 Dd G hr hg hdb
end
section
variable {X : Cx} {κ : Str -> Addr} {sc : Scope} {NX N : List Str} {pick : List (Option Nat)} {elt iter : Expr} {ifs : List Expr} {scope : Scope} {pos px : Pos} {x : Str} {fi : PSt -> Option (List D)} {ft : PSt -> Option Bool} {fe : PSt -> Option D}
theorem yt0 {X : Cx} : PTs X [] (tQ X.K κ yg3) := by with_unfolding_all exact L2.yt0
end
section
variable {X : Cx} {κ : Str -> Addr} {sc : Scope} {NX N : List Str} {pick : List (Option Nat)} {elt iter : Expr} {ifs : List Expr} {scope : Scope} {pos px : Pos} {x : Str} {fi : PSt -> Option (List D)} {ft : PSt -> Option Bool} {fe : PSt -> Option D}
theorem xe6 (S : CScope sc NX N pick scope) (hsc : X.env.scope = sc) (hNX : X.N = NX) (hc : X.calm = true) (hi : QIV X κ (.Name x px) iter fi)
    (hg : ∀ cl fp s H, PG (cxB X N scope cl fp s H) (.Name x px) (yc2 0)) (ht : ∀ cl fp s H, PTs (cxB X N scope cl fp s H) ifs (tQ X.K κ ft)) (he : ∀ cl fp s H, PE (cxB X N scope cl fp s H) elt (tP X.K κ fe))
    (hs : ∀ x, foldedSetIterable iter X.env x = pure x := by intro _; rfl) : QP X κ (.ListComp elt [⟨.Name x px, iter, ifs, 0⟩] scope pos) (ye8 pick fi ft fe) := by with_unfolding_all exact L2.xe6 S hsc hNX hc hi hg ht he hs
end
section
variable {X : Cx} {φ : F0} {κ : Str -> Addr} {K : PySem.W.Frag} {o e a b : Expr} {f fb fe : PSt -> Option D} {g : PSt -> Option (List D)} {pf : PSt -> Option (List Ps1)} {j : Nat} {pos apos : Pos}
theorem zf1 (j : Nat) {x : Str} (hN : X.N[j]? = some x := by rfl) (hv : Vis X.env.scope x := by first | exact Or.inl rfl | exact Or.inr (Or.inl rfl) | exact Or.inr (Or.inr rfl)) (hd : (x == ("__debug__" : Str)) = false := by decide)
    (hcd : (x == ("__classdict__" : Str)) = false := by decide) : PE X (.Name x pos) (zp9 K κ j zb7) := by with_unfolding_all exact L2.zf1 j hN hv hd hcd
end
section
variable {X : Cx} {φ : F0} {κ : Str -> Addr} {K : PySem.W.Frag} {o e a b : Expr} {f fb fe : PSt -> Option D} {g : PSt -> Option (List D)} {pf : PSt -> Option (List Ps1)} {j : Nat} {pos apos : Pos}
theorem zr8 (ha : PE X a (zp9 X.K κ j pf)) (hb : QV X κ b fb) (hs : ye1 b := by exact fun _ _ => rfl) : PE X (.Subscript a b pos) (zp9 X.K κ j (zh7 j pf fb)) := by with_unfolding_all exact L2.zr8 ha hb hs
end
section
variable {X : Cx} {φ : F0} {κ : Str -> Addr} {K : PySem.W.Frag} {o e a b : Expr} {f fb fe : PSt -> Option D} {g : PSt -> Option (List D)} {pf : PSt -> Option (List Ps1)} {j : Nat} {pos apos : Pos}
theorem yq0 {C fn : Str} (hc : Cls X.K (κ C)) (hna : zh0 X.K (κ C) fn) (ha : PE X a (zp9 X.K κ j pf)) (hb : attributeBase a fn X.env (eval a X.env) = eval a X.env := by rfl) : PE X (.Attribute a fn pos) (zp9 X.K κ j (zo0 j pf C fn)) := by with_unfolding_all exact L2.yq0 hc hna ha hb
end
section
variable {X : Cx} {φ : F0} {κ : Str -> Addr} {K : PySem.W.Frag} {o e a b : Expr} {f fb fe : PSt -> Option D} {g : PSt -> Option (List D)} {pf : PSt -> Option (List Ps1)} {j : Nat} {pos apos : Pos}
theorem zr0 (hb : φ.bor j = false) (ho : PE X o (zp9 X.K κ j pf)) (ha : PA X [e] (tPA X.K κ g))
    (hbase : attributeBase o "append" X.env (eval o X.env) = eval o X.env := by rfl)
    (hfew : ((backTo pos (starEach [e] X.env)).all (fun x => !x.1) && (backToKw pos (keywordEach [] X.env)).all (fun x => x.1.isSome)
      && decide ([e].length + ([] : List Keyword).length + (if ([] : List Keyword).isEmpty then 0 else 1) < 30)) = true := by rfl)
    (hline : (apos.endLine == pos.line) = true := by rfl) (hs : starEach [e] X.env = (false, eval e X.env) :: starEach [] X.env := by rfl) (hplain : (backTo pos (starEach [] X.env)).any (·.1) = false := by rfl) :
    QE X κ φ (.Call (.Attribute o "append" apos) [e] [] pos) (zd1 j pf g zc8) := by with_unfolding_all exact L2.zr0 hb ho ha hbase hfew hline hs hplain
end
section
variable {X : Cx} {φ : F0} {κ : Str -> Addr} {K : PySem.W.Frag} {o e a b : Expr} {f fi fe : PSt -> Option D} {g : PSt -> Option (List D)} {pf : PSt -> Option (List Ps1)} {j : Nat} {pos apos : Pos}
theorem xn3 (hb : φ.bor j = false) (ho : PE X o (zp9 X.K κ j pf))
    (hbase : attributeBase o "pop" X.env (eval o X.env) = eval o X.env := by rfl) (hline : (apos.endLine == pos.line) = true := by rfl) : QE X κ φ (.Call (.Attribute o "pop" apos) [] [] pos) (zd1 j pf za3 yi2) := by with_unfolding_all exact L2.xn3 hb ho hbase hline
end
section
variable {X : Cx} {φ : F0} {κ : Str -> Addr} {K : PySem.W.Frag} {o e a b : Expr} {f fi fe : PSt -> Option D} {g : PSt -> Option (List D)} {pf : PSt -> Option (List Ps1)} {j : Nat} {pos apos : Pos}
theorem zx2 {i : Expr} (hb : φ.bor j = false) (he : PE X e (tP X.K κ fe)) (ho : PE X o (zp9 X.K κ j pf)) (hi : PE X i (tV X.K κ fi)) (hs : swapsWithSole [.Subscript o i apos] e pos.line X.env = pure false := by rfl) (hw : swappedStores [.Subscript o i apos] e X.env = pure none := by rfl)
    (h1 : (assignEach [.Subscript o i apos] X.env).map (·.2) = [assign (.Subscript o i apos) X.env] := by rfl)
    (ha : ∀ v, assign (.Subscript o i apos) X.env v = (do
      let ov <- holding [v] (eval o X.env)
      let iv <- holding [v, ov] (eval i X.env)
      standAt apos
      holding [v, ov, iv] (setItem ov iv v)
      release [v, ov, iv] []) := by intro _; rfl) : QS X κ φ (.Assign [.Subscript o i apos] e pos) (zi0 j pf fi fe) := by with_unfolding_all exact L2.zx2 hb he ho hi hs hw h1 ha
end
section
variable {X : Cx} {κ : Str -> Addr} {φ : F0} {es : List Expr} {pos p : Pos} {k : Nat} {is : List Nat} {e : Expr} {f : PSt -> Option (D × PSt)}
theorem yq4 (hc : X.calm = true) (hg : PGs X es (xc1 is)) (he : QE X κ φ e f) (hb : ∀ i ∈ is, φ.bor i = false /\ φ.M i = false) (hn : (assignEach es X.env).length = is.length := by rfl) (hst : (assignEach es X.env).findIdx? (·.1) = none := by rfl)
    (hs : swapsWithSole [.Tuple es k p] e pos.line X.env = pure false := by rfl) (hw : swappedStores [.Tuple es k p] e X.env = pure none := by rfl)
    (h1 : (assignEach [.Tuple es k p] X.env).map (·.2) = [assign (.Tuple es k p) X.env] := by rfl) : QS X κ φ (.Assign [.Tuple es k p] e pos) (yo2 is f) := by with_unfolding_all exact L2.yq4 hc hg he hb hn hst hs hw h1
end
section
variable {P : Program} {w : World} {K : PySem.W.Frag} {mg : Str -> Option Value} {base : Heap} {κ : Str -> Addr}
theorem ya0 {x qual : Str} {st : Stmt} {f : Addr} {fd : FuncData} {N ps : List Str} {k : Nat} {fb : PSt -> Option (Fl × PSt)} {m : Nat -> Bool} (F : Fun K x qual st f fd) (S : FnScope N ps (zb4 st)) (hm : ∀ i, m i = true -> i < ps.length)
    (hbody : ∀ (cdv : Value) (A : Around) (outer : List Env) (s : Shared) (H : Hp) (E : XK), Room k (A.deeper (envOfC qual (zb4 st) s.heap.objs.size f cdv)) ->
      QSs (yk5 CX0 P w K mg base N qual (zb4 st) f cdv A outer s H E).nox κ (f0E ps.length m) (ze7 st) fb) :
    FnOk P w K mg base CX0 (k + 1) f fd ps (SpE ps.length K κ m (gE ps.length (N.length - ps.length) m fb)) := by with_unfolding_all exact L2.ya0 F S hm hbody
end
section
variable {X : Cx} {φ : F0} {κ : Str -> Addr} {e : Expr} {es : List Expr} {as : List L2.Arg} {f : PSt -> Option D} {pos p : Pos}
theorem zj6 : PA X [] (tIO X.K κ []) := by with_unfolding_all exact L2.zj6
end
section
variable {X : Cx} {φ : F0} {κ : Str -> Addr} {e : Expr} {es : List Expr} {as : List L2.Arg} {f : PSt -> Option D} {pos p : Pos}
theorem zt0 (j : Nat) {x : Str} (hr : PA X es (tIO X.K κ as)) (hN : X.N[j]? = some x := by rfl) (hv : Vis X.env.scope x := by first | exact Or.inl rfl | exact Or.inr (Or.inl rfl) | exact Or.inr (Or.inr rfl)) (hd : (x == ("__debug__" : Str)) = false := by decide)
    (hcd : (x == ("__classdict__" : Str)) = false := by decide) (hs : starEach (.Name x pos :: es) X.env = (false, eval (.Name x pos) X.env) :: starEach es X.env := by rfl) : PA X (.Name x pos :: es) (tIO X.K κ (.io j :: as)) := by with_unfolding_all exact L2.zt0 j hr hN hv hd hcd hs
end
section
variable {X : Cx} {φ : F0} {κ : Str -> Addr} {e : Expr} {es : List Expr} {as : List L2.Arg} {f : PSt -> Option D} {pos p : Pos}
theorem zf0 (ha : QV X κ e f) (hr : PA X es (tIO X.K κ as)) (hs : starEach (e :: es) X.env = (false, eval e X.env) :: starEach es X.env := by rfl) : PA X (e :: es) (tIO X.K κ (.im f :: as)) := by with_unfolding_all exact L2.zf0 ha hr hs
end
section
variable {X : Cx} {φ : F0} {κ : Str -> Addr} {e : Expr} {es : List Expr} {as : List L2.Arg} {f : PSt -> Option D} {pos p : Pos}
theorem zw7 {x : Str} {st : Stmt} {ps : List Str} {fa : Addr} {fd : FuncData} {k np : Nat} {m : Nat -> Bool} {g : List D -> Option (D × List D)} (Dd : Dn X.K X.mg x st ps fa fd) (G : FnOk X.prog X.w X.K X.mg X.base CX0 k fa fd ps (SpE np X.K κ m g)) (hr : Room k X.A) (hg : Gl X x) (ha : PA X (e :: es) (tIO X.K κ as))
    (hnp : np = as.length) (hm : m = zx8 as) (nd : (slots as).Nodup) (hb : ∀ j ∈ slots as, φ.bor j = false)
    (hdb : (x == ("__debug__" : Str)) = false := by decide) (he : starEach (e :: es) X.env = (false, eval e X.env) :: starEach es X.env := by rfl) (hpl : (backTo pos (starEach es X.env)).any (·.1) = false := by rfl) :
    QE X κ φ (.Call (.Name x p) (e :: es) [] pos) (fIO as g) := by with_unfolding_all exact L2.zw7 Dd G hr hg ha hnp hm nd hb hdb he hpl
end
section
theorem zy9 {X : Cx} {κ : Str -> Addr} {es : List Expr} {ds : List D} (h : AreD es ds) : QPA X κ es (fKs ds) := by with_unfolding_all exact L2.zy9 h
end
section
variable {X : Cx} {κ : Str -> Addr} {o e : Expr} {C fn : Str} {fo : PSt -> Option D} {pos : Pos}
theorem zn2 (hc : Cls X.K (κ C)) (hna : zh0 X.K (κ C) fn) (ho : QV X κ o fo) (hb : attributeBase o fn X.env (eval o X.env) = eval o X.env := by rfl) : QV X κ (.Attribute o fn pos) (zi8 C fn fo) := by with_unfolding_all exact L2.zn2 hc hna ho hb
end
section
variable {X : Cx} {κ : Str -> Addr} {φ : F0} {o e : Expr} {C fn : Str} {j : Nat} {pf : PSt -> Option (List Ps1)} {fe : PSt -> Option D} {pos pos' : Pos}
theorem zr1 (hc : Cls X.K (κ C)) (hna : zh0 X.K (κ C) fn) (hb : φ.bor j = false) (he : PE X e (tP X.K κ fe)) (ho : PE X o (zp9 X.K κ j pf)) (hs : swapsWith e (some (.Attribute o fn pos')) pos.line X.env = pure false := by rfl) :
    QS X κ φ (.Assign [.Attribute o fn pos'] e pos) (zh5 j pf C fn fe) := by with_unfolding_all exact L2.zr1 hc hna hb he ho hs
end
section
variable {X : Cx} {κ : Str -> Addr} {o e : Expr} {es : List Expr} {C m qual : Str} {st : Stmt} {ps : List Str} {f : Addr} {fd : FuncData} {k np : Nat} {h : List D -> Option D} {fo : PSt -> Option D} {g : PSt -> Option (List D)} {apos pos p : Pos} {pl : Sem Bool}
theorem yw6 (M : Mn X.K κ C m qual st ps f fd) (G : FnOk X.prog X.w X.K X.mg X.base CX0 k f fd ps (SpP 1 X.K κ h)) (hr : Room k X.A) (ho : QV X κ o fo)
    (ht : eval (.Call (.Attribute o m apos) [] [] pos) X.env = (do
      let ov <- eval o X.env
      standAt apos.atName
      let (f, first) <- holding [ov] (getMethod ov m pl)
      callWith pos f first (backTo pos (starEach [] X.env)) (backToKw pos (keywordEach [] X.env))) := by rfl) :
    QP X κ (.Call (.Attribute o m apos) [] [] pos) (za4 h (za1 (zn0 C m fo) za3)) := by with_unfolding_all exact L2.yw6 M G hr ho ht
end
section
variable {X : Cx} {κ : Str -> Addr} {φ : F0} {o e : Expr} {es : List Expr} {C m qual : Str} {st : Stmt} {ps : List Str} {f : Addr} {fd : FuncData} {k np j : Nat} {mk : Nat -> Bool} {g : List D -> Option (D × List D)} {pf : PSt -> Option (List Ps1)} {as : List L2.Arg} {apos pos p : Pos} {pl : Sem Bool}
theorem yd4 (M : Mn X.K κ C m qual st ps f fd) (G : FnOk X.prog X.w X.K X.mg X.base CX0 k f fd ps (SpE np X.K κ mk g)) (hr : Room k X.A) (hb : φ.bor j = false) (ho : PE X o (zp9 X.K κ j pf)) (ha : PA X (e :: es) (tIO X.K κ as)) (has : yu1 as = true) (hnp : np = as.length + 1) (hm : mk = zz3)
    (hst : starEach (e :: es) X.env = (false, eval e X.env) :: starEach es X.env := by rfl) (hpl : (backTo pos (starEach es X.env)).any (·.1) = false := by rfl)
    (ht : eval (.Call (.Attribute o m apos) (e :: es) [] pos) X.env = (do
      let ov <- eval o X.env
      standAt apos.atName
      let (f, first) <- holding [ov] (getMethod ov m pl)
      callWith pos f first (backTo pos (starEach (e :: es) X.env)) (backToKw pos (keywordEach [] X.env))) := by rfl) :
    QE X κ φ (.Call (.Attribute o m apos) (e :: es) [] pos) (zd1 j pf (zc7 as) (zo9 C m g)) := by with_unfolding_all exact L2.yd4 M G hr hb ho ha has hnp hm hst hpl ht
end
section
variable {X : Cx} {κ : Str -> Addr} {e : Expr} {es : List Expr} {C qual : Str} {st : Stmt} {ps : List Str} {f : Addr} {fd : FuncData} {k np : Nat} {mk : Nat -> Bool} {g : List D -> Option (D × List D)} {as : List L2.Arg} {pos p : Pos}
theorem yh1 (Kd : Kn X.K X.mg κ C qual st ps f fd) (G : FnOk X.prog X.w X.K X.mg X.base CX0 k f fd ps (SpE np X.K κ mk g)) (hr : Room (k + 1) X.A) (hg : Gl X C) (ha : PA X (e :: es) (tIO X.K κ as)) (has : yu1 as = true) (hnp : np = as.length + 1) (hm : mk = zz3)
    (hdb : (C == ("__debug__" : Str)) = false := by decide) (he : starEach (e :: es) X.env = (false, eval e X.env) :: starEach es X.env := by rfl) (hpl : (backTo pos (starEach es X.env)).any (·.1) = false := by rfl) :
    QP X κ (.Call (.Name C p) (e :: es) [] pos) (zj9 C (zc7 as) g) := by with_unfolding_all exact L2.yh1 Kd G hr hg ha has hnp hm hdb he hpl
end
section
variable {X : Cx} {κ : Str -> Addr}
theorem yh6 : MtR X "str.startswith" (PMt X.K κ zz8) := by with_unfolding_all exact L2.yh6
end
section
theorem yq6 {X : Cx} {κ : Str -> Addr} {e : Expr} {f : PSt -> Option D} (h : QP X κ e f) : QP X κ e (ye4 f) := by with_unfolding_all exact L2.yq6 h
end
section
variable {X : Cx} {κ : Str -> Addr} {φ : F0} {sc scope : Scope} {NX N : List Str} {pick : List (Option Nat)} {elt iter : Expr} {ifs : List Expr} {x : Str} {px pos : Pos} {fi : PSt -> Option (List D)} {ft : PSt -> Option Bool} {fe : PSt -> Option D}
theorem xf1 (i : Nat) {y : Str} {py spos : Pos} (hN : X.N.Nodup) (hi' : X.N[i]? = some y) (hy : X.env.scope.names.lookup y = some .local) (hb : φ.bor i = false) (hm : φ.M i = false)
    (S : CScope sc NX N pick scope) (hsc : X.env.scope = sc) (hNX : X.N = NX) (hc : X.calm = true) (hi : QIV X κ (.Name x px) iter fi)
    (hg : ∀ cl fp s H, PG (cxB X N scope cl fp s H) (.Name x px) (yc2 0)) (ht : ∀ cl fp s H, PTs (cxB X N scope cl fp s H) ifs (tQ X.K κ ft)) (he : ∀ cl fp s H, PE (cxB X N scope cl fp s H) elt (tP X.K κ fe))
    (hsw : swapsWith (.ListComp elt [⟨.Name x px, iter, ifs, 0⟩] scope pos) (some (.Name y py)) spos.line X.env = pure true := by rfl)
    (hs : ∀ x, foldedSetIterable iter X.env x = pure x := by intro _; rfl) : QS X κ φ (.Assign [.Name y py] (.ListComp elt [⟨.Name x px, iter, ifs, 0⟩] scope pos) spos) (zb9 i (za5 (ye8 pick fi ft fe))) := by with_unfolding_all exact L2.xf1 i hN hi' hy hb hm S hsc hNX hc hi hg ht he hsw hs
end
section
variable {X : Cx} {κ : Str -> Addr}
theorem xf2 : MtR X "str.rfind" (PMt X.K κ yr9) := by with_unfolding_all exact L2.xf2
end
section
variable {X : Cx} {κ : Str -> Addr} {φ : F0} {a b : Expr} {pos : Pos}
theorem yl7 {f : PSt -> Option (Bool × PSt)} (h : QTE X κ φ a f) : QTE X κ φ (.UnaryOp .Not a pos) (ya1 f) := by with_unfolding_all exact L2.yl7 h
end
section
variable {X : Cx} {κ : Str -> Addr} {φ : F0} {a b : Expr} {pos : Pos}
theorem yh2 {f : PSt -> Option (D × PSt)} (h : QE X κ φ a f) (he : ∀ whole, isTrue a X.env whole = (do let v <- whole; standAt a.pos; holding [v] (truthy v)) := by intro _; rfl) : QTE X κ φ a (fTE f) := by with_unfolding_all exact L2.yh2 h he
end
section
variable {X : Cx} {κ : Str -> Addr} {φ : F0} {a b : Expr} {pos : Pos}
theorem xn9 {op : CmpOp} {g : D -> D -> Option D} {fa : PSt -> Option (D × PSt)} {fb : PSt -> Option D} (ho : OpR X (compareOp op) (POp X.K κ g)) (ha : QE X κ φ a fa) (hb : QV X κ b fb) (hm : behindInMarks op b = false) : QE X κ φ (.Compare a [op] [b] pos) (fE2 g fa fb) := by with_unfolding_all exact L2.xn9 ho ha hb hm
end
section
variable {X : Cx} {κ : Str -> Addr}
theorem xk4 : OpR X (compareOp .Is) (POp X.K κ xg6) := by with_unfolding_all exact L2.xk4
end
end L3
namespace L3
open PySem PySem.Spec PyProof.Rows L2
noncomputable def top (i : Nat) : Stmt := PySem.Challenge.pw_linepress_k13_earlier.main.body.getD i (.Pass ⟨0, 0, 0, 0⟩)
end L3
namespace My
open PySem PySem.Spec PyProof.Rows L2 L3
variable {P : Program} {w : World} {K : PySem.W.Frag} {mg : Str -> Option Value} {base : Heap} {κ : Str -> Addr}
inductive Leaf where
  | word (x : Str) | gap (x : Str) | stop (c : Int) | fin
inductive Tk where
  | leaf (l : Leaf) | opn | cls | hng (n : Int) | bck | eit | orr | don
inductive Pc where
  | leaf (l : Leaf) | group (r : List Pc) | hang (n : Int) (r : List Pc) | either (rs : List (List Pc))
mutual
noncomputable def zj2 : Pc -> List Tk
  | .leaf l => [.leaf l]
  | .group r => .opn :: (zf5 r ++ [.cls])
  | .hang n r => .hng n :: (zf5 r ++ [.bck])
  | .either rs => .eit :: (yi3 rs ++ [.don])
noncomputable def zf5 : List Pc -> List Tk
  | [] => []
  | p :: r => zj2 p ++ zf5 r
noncomputable def yi3 : List (List Pc) -> List Tk
  | [] => []
  | r :: rs => zf5 r ++ zj8 rs
noncomputable def zj8 : List (List Pc) -> List Tk
  | [] => []
  | r :: rs => .orr :: (zf5 r ++ zj8 rs)
end
theorem yh7 : ∀ r s : List Pc, zf5 (r ++ s) = zf5 r ++ zf5 s
  | [], s => rfl
  | p :: r, s => by
    show zj2 p ++ zf5 (r ++ s) = (zj2 p ++ zf5 r) ++ zf5 s
    rw [yh7 r s, List.append_assoc]
theorem wd6 (p : Pc) : zf5 [p] = zj2 p := by
  show zj2 p ++ [] = zj2 p
  rw [List.append_nil]
structure Fm where
  op : Option Tk
  full : List (List Pc)
  parts : List Pc
noncomputable def put (f : Fm) (p : Pc) : Fm := { f with parts := f.parts ++ [p] }
noncomputable def step : List Fm -> Tk -> Option (List Fm)
  | f :: fs, .leaf l => some (put f (.leaf l) :: fs)
  | fs, .opn => some (⟨some .opn, [], []⟩ :: fs)
  | fs, .hng n => some (⟨some (.hng n), [], []⟩ :: fs)
  | fs, .eit => some (⟨some .eit, [], []⟩ :: fs)
  | ⟨some .eit, full, parts⟩ :: fs, .orr => some (⟨some .eit, full ++ [parts], []⟩ :: fs)
  | ⟨some .opn, _, parts⟩ :: g :: fs, .cls => some (put g (.group parts) :: fs)
  | ⟨some (.hng n), _, parts⟩ :: g :: fs, .bck => some (put g (.hang n parts) :: fs)
  | ⟨some .eit, full, parts⟩ :: g :: fs, .don => if full = [] then none else some (put g (.either (full ++ [parts])) :: fs)
  | _, _ => none
mutual
noncomputable def zp6 : Pc -> Nat
  | .leaf _ => 0
  | .group r => zi6 r + 1
  | .hang _ r => zi6 r + 1
  | .either rs => zw9 rs + 1
noncomputable def zi6 : List Pc -> Nat
  | [] => 0
  | p :: r => max (zp6 p) (zi6 r)
noncomputable def zw9 : List (List Pc) -> Nat
  | [] => 0
  | r :: rs => max (zi6 r) (zw9 rs)
end
theorem yq7 : ∀ (r : List Pc) (p : Pc), zi6 (r ++ [p]) = max (zi6 r) (zp6 p)
  | [], p => by
    exact Nat.max_comm (zp6 p) 0
  | q :: r, p => by
    show max (zp6 q) (zi6 (r ++ [p])) = max (max (zp6 q) (zi6 r)) (zp6 p)
    rw [yq7 r p, Nat.max_assoc]
theorem ym9 : ∀ (rs : List (List Pc)) (r : List Pc), zw9 (rs ++ [r]) = max (zw9 rs) (zi6 r)
  | [], r => by
    exact Nat.max_comm (zi6 r) 0
  | q :: rs, r => by
    show max (zi6 q) (zw9 (rs ++ [r])) = max (max (zi6 q) (zw9 rs)) (zi6 r)
    rw [ym9 rs r, Nat.max_assoc]
noncomputable def yu2 (c : Nat) : Bool := decide (33 <= c) && decide (c <= 126)
noncomputable def xq8 (z : Str) : Prop := 1 <= z.length /\ z.length <= 12 /\ z.cps.toList.all yu2 = true
noncomputable def zu7 : Leaf -> Prop
  | .word x => xq8 x
  | .gap x => x = "" \/ x = " "
  | .stop c => 0 <= c /\ c <= 40
  | .fin => True
end My
namespace My
open PySem PySem.Spec PyProof.Rows L2 L3
variable {P : Program} {w : World} {K : PySem.W.Frag} {mg : Str -> Option Value} {base : Heap} {κ : Str -> Addr}
noncomputable def yf3 (ns : List Int) (k : Int) : Int := ns.getD (k % (ns.length : Int)).toNat 0
noncomputable def xc2 (ns : List Int) (k : Int) : Int := k / (if (ns.length : Int) > 1 then (ns.length : Int) else 1)
noncomputable def wy8 (ns : List Int) (k salt : Int) : Int := PySem.Builtin.bitAnd (yf3 ns k) 2147483647 + 1009 * k * k + 7919 * salt * salt + 12
noncomputable def yu3 (ns : List Int) (k salt : Int) : Int := wy8 ns k salt * 48271 % 2147483647
noncomputable def wo1 (ns : List Int) (k salt : Int) : Int := yu3 ns k salt * yu3 ns k salt % 2147483629
noncomputable def yo3 (ns : List Int) (k salt : Int) : Int := PySem.Builtin.bitAnd (yf3 ns k / 2 ^ (31 * (salt + 128 * xc2 ns k)).toNat + wo1 ns k salt) 2147483647
theorem xr7 (ns : List Int) (k salt : Int) : 0 <= yo3 ns k salt /\ yo3 ns k salt < 2147483648 := by
  have e : yo3 ns k salt = (yf3 ns k / 2 ^ (31 * (salt + 128 * xc2 ns k)).toNat + wo1 ns k salt) % 2147483648 := PySem.W.kbt_mask _ 31
  rw [e]
  exact ⟨Int.emod_nonneg _ (by decide), Int.emod_lt_of_pos _ (by decide)⟩
noncomputable def xq9 (K : PySem.W.Frag) : Sp := fun vs H Q _ => ∃ (a : Addr) (ns : List Int) (k : Int), vs = [.ref a, .int k] /\ SqL K H a (ns.map V.int) /\ Q (.int (yf3 ns k)) H
noncomputable def xv3 (K : PySem.W.Frag) : Sp := fun vs H Q _ => ∃ (a : Addr) (ns : List Int) (k salt : Int), vs = [.ref a, .int k, .int salt] /\ SqL K H a (ns.map V.int) /\ ns.length <= 63 /\ (0 <= k /\ k < 1000000) /\ (0 <= salt /\ salt < 1000000) /\ Q (.int (yo3 ns k salt)) H
noncomputable abbrev zm7 : Stmt := top 19
theorem xo0 : FnScope ["_law_script", "_law_k"] ["_law_script", "_law_k"] (zb4 zm7) := ⟨rfl, rfl, rfl, by decide +kernel, rfl, by decide +kernel, by decide +kernel⟩
theorem xo1 {n : Nat} {f : Addr} {fd : FuncData} (D : Dn K mg "_law_cell_at" zm7 ["_law_script", "_law_k"] f fd) (z_len : mg "len" = none) :
    FnOk P w K mg base CX0 (n + 1) f fd ["_law_script", "_law_k"] (xq9 K) := by
  refine D.F.ok xo0 (fun vs H Q E h => ?_) (fun cdv A outer s H vs Q E hr h => ?_)
  . obtain ⟨a, ns, k, rfl, _⟩ := h
    rfl
  obtain ⟨a, ns, k, rfl, hS, q⟩ := h
  refine ⟨_, (ya3 (wm7 (xt0 xv9 (yh4 zu4 rfl z_len boot_len (zo1 (pv 0) yb5)) zr6 (ze3 _)) (ys7 (yp5 zr6)) xs4)
    (ys7 (yp5 (xk1 xe0 (pv 0) (zo8 yy2 (pv 1) (yh4 zu4 rfl z_len boot_len (zo1 (pv 0) yb5))) (fun _ _ => rfl))))), ?_⟩
  have hl : (ns.map V.int).length = ns.length := List.length_map _
  refine ⟨_, rfl, a, _, rfl, .inl hS, rfl, _, rfl, ?_⟩
  refine kc1 (fun c => ?_) (fun c => ?_)
  . have e : (((ns.map V.int).length : Nat) : Int) = 0 := by simpa using c
    have e' : ns = [] := by
      rw [hl] at e
      exact List.eq_nil_of_length_eq_zero (by omega)
    subst e'
    exact q
  . have e : ¬ (((ns.map V.int).length : Nat) : Int) = 0 := by simpa using c
    rw [hl] at e
    have hp : (0 : Int) < ((ns.map V.int).length : Nat) := by rw [hl]; omega
    refine ⟨_, rfl, _, rfl, _, rfl, a, _, rfl, .inl hS, _, _, rfl, rfl, hp, a, _, _, _, rfl, rfl, hS, ?_, q⟩
    rw [hl]
    have h0 := Int.emod_nonneg k e
    have h1 := Int.emod_lt_of_pos k (show (0 : Int) < ns.length by omega)
    have ek : k % (ns.length : Int) = (((k % (ns.length : Int)).toNat : Nat) : Int) := by omega
    rw [ek]
    refine xd9 ?_
    rw [List.getElem?_map, List.getElem?_eq_getElem (by omega)]
    unfold yf3
    rw [List.getD_eq_getElem?_getD, List.getElem?_eq_getElem (by omega)]
    rfl
noncomputable abbrev zp0 : Stmt := top 20
theorem zz0 : FnScope ["_law_script", "_law_k", "_law_salt", "_law_cell", "_law_lap", "_law_near"] ["_law_script", "_law_k", "_law_salt"] (zb4 zp0) := ⟨rfl, rfl, rfl, by decide +kernel, rfl, by decide +kernel, by decide +kernel⟩
theorem xy0 {n : Nat} {f f1 : Addr} {fd fd1 : FuncData} (D : Dn K mg "_law_mixed" zp0 ["_law_script", "_law_k", "_law_salt"] f fd) (D_l_cell_at : Dn K mg "_law_cell_at" zm7 ["_law_script", "_law_k"] f1 fd1)
    (G_l_cell_at : FnOk P w K mg base CX0 n f1 fd1 ["_law_script", "_law_k"] (xq9 K)) (z_len : mg "len" = none) (z_max : mg "max" = none) :
    FnOk P w K mg base CX0 (n + 1) f fd ["_law_script", "_law_k", "_law_salt"] (xv3 K) := by
  refine D.F.ok zz0 (fun vs H Q E h => ?_) (fun cdv A outer s H vs Q E hr h => ?_)
  . obtain ⟨a, ns, k, salt, rfl, _⟩ := h
    rfl
  obtain ⟨a, ns, k, salt, rfl, hS, h63, ⟨hk0, hk1⟩, ⟨hs0, hs1⟩, q⟩ := h
  refine ⟨_, (ya3 (yl0 (i := 3) zz0.nd rfl (by first | exact Or.inl rfl | exact Or.inr rfl) (xw9 D_l_cell_at G_l_cell_at hr rfl (zo1 (pv 0) (zo1 (pv 1) yb5))))
    (ya3 (yl0 (i := 4) zz0.nd rfl (by first | exact Or.inl rfl | exact Or.inr rfl) (zo8 xs5 (pv 1) (yh4 (wb4 rfl) rfl z_max boot_max (zo1 zr6 (zo1 (yh4 zu4 rfl z_len boot_len (zo1 (pv 0) yb5)) yb5)))))
    (ya3 (yl0 (i := 5) zz0.nd rfl (by first | exact Or.inl rfl | exact Or.inr rfl) (zo8 yl1 (zo8 yl1 (zo8 yl1 (zo8 wb2 (pv 3) zr6) (zo8 yb4 (zo8 yb4 zr6 (pv 1)) (pv 1))) (zo8 yb4 (zo8 yb4 zr6 (pv 2)) (pv 2))) zr6))
    (ya3 (yl0 (i := 5) zz0.nd rfl (by first | exact Or.inl rfl | exact Or.inr rfl) (zo8 yy2 (zo8 yb4 (pv 5) zr6) zr6))
    (ya3 (yl0 (i := 5) zz0.nd rfl (by first | exact Or.inl rfl | exact Or.inr rfl) (zo8 yy2 (zo8 yb4 (pv 5) (pv 5)) zr6))
    (ys7 (yp5 (zo8 wb2 (zo8 yl1 (zo8 wt8 (pv 3) (zo8 yb4 zr6 (zo8 yl1 (pv 2) (zo8 yb4 zr6 (pv 4))))) (pv 5)) zr6)))))))), ?_⟩
  have hl : (ns.map V.int).length = ns.length := List.length_map _
  have hlap : 0 <= xc2 ns k := by unfold xc2; exact Int.ediv_nonneg hk0 (by split <;> omega)
  have hn1 : 0 <= yu3 ns k salt /\ yu3 ns k salt < 2147483647 := ⟨Int.emod_nonneg _ (by decide), Int.emod_lt_of_pos _ (by decide)⟩
  refine ⟨_, rfl, _, rfl, a, ns, k, rfl, hS, ?_⟩
  refine ⟨_, rfl, _, rfl, a, _, rfl, .inl hS, _, _, rfl, _, _, rfl, rfl, ?_, ?_⟩
  . rw [hl]; constructor
    . split <;> omega
    . split <;> omega
  rw [hl]
  refine ⟨_, rfl, _, _, rfl, rfl, _, rfl, _, _, rfl, rfl, .inl ⟨by decide, by decide⟩, _, rfl, _, _, rfl, rfl, .inr ⟨by omega, by omega⟩, _, _, rfl, rfl, _, rfl, _, _, rfl, rfl, .inl ⟨by decide, by decide⟩, _, rfl, _, _, rfl, rfl, .inr ⟨by omega, by omega⟩, _, _, rfl, rfl, _, _, rfl, rfl, ?_⟩
  refine ⟨_, rfl, _, _, rfl, rfl, .inr ⟨by decide, by decide⟩, _, _, rfl, rfl, (by show (0 : Int) < 2147483647; decide), ?_⟩
  refine ⟨_, rfl, _, rfl, _, _, rfl, rfl, .inl ⟨by show -(2 ^ 64) < yu3 ns k salt; omega, by show yu3 ns k salt < 2 ^ 64; omega⟩, _, _, rfl, rfl, (by show (0 : Int) < 2147483629; decide), ?_⟩
  refine ⟨_, rfl, _, rfl, _, rfl, _, _, rfl, rfl, .inl ⟨by decide, by decide⟩, _, _, rfl, rfl, _, _, rfl, rfl, .inl ⟨by decide, by decide⟩, _, _, rfl, rfl, ?_, _, rfl, _, _, rfl, rfl, _, _, rfl, rfl, q⟩
  show 0 <= 31 * (salt + 128 * xc2 ns k)
  omega
end My
namespace L3
open PySem PySem.Spec PyProof.Rows L2 My
variable {P : Program} {w : World} {K : PySem.W.Frag} {mg : Str -> Option Value} {base : Heap} {κ : Str -> Addr}
noncomputable def yi4 (g_Place_init : (List D -> Option (D × List D))) : PSt -> Option (Fl × PSt) :=
  (zd4 (za5 (ye4 (zj9 "Place" (zc7 [.im (fC (.bl true)), .im (fC (.int 0))]) g_Place_init))))
noncomputable abbrev zn1 : Stmt := top 6
theorem yw7 : FnScope [] [] (zb4 zn1) := ⟨rfl, rfl, rfl, by decide +kernel, rfl, by decide +kernel, by decide +kernel⟩
theorem yw8 {n : Nat} {f : Addr} {fd : FuncData} {g_Place_init : (List D -> Option (D × List D))} {f_Place_init : Addr} {fd_Place_init : FuncData} (D_p_first_place : Dn K mg "first_place" zn1 [] f fd)
    (K_Place : Kn K mg κ "Place" "Place.__init__" zn8 ["self", "broken", "margin"] f_Place_init fd_Place_init) (G_Place_init : FnOk P w K mg base CX0 n f_Place_init fd_Place_init ["self", "broken", "margin"] (SpE 3 K κ (zd3 [true, false, false]) g_Place_init)) :
    FnOk P w K mg base CX0 ((n + 1) + 1) f fd [] (SpP 0 K κ (gP 0 0 (yi4 g_Place_init))) :=
  zk0 D_p_first_place.F yw7 fun cdv A outer s H E B hr =>
  (zb6 (zg1 (QP.e (yq6 (yh1 K_Place G_Place_init hr rfl (zf0 (QP.v zs3) (zf0 (QP.v za6) zj6)) rfl rfl (zq5 2))))))
noncomputable def yj8  : PSt -> Option (Fl × PSt) :=
  (zd4 (za5 (f2 dIn (f2 dIx (za0 0) (fC (.int 0))) (fC (.tup [(.str "group"), (.str "hang"), (.str "either")])))))
noncomputable abbrev zn7 : Stmt := top 7
theorem xa1 : FnScope ["piece"] ["piece"] (zb4 zn7) := ⟨rfl, rfl, rfl, by decide +kernel, rfl, by decide +kernel, by decide +kernel⟩
theorem xa2 {n : Nat} {f : Addr} {fd : FuncData} {a_HOLDERS : Addr} (D_p_holds_rows : Dn K mg "holds_rows" zn7 ["piece"] f fd)
    (g_HOLDERS : mg "HOLDERS" = some (.ref a_HOLDERS)) (k_HOLDERS : ∀ H, Rep K κ H (.ref a_HOLDERS) (.tup [(.str "group"), (.str "hang"), (.str "either")]) []) :
    FnOk P w K mg base CX0 (n + 1) f fd ["piece"] (SpP 1 K κ (gP 1 0 (yj8 ))) :=
  zk0 D_p_holds_rows.F xa1 fun cdv A outer s H E B hr =>
  (zb6 (zg1 (QP.e (yb6 wj0 (zd0 (za2 0) (QP.v za6)) (QP.v (xe2 (v := .ref a_HOLDERS) (d := (.tup [(.str "group"), (.str "hang"), (.str "either")])) rfl g_HOLDERS rfl k_HOLDERS)) (by with_unfolding_all rfl)))))
noncomputable def yg5  : PSt -> Option (Fl × PSt) :=
  (zd4 (za5 (fOr (f2 dEq (f2 dIx (za0 0) (fC (.int 0))) (fC (.str "either"))) (yi1 (f2 dEq (f2 dIx (za0 0) (fC (.int 0))) (fC (.str "group"))) (zc0 (zi8 "Place" "broken" (za0 1)))))))
noncomputable abbrev zm0 : Stmt := top 8
theorem yu7 : FnScope ["piece", "place"] ["piece", "place"] (zb4 zm0) := ⟨rfl, rfl, rfl, by decide +kernel, rfl, by decide +kernel, by decide +kernel⟩
theorem yu8 {n : Nat} {f : Addr} {fd : FuncData}  (D_p_takes_choice : Dn K mg "takes_choice" zm0 ["piece", "place"] f fd)
    (cl_Place : Cls K (κ "Place"))
    (na_broken : zh0 K (κ "Place") "broken") :
    FnOk P w K mg base CX0 (n + 1) f fd ["piece", "place"] (SpP 2 K κ (gP 2 0 (yg5 ))) :=
  zk0 D_p_takes_choice.F yu7 fun cdv A outer s H E B hr =>
  (zb6 (zg1 (QP.e (xx1 (yb6 (zn5 (Room.units hr)) (zd0 (za2 0) (QP.v za6)) (QP.v zf9) (ze3 _)) (yp7 (yz2 (yb6 (zn5 (Room.units hr)) (zd0 (za2 0) (QP.v za6)) (QP.v zf9) (ze3 _)) (yp7 (QV.p (zn2 (C := "Place") cl_Place na_broken (za2 1))))))))))
noncomputable def zx9 (g_Place_init : (List D -> Option (D × List D))) : PSt -> Option (Fl × PSt) :=
  (zb3 (zb9 2 (za5 (zc0 (f2 dIx (za0 0) (fC (.int 0))))))
  (zb3 (fIf (za8 (fB (f2 dEq (za0 2) (fC (.str "hang")))))
   (zd4 (za5 (ze2 (za1 (zh9 (za1 (zc0 (f2 dIx (za0 0) (fC (.int 2)))) (za1 (ye4 (zj9 "Place" (zc7 [.im (zi8 "Place" "broken" (za0 1)), .im (f2 zc9 (zi8 "Place" "margin" (za0 1)) (f2 dIx (za0 0) (fC (.int 1))))]) g_Place_init)) za3))) za3))))
   zc3)
  (zb3 (fIf (za8 (fB (f2 dEq (za0 2) (fC (.str "either")))))
   (zd4 (za5 (ye8 [none, some 1] (zq7 (f2 dIx (za0 0) (fC (.int 1)))) yg3 (zh9 (za1 (zc0 (za0 0)) (za1 (zc0 (za0 1)) za3))))))
   zc3)
  (zb3 (zb9 3 (za5 (zh9 (za1 (zc0 (f2 dIx (za0 0) (fC (.int 1)))) (za1 (ye4 (zj9 "Place" (zc7 [.im (fC (.bl false)), .im (zi8 "Place" "margin" (za0 1))]) g_Place_init)) za3)))))
  (zb3 (fIf (za8 (fT (zi8 "Place" "broken" (za0 1))))
   (zd4 (za5 (ze2 (za1 (zc0 (za0 3)) (za1 (zh9 (za1 (zc0 (f2 dIx (za0 0) (fC (.int 1)))) (za1 (zc0 (za0 1)) za3))) za3)))))
   zc3)
  (zd4 (za5 (ze2 (za1 (zc0 (za0 3)) za3)))))))))
noncomputable abbrev zv1 : Stmt := top 9
theorem yq8 : FnScope ["piece", "place", "kind", "on_one_line"] ["piece", "place"] (zb4 zv1) := ⟨rfl, rfl, rfl, by decide +kernel, rfl, by decide +kernel, by decide +kernel⟩
theorem wd7 {n : Nat} {f : Addr} {fd : FuncData} {g_Place_init : (List D -> Option (D × List D))} {f_Place_init : Addr} {fd_Place_init : FuncData} (D_p_ways : Dn K mg "ways" zv1 ["piece", "place"] f fd)
    (K_Place : Kn K mg κ "Place" "Place.__init__" zn8 ["self", "broken", "margin"] f_Place_init fd_Place_init) (G_Place_init : FnOk P w K mg base CX0 n f_Place_init fd_Place_init ["self", "broken", "margin"] (SpE 3 K κ (zd3 [true, false, false]) g_Place_init))
    (cl_Place : Cls K (κ "Place"))
    (na_broken : zh0 K (κ "Place") "broken")
    (na_margin : zh0 K (κ "Place") "margin") :
    FnOk P w K mg base CX0 ((n + 1) + 1) f fd ["piece", "place"] (SpP 2 K κ (gP 2 2 (zx9 g_Place_init))) :=
  zk0 D_p_ways.F yq8 fun cdv A outer s H E B hr =>
  (zb2 (zg0 2 yq8.nd rfl (by first | exact Or.inl rfl | exact Or.inr rfl) rfl rfl (QP.e (QV.p (zd0 (za2 0) (QP.v za6)))))
  (zb2 (zg4 (QT.e (zf4 (zn5 (Room.units hr)) (za2 2) (QP.v zf9) (ze3 _)))
   (zb6 (zg1 (QP.e (zj0 (zc1 (zp2 (zc1 (QV.p (zd0 (za2 0) (QP.v za6))) (zc1 (yq6 (yh1 K_Place G_Place_init hr rfl (zf0 (zn2 (C := "Place") cl_Place na_broken (za2 1)) (zf0 (QP.v (zd2 zl1 (zn2 (C := "Place") cl_Place na_margin (za2 1)) (zd0 (za2 0) (QP.v za6)))) zj6)) rfl rfl (zq5 2))) ze4))) ze4)))))
   ze6)
  (zb2 (zg4 (QT.e (zf4 (zn5 (Room.units hr)) (za2 2) (QP.v zf9) (ze3 _)))
   (zb6 (zg1 (QP.e (xe6 (sc := zb4 zv1) (NX := ["piece", "place", "kind", "on_one_line"]) (N := ["row", "place"]) (pick := [none, some 1]) ⟨rfl, by decide +kernel, by decide +kernel, by decide +kernel, by decide +kernel, by decide, rfl⟩ rfl rfl rfl (xm8 (zd0 (za2 0) (QP.v za6))) (fun _ _ _ _ => (zw1 (i := 0) (show (["row", "place"] : List Str).Nodup by decide) rfl (by first | exact Or.inl rfl | exact Or.inr rfl))) (fun _ _ _ _ => yt0) (fun _ _ _ _ => (zp2 (zc1 (QV.p (za2 0)) (zc1 (QV.p (za2 1)) ze4))))))))
   ze6)
  (zb2 (zg0 3 yq8.nd rfl (by first | exact Or.inl rfl | exact Or.inr rfl) rfl rfl (QP.e (zp2 (zc1 (QV.p (zd0 (za2 0) (QP.v za6))) (zc1 (yq6 (yh1 K_Place G_Place_init hr rfl (zf0 (QP.v zs3) (zf0 (zn2 (C := "Place") cl_Place na_margin (za2 1)) zj6)) rfl rfl (zq5 2))) ze4)))))
  (zb2 (zg4 (QT.e (zr7 (zn2 (C := "Place") cl_Place na_broken (za2 1))))
   (zb6 (zg1 (QP.e (zj0 (zc1 (QV.p (za2 3)) (zc1 (zp2 (zc1 (QV.p (zd0 (za2 0) (QP.v za6))) (zc1 (QV.p (za2 1)) ze4))) ze4))))))
   ze6)
  (zb6 (zg1 (QP.e (zj0 (zc1 (QV.p (za2 3)) ze4))))))))))
noncomputable def yp2  : PSt -> Option (Fl × PSt) :=
  (zd4 (za5 (f2 zc9 (fC (.str "\n")) (f2 zq1 (fC (.str " ")) (za0 0)))))
noncomputable abbrev zq2 : Stmt := top 10
theorem xj7 : FnScope ["blanks"] ["blanks"] (zb4 zq2) := ⟨rfl, rfl, rfl, by decide +kernel, rfl, by decide +kernel, by decide +kernel⟩
theorem xj8 {n : Nat} {f : Addr} {fd : FuncData}  (D_p_new_line : Dn K mg "new_line" zq2 ["blanks"] f fd)
     :
    FnOk P w K mg base CX0 (n + 1) f fd ["blanks"] (SpP 1 K κ (gP 1 0 (yp2 ))) :=
  zk0 D_p_new_line.F xj7 fun cdv A outer s H E B hr =>
  (zb6 (zg1 (QP.e (zd2 zl1 (QP.v zf9) (QP.v (zd2 yg7 (QP.v zf9) (za2 0)))))))
noncomputable def yc4 (g_p_new_line : (List D -> Option D)) : PSt -> Option (Fl × PSt) :=
  (zb3 (zb9 3 (za5 (zc0 (f2 dIx (za0 0) (fC (.int 0))))))
  (zb3 (fIf (za8 (fB (f2 dEq (za0 3) (fC (.str "word")))))
   (zd4 (za5 (zc0 (f2 dIx (za0 0) (fC (.int 1))))))
   zc3)
  (zb3 (fIf (za8 (zf8 (fB (f2 dEq (za0 3) (fC (.str "gap")))) (zh4 (fT (zi8 "Place" "broken" (za0 1))))))
   (zd4 (za5 (zc0 (f2 dIx (za0 0) (fC (.int 1))))))
   zc3)
  (zb3 (fIf (za8 (zf8 (fB (f2 dEq (za0 3) (fC (.str "stop")))) (fB (f2 dLe (za0 2) (f2 dIx (za0 0) (fC (.int 1)))))))
   (zd4 (za5 (f2 zq1 (fC (.str " ")) (f2 zl7 (f2 dIx (za0 0) (fC (.int 1))) (za0 2)))))
   zc3)
  (zb3 (fIf (za8 (zh4 (fT (zi8 "Place" "broken" (za0 1)))))
   (zd4 (za5 (fC .non)))
   zc3)
  (zb3 (fIf (za8 (fB (f2 dEq (za0 3) (fC (.str "stop")))))
   (zd4 (za5 (za4 g_p_new_line (za1 (f2 dIx (za0 0) (fC (.int 1))) za3))))
   zc3)
  (zd4 (za5 (za4 g_p_new_line (za1 (zi8 "Place" "margin" (za0 1)) za3))))))))))
noncomputable abbrev zr9 : Stmt := top 11
theorem yq9 : FnScope ["piece", "place", "column", "kind"] ["piece", "place", "column"] (zb4 zr9) := ⟨rfl, rfl, rfl, by decide +kernel, rfl, by decide +kernel, by decide +kernel⟩
theorem xo2 {n : Nat} {f : Addr} {fd : FuncData} {g_p_new_line : (List D -> Option D)} {f_p_new_line : Addr} {fd_p_new_line : FuncData} (D_p_writing : Dn K mg "writing" zr9 ["piece", "place", "column"] f fd)
    (D_p_new_line : Dn K mg "new_line" zq2 ["blanks"] f_p_new_line fd_p_new_line) (G_p_new_line : FnOk P w K mg base CX0 n f_p_new_line fd_p_new_line ["blanks"] (SpP 1 K κ g_p_new_line))
    (cl_Place : Cls K (κ "Place"))
    (na_broken : zh0 K (κ "Place") "broken")
    (na_margin : zh0 K (κ "Place") "margin") :
    FnOk P w K mg base CX0 (n + 1) f fd ["piece", "place", "column"] (SpP 3 K κ (gP 3 1 (yc4 g_p_new_line))) :=
  zk0 D_p_writing.F yq9 fun cdv A outer s H E B hr =>
  (zb2 (zg0 3 yq9.nd rfl (by first | exact Or.inl rfl | exact Or.inr rfl) rfl rfl (QP.e (QV.p (zd0 (za2 0) (QP.v za6)))))
  (zb2 (zg4 (QT.e (zf4 (zn5 (Room.units hr)) (za2 3) (QP.v zf9) (ze3 _)))
   (zb6 (zg1 (QP.e (QV.p (zd0 (za2 0) (QP.v za6))))))
   ze6)
  (zb2 (zg4 (QT.e (ya5 (zs7 (zf4 (zn5 (Room.units hr)) (za2 3) (QP.v zf9) (ze3 _)) (zr4 (yf0 (zr7 (zn2 (C := "Place") cl_Place na_broken (za2 1))))))))
   (zb6 (zg1 (QP.e (QV.p (zd0 (za2 0) (QP.v za6))))))
   ze6)
  (zb2 (zg4 (QT.e (ya5 (zs7 (zf4 (zn5 (Room.units hr)) (za2 3) (QP.v zf9) (ze3 _)) (zr4 (zf4 xx3 (za2 2) (zd0 (za2 0) (QP.v za6)) (ze3 _))))))
   (zb6 (zg1 (QP.e (zd2 yg7 (QP.v zf9) (QP.v (zd2 yj0 (zd0 (za2 0) (QP.v za6)) (za2 2)))))))
   ze6)
  (zb2 (zg4 (QT.e (yf0 (zr7 (zn2 (C := "Place") cl_Place na_broken (za2 1)))))
   (zb6 (zg1 (QP.e yl2)))
   ze6)
  (zb2 (zg4 (QT.e (zf4 (zn5 (Room.units hr)) (za2 3) (QP.v zf9) (ze3 _)))
   (zb6 (zg1 (QP.e (zi4 D_p_new_line G_p_new_line hr rfl rfl (zb0 (zd0 (za2 0) (QP.v za6)) zc6) (zb8 zg7)))))
   ze6)
  (zb6 (zg1 (QP.e (zi4 D_p_new_line G_p_new_line hr rfl rfl (zb0 (zn2 (C := "Place") cl_Place na_margin (za2 1)) zc6) (zb8 zg7)))))))))))
noncomputable def ye5  : PSt -> Option (Fl × PSt) :=
  (zd4 (za5 (fMt zz8 (za0 0) (za1 (fC (.str "\n")) za3))))
noncomputable abbrev zo4 : Stmt := top 12
theorem xf3 : FnScope ["wrote"] ["wrote"] (zb4 zo4) := ⟨rfl, rfl, rfl, by decide +kernel, rfl, by decide +kernel, by decide +kernel⟩
theorem xf4 {n : Nat} {f : Addr} {fd : FuncData}  (D_p_ends_line : Dn K mg "ends_line" zo4 ["wrote"] f fd)
     :
    FnOk P w K mg base CX0 (n + 1) f fd ["wrote"] (SpP 1 K κ (gP 1 0 (ye5 ))) :=
  zk0 D_p_ends_line.F xf3 fun cdv A outer s H E B hr =>
  (zb6 (zg1 (QP.e (yz4 PySem.F.slot_str_startswith PySem.F.type_str_startswith yh6 (za2 0) (zb0 (QP.v zf9) zc6)))))
noncomputable def zp7 (g_p_ends_line : (List D -> Option D)) : PSt -> Option (Fl × PSt) :=
  (zb3 (fIf (za8 (fT (za4 g_p_ends_line (za1 (za0 1) za3))))
   (zd4 (za5 (f2 zl7 (za4 zd7 (za1 (za0 1) za3)) (fC (.int 1)))))
   zc3)
  (zd4 (za5 (f2 zc9 (za0 0) (za4 zd7 (za1 (za0 1) za3))))))
noncomputable abbrev zl4 : Stmt := top 13
theorem yr0 : FnScope ["column", "wrote"] ["column", "wrote"] (zb4 zl4) := ⟨rfl, rfl, rfl, by decide +kernel, rfl, by decide +kernel, by decide +kernel⟩
theorem yr1 {n : Nat} {f : Addr} {fd : FuncData} {g_p_ends_line : (List D -> Option D)} {f_p_ends_line : Addr} {fd_p_ends_line : FuncData} (D_p_column_behind : Dn K mg "column_behind" zl4 ["column", "wrote"] f fd)
    (D_p_ends_line : Dn K mg "ends_line" zo4 ["wrote"] f_p_ends_line fd_p_ends_line) (G_p_ends_line : FnOk P w K mg base CX0 n f_p_ends_line fd_p_ends_line ["wrote"] (SpP 1 K κ g_p_ends_line))
    (z_len : mg "len" = none) :
    FnOk P w K mg base CX0 (n + 1) f fd ["column", "wrote"] (SpP 2 K κ (gP 2 0 (zp7 g_p_ends_line))) :=
  zk0 D_p_column_behind.F yr0 fun cdv A outer s H E B hr =>
  (zb2 (zg4 (QT.e (zr7 (QP.v (zi4 D_p_ends_line G_p_ends_line hr rfl rfl (zb0 (za2 1) zc6) (zb8 zg7)))))
   (zb6 (zg1 (QP.e (zd2 yj0 (QP.v (zk7 zs8 rfl z_len boot_len (zb0 (za2 1) zc6))) (QP.v za6)))))
   ze6)
  (zb6 (zg1 (QP.e (zd2 zl1 (za2 0) (QP.v (zk7 zs8 rfl z_len boot_len (zb0 (za2 1) zc6))))))))
noncomputable def yk7 (g_Setter_init : (List D -> Option (D × List D))) (g_Setter_set_row : (List D -> Option (D × List D))) (g_p_first_place : (List D -> Option D)) (g_Setter_whole_text : (List D -> Option D)) : PSt -> Option (Fl × PSt) :=
  (zb3 (zb9 2 (za5 (zj9 "Setter" (zc7 [.im (za0 1)]) g_Setter_init)))
  (zb3 (zc2 (zd1 2 zb7 (zc7 [.im (za0 0), .im (za4 g_p_first_place za3)]) (zo9 "Setter" "set_row" g_Setter_set_row)))
  (zd4 (za5 (za4 g_Setter_whole_text (za1 (zn0 "Setter" "whole_text" (za0 2)) za3))))))
noncomputable abbrev zt7 : Stmt := top 16
theorem yv2 : FnScope ["row", "choices", "setter"] ["row", "choices"] (zb4 zt7) := ⟨rfl, rfl, rfl, by decide +kernel, rfl, by decide +kernel, by decide +kernel⟩
theorem xr8 {n : Nat} {f : Addr} {fd : FuncData} {g_Setter_init : (List D -> Option (D × List D))} {f_Setter_init : Addr} {fd_Setter_init : FuncData} {g_Setter_set_row : (List D -> Option (D × List D))} {f_Setter_set_row : Addr} {fd_Setter_set_row : FuncData} {g_p_first_place : (List D -> Option D)} {f_p_first_place : Addr} {fd_p_first_place : FuncData} {g_Setter_whole_text : (List D -> Option D)} {f_Setter_whole_text : Addr} {fd_Setter_whole_text : FuncData} (D_p_set_by : Dn K mg "set_by" zt7 ["row", "choices"] f fd)
    (K_Setter : Kn K mg κ "Setter" "Setter.__init__" zo5 ["self", "choices"] f_Setter_init fd_Setter_init) (G_Setter_init : FnOk P w K mg base CX0 n f_Setter_init fd_Setter_init ["self", "choices"] (SpE 2 K κ (zd3 [true, false]) g_Setter_init))
    (M_Setter_set_row : Mn K κ "Setter" "set_row" "Setter.set_row" zk6 ["self", "row", "place"] f_Setter_set_row fd_Setter_set_row) (G_Setter_set_row : FnOk P w K mg base CX0 (n + 1) f_Setter_set_row fd_Setter_set_row ["self", "row", "place"] (SpE 3 K κ (zd3 [true, false, false]) g_Setter_set_row))
    (D_p_first_place : Dn K mg "first_place" zn1 [] f_p_first_place fd_p_first_place) (G_p_first_place : FnOk P w K mg base CX0 (n + 1) f_p_first_place fd_p_first_place [] (SpP 0 K κ g_p_first_place))
    (M_Setter_whole_text : Mn K κ "Setter" "whole_text" "Setter.whole_text" zk2 ["self"] f_Setter_whole_text fd_Setter_whole_text) (G_Setter_whole_text : FnOk P w K mg base CX0 (n + 1) f_Setter_whole_text fd_Setter_whole_text ["self"] (SpP 1 K κ g_Setter_whole_text)) :
    FnOk P w K mg base CX0 ((n + 1) + 1) f fd ["row", "choices"] (SpP 2 K κ (gP 2 1 (yk7 g_Setter_init g_Setter_set_row g_p_first_place g_Setter_whole_text))) :=
  zk0 D_p_set_by.F yv2 fun cdv A outer s H E B hr =>
  (zb2 (zg0 2 yv2.nd rfl (by first | exact Or.inl rfl | exact Or.inr rfl) rfl rfl (QP.e (yh1 K_Setter G_Setter_init hr rfl (zf0 (za2 1) zj6) rfl rfl (zq5 1))))
  (zb2 (zl2 (yd4 M_Setter_set_row G_Setter_set_row hr rfl (zf1 2) (zf0 (za2 0) (zf0 (QP.v (xn0 D_p_first_place G_p_first_place hr rfl)) zj6)) rfl rfl (zq5 2)))
  (zb6 (zg1 (QP.e (yw6 M_Setter_whole_text G_Setter_whole_text hr (za2 2)))))))
noncomputable def ys0  : PSt -> Option (Fl × PSt) :=
  (zd4 (za5 (f2 dLt (za0 0) (za0 1))))
noncomputable abbrev zs0 : Stmt := top 17
theorem xo3 : FnScope ["one", "other"] ["one", "other"] (zb4 zs0) := ⟨rfl, rfl, rfl, by decide +kernel, rfl, by decide +kernel, by decide +kernel⟩
theorem xo4 {n : Nat} {f : Addr} {fd : FuncData}  (D_p_earlier : Dn K mg "earlier" zs0 ["one", "other"] f fd)
     :
    FnOk P w K mg base CX0 (n + 1) f fd ["one", "other"] (SpP 2 K κ (gP 2 0 (ys0 ))) :=
  zk0 D_p_earlier.F xo3 fun cdv A outer s H E B hr =>
  (zb6 (zg1 (QP.e (yb6 (yf6 (Room.units0 hr)) (za2 0) (za2 1) (ze3 _)))))
noncomputable def xj3  : PSt -> Option (Fl × PSt) :=
  (zb3 (zb9 1 (za5 (fC (.str "abcdefghijklmnopqrstuvwxyzABCDEFGHIJKLMNOPQRSTUVWXYZ0123456789"))))
  (zb3 (zb9 1 (za5 (f2 zc9 (za0 1) (fC (.str "!\"#$&'()*+,-./:;<=>?\x40[\\]^_`{|}~")))))
  (zb3 (zb9 2 (za5 (f2 dIx (ze2 (fKs [.int 1, .int 2, .int 3, .int 4, .int 5, .int 6, .int 7, .int 8, .int 10, .int 11, .int 9, .int 12])) (f2 zh1 (za0 0) (fC (.int 12))))))
  (zb3 (zb9 3 (za5 (fC (.str ""))))
  (zb3 (zu6 4 (zt3 (za1 (za0 2) za3))
   (zb3 (zb9 5 (za5 (f2 zc9 (f2 zl8 (za0 0) (fC (.int 12))) (f2 zq1 (za0 4) (f2 zh1 (f2 zl8 (za0 0) (fC (.int 9000))) (fC (.int 93)))))))
  (zb9 3 (za5 (f2 zc9 (za0 3) (f2 dIx (za0 1) (f2 zh1 (za0 5) (fC (.int 93)))))))))
  (zk4 3))))))
noncomputable abbrev zy0 : Stmt := top 21
theorem zu8 : FnScope ["_law_number_here", "_law_signs", "_law_size", "_law_word_here", "_law_j", "_law_at"] ["_law_number_here"] (zb4 zy0) := ⟨rfl, rfl, rfl, by decide +kernel, rfl, by decide +kernel, by decide +kernel⟩
theorem wd8 {n : Nat} {f : Addr} {fd : FuncData}  (D_l_word : Dn K mg "_law_word" zy0 ["_law_number_here"] f fd)
    (z_range : mg "range" = none) :
    FnOk P w K mg base CX0 (n + 1) f fd ["_law_number_here"] (SpP 1 K κ (gP 1 5 (xj3 ))) :=
  zk0 D_l_word.F zu8 fun cdv A outer s H E B hr =>
  (zb2 (zg0 1 zu8.nd rfl (by first | exact Or.inl rfl | exact Or.inr rfl) rfl rfl (QP.e zf9))
  (zb2 (zg0 1 zu8.nd rfl (by first | exact Or.inl rfl | exact Or.inr rfl) rfl rfl (QP.e (zd2 zl1 (za2 1) (QP.v zf9))))
  (zb2 (zg0 2 zu8.nd rfl (by first | exact Or.inl rfl | exact Or.inr rfl) rfl rfl (QP.e (yg8 (zj0 (zy9 (.int (.int (.int (.int (.int (.int (.int (.int (.int (.int (.int (.int .nil)))))))))))))) (QP.v (zd2 zl5 (za2 0) (QP.v za6))))))
  (zb2 (zg0 3 zu8.nd rfl (by first | exact Or.inl rfl | exact Or.inr rfl) rfl rfl (QP.e zf9))
  (zb2 (yl6 4 PassesOwn.never rfl zu8.nd rfl (by first | exact Or.inl rfl | exact Or.inr rfl) rfl rfl (yb1 rfl z_range (zb0 (za2 2) zc6))
   (zb2 (zg0 5 zu8.nd rfl (by first | exact Or.inl rfl | exact Or.inr rfl) rfl rfl (QP.e (zd2 zl1 (QP.v (zd2 zv2 (za2 0) (QP.v za6))) (QP.v (zd2 yg7 (za2 4) (QP.v (zd2 zl5 (QP.v (zd2 zv2 (za2 0) (QP.v za6))) (QP.v za6))))))))
  (zb6 (zg0 3 zu8.nd rfl (by first | exact Or.inl rfl | exact Or.inr rfl) rfl rfl (QP.e (zd2 zl1 (za2 3) (zd0 (za2 1) (QP.v (zd2 zl5 (za2 5) (QP.v za6))))))))))
  (zb6 (yl5 3 rfl)))))))
noncomputable def ys1 (g_l_word : (List D -> Option D)) : PSt -> Option (Fl × PSt) :=
  (zb3 (zb9 1 (za5 (f2 zl8 (za0 0) (fC (.int 16)))))
  (zb3 (fIf (za8 (fB (f2 dLt (f2 zh1 (za0 0) (fC (.int 16))) (fC (.int 8)))))
   (zd4 (za5 (zh9 (za1 (fC (.str "word")) (za1 (za4 g_l_word (za1 (za0 1) za3)) za3)))))
   zc3)
  (zb3 (fIf (za8 (fB (f2 dLt (f2 zh1 (za0 0) (fC (.int 16))) (fC (.int 13)))))
   (zd4 (za5 (zh9 (za1 (fC (.str "gap")) (za1 (f2 dIx (ze2 (fKs [.str " ", .str " ", .str " ", .str ""])) (f2 zh1 (za0 1) (fC (.int 4)))) za3)))))
   zc3)
  (zb3 (fIf (za8 (fB (f2 dEq (f2 zh1 (za0 0) (fC (.int 16))) (fC (.int 13)))))
   (zd4 (za5 (zh9 (za1 (fC (.str "end")) za3))))
   zc3)
  (zd4 (za5 (zh9 (za1 (fC (.str "stop")) (za1 (f2 dIx (ze2 (za1 (f2 zh1 (f2 zl8 (za0 1) (fC (.int 2))) (fC (.int 10))) (za1 (f2 zh1 (f2 zl8 (za0 1) (fC (.int 2))) (fC (.int 41))) za3))) (f2 zh1 (za0 1) (fC (.int 2)))) za3)))))))))
noncomputable abbrev zy1 : Stmt := top 22
theorem xi4 : FnScope ["_law_number_here", "_law_some"] ["_law_number_here"] (zb4 zy1) := ⟨rfl, rfl, rfl, by decide +kernel, rfl, by decide +kernel, by decide +kernel⟩
theorem wd9 {n : Nat} {f : Addr} {fd : FuncData} {g_l_word : (List D -> Option D)} {f_l_word : Addr} {fd_l_word : FuncData} (D_l_leaf : Dn K mg "_law_leaf" zy1 ["_law_number_here"] f fd)
    (D_l_word : Dn K mg "_law_word" zy0 ["_law_number_here"] f_l_word fd_l_word) (G_l_word : FnOk P w K mg base CX0 n f_l_word fd_l_word ["_law_number_here"] (SpP 1 K κ g_l_word)) :
    FnOk P w K mg base CX0 (n + 1) f fd ["_law_number_here"] (SpP 1 K κ (gP 1 1 (ys1 g_l_word))) :=
  zk0 D_l_leaf.F xi4 fun cdv A outer s H E B hr =>
  (zb2 (zg0 1 xi4.nd rfl (by first | exact Or.inl rfl | exact Or.inr rfl) rfl rfl (QP.e (zd2 zv2 (za2 0) (QP.v za6))))
  (zb2 (zg4 (QT.e (zf4 (yf6 (Room.units0 hr)) (QP.v (zd2 zl5 (za2 0) (QP.v za6))) (QP.v za6) (ze3 _)))
   (zb6 (zg1 (QP.e (zp2 (zc1 zf9 (zc1 (zi4 D_l_word G_l_word hr rfl rfl (zb0 (za2 1) zc6) (zb8 zg7)) ze4))))))
   ze6)
  (zb2 (zg4 (QT.e (zf4 (yf6 (Room.units0 hr)) (QP.v (zd2 zl5 (za2 0) (QP.v za6))) (QP.v za6) (ze3 _)))
   (zb6 (zg1 (QP.e (zp2 (zc1 zf9 (zc1 (yg8 (zj0 (zy9 (.str (.str (.str (.str .nil)))))) (QP.v (zd2 zl5 (za2 1) (QP.v za6)))) ze4))))))
   ze6)
  (zb2 (zg4 (QT.e (zf4 (zn5 (Room.units hr)) (QP.v (zd2 zl5 (za2 0) (QP.v za6))) (QP.v za6) (ze3 _)))
   (zb6 (zg1 (QP.e (zp2 (zc1 zf9 ze4)))))
   ze6)
  (zb6 (zg1 (QP.e (zp2 (zc1 zf9 (zc1 (yg8 (zj0 (zc1 (zd2 zl5 (QP.v (zd2 zv2 (za2 1) (QP.v za6))) (QP.v za6)) (zc1 (zd2 zl5 (QP.v (zd2 zv2 (za2 1) (QP.v za6))) (QP.v za6)) ze4))) (QP.v (zd2 zl5 (za2 1) (QP.v za6)))) ze4))))))))))
noncomputable def yf4  : PSt -> Option (Fl × PSt) :=
  (zb3 (yo2 [1, 2, 3, 4] (zd1 0 zb7 za3 yi2))
  (zb3 (zb9 3 (za5 (f2 zc9 (za0 3) (ze2 (za1 (za4 zg8 (za1 (za0 4) za3)) za3)))))
  (zb3 (fIf (za8 (zf8 (fB (f2 dEq (za0 1) (fC (.str "either")))) (fB (f2 dLt (za4 zd7 (za1 (za0 3) za3)) (fC (.int 2))))))
   (zb9 3 (za5 (f2 zc9 (za0 3) (ze2 (za1 (zh9 (za1 (zh9 (za1 (fC (.str "word")) (za1 (fC (.str "or")) za3))) za3)) za3)))))
   zc3)
  (zb3 (zb9 5 (za5 (zh9 (za1 (fC (.str "group")) (za1 (zc0 (f2 dIx (za0 3) (fC (.int 0)))) za3)))))
  (zb3 (fIf (za8 (fB (f2 dEq (za0 1) (fC (.str "hang")))))
   (zb9 5 (za5 (zh9 (za1 (fC (.str "hang")) (za1 (zc0 (za0 2)) (za1 (zc0 (f2 dIx (za0 3) (fC (.int 0)))) za3))))))
   zc3)
  (zb3 (fIf (za8 (fB (f2 dEq (za0 1) (fC (.str "either")))))
   (zb9 5 (za5 (zh9 (za1 (fC (.str "either")) (za1 (za4 zg8 (za1 (za0 3) za3)) za3)))))
   zc3)
  (zc2 (zd1 0 (zh7 0 (zh7 0 zb7 (zk3 (fC (.int 1)))) (fC (.int 3))) (za1 (zc0 (za0 5)) za3) zc8))))))))
noncomputable abbrev zy2 : Stmt := top 23
theorem zr2 : FnScope ["_law_frames", "_law_kind", "_law_n", "_law_full", "_law_parts", "_law_piece"] ["_law_frames"] (zb4 zy2) := ⟨rfl, rfl, rfl, by decide +kernel, rfl, by decide +kernel, by decide +kernel⟩
theorem we0 {n : Nat} {f : Addr} {fd : FuncData}  (D_l_shut : Dn K mg "_law_shut" zy2 ["_law_frames"] f fd)
    (z_tuple : mg "tuple" = none)
    (z_len : mg "len" = none) :
    FnOk P w K mg base CX0 (n + 1) f fd ["_law_frames"] (SpE 1 K κ (zd3 [true]) (gE 1 5 (zd3 [true]) (yf4 ))) :=
  ya0 D_l_shut.F zr2 (fun i hi => zt5 hi) fun cdv A outer s H E hr =>
  (zb2 (yq4 (is := [1, 2, 3, 4]) rfl (yd0 (zw1 (i := 1) zr2.nd rfl (by first | exact Or.inl rfl | exact Or.inr rfl)) (yd0 (zw1 (i := 2) zr2.nd rfl (by first | exact Or.inl rfl | exact Or.inr rfl)) (yd0 (zw1 (i := 3) zr2.nd rfl (by first | exact Or.inl rfl | exact Or.inr rfl)) (yd0 (zw1 (i := 4) zr2.nd rfl (by first | exact Or.inl rfl | exact Or.inr rfl)) xd5)))) (xn3 (j := 0) rfl (zf1 0)) (fun j hj => by simp only [List.mem_cons, List.not_mem_nil, or_false] at hj; rcases hj with rfl | rfl | rfl | rfl <;> exact ⟨rfl, rfl⟩))
  (zb2 (zg0 3 zr2.nd rfl (by first | exact Or.inl rfl | exact Or.inr rfl) rfl rfl (QP.e (zd2 zl1 (za2 3) (QP.v (zj0 (zc1 (zp3 zw2 rfl z_tuple boot_tuple (zb0 (za2 4) zc6)) ze4))))))
  (zb2 (zg4 (QT.e (ya5 (zs7 (zf4 (zn5 (Room.units hr)) (za2 1) (QP.v zf9) (ze3 _)) (zr4 (zf4 (yf6 (Room.units0 hr)) (QP.v (zk7 zs8 rfl z_len boot_len (zb0 (za2 3) zc6))) (QP.v za6) (ze3 _))))))
   (zb6 (zg0 3 zr2.nd rfl (by first | exact Or.inl rfl | exact Or.inr rfl) rfl rfl (QP.e (zd2 zl1 (za2 3) (QP.v (zj0 (zc1 (zp2 (zc1 (zp2 (zc1 zf9 (zc1 zf9 ze4))) ze4)) ze4)))))))
   ze6)
  (zb2 (zg0 5 zr2.nd rfl (by first | exact Or.inl rfl | exact Or.inr rfl) rfl rfl (QP.e (zp2 (zc1 zf9 (zc1 (QV.p (zd0 (za2 3) (QP.v za6))) ze4)))))
  (zb2 (zg4 (QT.e (zf4 (zn5 (Room.units hr)) (za2 1) (QP.v zf9) (ze3 _)))
   (zb6 (zg0 5 zr2.nd rfl (by first | exact Or.inl rfl | exact Or.inr rfl) rfl rfl (QP.e (zp2 (zc1 zf9 (zc1 (QV.p (za2 2)) (zc1 (QV.p (zd0 (za2 3) (QP.v za6))) ze4)))))))
   ze6)
  (zb2 (zg4 (QT.e (zf4 (zn5 (Room.units hr)) (za2 1) (QP.v zf9) (ze3 _)))
   (zb6 (zg0 5 zr2.nd rfl (by first | exact Or.inl rfl | exact Or.inr rfl) rfl rfl (QP.e (zp2 (zc1 zf9 (zc1 (zp3 zw2 rfl z_tuple boot_tuple (zb0 (za2 3) zc6)) ze4))))))
   ze6)
  (zb6 (zl2 (zr0 (j := 0) rfl (zr8 (zr8 (zf1 0) (QP.v (yb8 (QP.v za6)))) (QP.v za6)) (zc1 (QV.p (za2 5)) ze4))))))))))
noncomputable def xr0 (g_l_mixed : (List D -> Option D)) (g_l_shut : (List D -> Option (D × List D))) (g_l_leaf : (List D -> Option D)) : PSt -> Option (Fl × PSt) :=
  (zb3 (zb9 4 (za5 (ze2 (za1 (ze2 (za1 (fC (.str "top")) (za1 (fC (.int 0)) (za1 (ze2 za3) (za1 (ze2 za3) za3))))) za3))))
  (zb3 (zu6 5 (yu0 (za1 (za0 1) (za1 (f2 zc9 (za0 1) (za0 2)) za3)))
   (zb3 (zb9 6 (za5 (za4 g_l_mixed (za1 (za0 0) (za1 (za0 5) (za1 (fC (.int 31)) za3))))))
  (zb3 (zb9 7 (za5 (f2 zh1 (za0 6) (fC (.int 13)))))
  (zb3 (zb9 8 (za5 (zc0 (f2 dIx (f2 dIx (za0 4) (zk3 (fC (.int 1)))) (fC (.int 0))))))
  (fIf (za8 (zf8 (fB (f2 dLt (za0 7) (fC (.int 4)))) (fB (f2 dLe (za4 zd7 (za1 (za0 4) za3)) (za0 3)))))
   (zb3 (zb9 9 (za5 (f2 dIx (ze2 (fKs [.str "group", .str "group", .str "hang", .str "either"])) (za0 7))))
  (zc2 (zd1 4 zb7 (za1 (ze2 (za1 (zc0 (za0 9)) (za1 (f2 dIx (ze2 (za1 (fC (.int 1)) (za1 (fC (.int 2)) (za1 (fC (.int 4)) (za1 (f2 zh1 (f2 zl8 (za0 6) (fC (.int 13))) (fC (.int 13))) za3))))) (f2 zh1 (f2 zl8 (za0 6) (fC (.int 169))) (fC (.int 4)))) (za1 (ze2 za3) (za1 (ze2 za3) za3))))) za3) zc8)))
   (fIf (za8 (zf8 (fB (f2 dEq (za0 7) (fC (.int 4)))) (fB (f2 dGt (za4 zd7 (za1 (za0 4) za3)) (fC (.int 1))))))
   (zc2 (fIO [.io 4] g_l_shut))
   (fIf (za8 (zf8 (fB (f2 dLt (za0 7) (fC (.int 7)))) (zf8 (fB (f2 dEq (za0 8) (fC (.str "either")))) (fB (f2 dLt (za4 zd7 (za1 (f2 dIx (f2 dIx (za0 4) (zk3 (fC (.int 1)))) (fC (.int 2))) za3)) (fC (.int 3)))))))
   (zb3 (zc2 (zd1 4 (zh7 4 (zh7 4 zb7 (zk3 (fC (.int 1)))) (fC (.int 2))) (za1 (za4 zg8 (za1 (f2 dIx (f2 dIx (za0 4) (zk3 (fC (.int 1)))) (fC (.int 3))) za3)) za3) zc8))
  (zi0 4 (zh7 4 zb7 (zk3 (fC (.int 1)))) (fC (.int 3)) (ze2 za3)))
   (zc2 (zd1 4 (zh7 4 (zh7 4 zb7 (zk3 (fC (.int 1)))) (fC (.int 3))) (za1 (za4 g_l_leaf (za1 (za4 g_l_mixed (za1 (za0 0) (za1 (za0 5) (za1 (fC (.int 32)) za3)))) za3)) za3) zc8)))))))))
  (zb3 (zv9 (za8 (fB (f2 dGt (za4 zd7 (za1 (za0 4) za3)) (fC (.int 1)))))
   (zc2 (fIO [.io 4] g_l_shut)) 400)
  (zd4 (za5 (za4 zg8 (za1 (f2 dIx (f2 dIx (za0 4) (fC (.int 0))) (fC (.int 3))) za3)))))))
noncomputable abbrev ya9 : Stmt := top 24
theorem ya6 : FnScope ["_law_script", "_law_at", "_law_many", "_law_nest", "_law_frames", "_law_k", "_law_number_here", "_law_way", "_law_kind", "_law_new"] ["_law_script", "_law_at", "_law_many", "_law_nest"] (zb4 ya9) := ⟨rfl, rfl, rfl, by decide +kernel, rfl, by decide +kernel, by decide +kernel⟩
theorem wj9 {n : Nat} {f : Addr} {fd : FuncData} {g_l_mixed : (List D -> Option D)} {f_l_mixed : Addr} {fd_l_mixed : FuncData} {g_l_shut : (List D -> Option (D × List D))} {f_l_shut : Addr} {fd_l_shut : FuncData} {g_l_leaf : (List D -> Option D)} {f_l_leaf : Addr} {fd_l_leaf : FuncData} (D_l_row : Dn K mg "_law_row" ya9 ["_law_script", "_law_at", "_law_many", "_law_nest"] f fd)
    (D_l_mixed : Dn K mg "_law_mixed" zp0 ["_law_script", "_law_k", "_law_salt"] f_l_mixed fd_l_mixed) (G_l_mixed : FnOk P w K mg base CX0 n f_l_mixed fd_l_mixed ["_law_script", "_law_k", "_law_salt"] (SpP 3 K κ g_l_mixed))
    (D_l_shut : Dn K mg "_law_shut" zy2 ["_law_frames"] f_l_shut fd_l_shut) (G_l_shut : FnOk P w K mg base CX0 n f_l_shut fd_l_shut ["_law_frames"] (SpE 1 K κ (zd3 [true]) g_l_shut))
    (D_l_leaf : Dn K mg "_law_leaf" zy1 ["_law_number_here"] f_l_leaf fd_l_leaf) (G_l_leaf : FnOk P w K mg base CX0 n f_l_leaf fd_l_leaf ["_law_number_here"] (SpP 1 K κ g_l_leaf))
    (z_range : mg "range" = none)
    (z_tuple : mg "tuple" = none)
    (z_len : mg "len" = none) :
    FnOk P w K mg base CX0 (n + 1) f fd ["_law_script", "_law_at", "_law_many", "_law_nest"] (SpP 4 K κ (gP 4 6 (xr0 g_l_mixed g_l_shut g_l_leaf))) :=
  zk0 D_l_row.F ya6 fun cdv A outer s H E B hr =>
  (zb2 (zg0 4 ya6.nd rfl (by first | exact Or.inl rfl | exact Or.inr rfl) rfl rfl (QP.e (zj0 (zc1 (zj0 (zc1 zf9 (zc1 za6 (zc1 (zj0 ze4) (zc1 (zj0 ze4) ze4))))) ze4))))
  (zb2 (yl6 5 PassesOwn.never rfl ya6.nd rfl (by first | exact Or.inl rfl | exact Or.inr rfl) rfl rfl (yp8 rfl z_range (zb0 (za2 1) (zb0 (QP.v (zd2 zl1 (za2 1) (za2 2))) zc6)))
   (zb2 (zg0 6 ya6.nd rfl (by first | exact Or.inl rfl | exact Or.inr rfl) rfl rfl (QP.e (zi4 D_l_mixed G_l_mixed hr rfl rfl (zb0 (za2 0) (zb0 (za2 5) (zb0 (QP.v za6) zc6))) (zb8 (zb8 (zb8 zg7))))))
  (zb2 (zg0 7 ya6.nd rfl (by first | exact Or.inl rfl | exact Or.inr rfl) rfl rfl (QP.e (zd2 zl5 (za2 6) (QP.v za6))))
  (zb2 (zg0 8 ya6.nd rfl (by first | exact Or.inl rfl | exact Or.inr rfl) rfl rfl (QP.e (QV.p (zd0 (zd0 (za2 4) (QP.v (yb8 (QP.v za6)))) (QP.v za6)))))
  (zb6 (zg4 (QT.e (ya5 (zs7 (zf4 (yf6 (Room.units0 hr)) (za2 7) (QP.v za6) (ze3 _)) (zr4 (zf4 xx3 (QP.v (zk7 zs8 rfl z_len boot_len (zb0 (za2 4) zc6))) (za2 3) (ze3 _))))))
   (zb2 (zg0 9 ya6.nd rfl (by first | exact Or.inl rfl | exact Or.inr rfl) rfl rfl (QP.e (yg8 (zj0 (zy9 (.str (.str (.str (.str .nil)))))) (za2 7))))
  (zb6 (zl2 (zr0 (j := 4) rfl (zf1 4) (zc1 (zj0 (zc1 (QV.p (za2 9)) (zc1 (yg8 (zj0 (zc1 za6 (zc1 za6 (zc1 za6 (zc1 (zd2 zl5 (QP.v (zd2 zv2 (za2 6) (QP.v za6))) (QP.v za6)) ze4))))) (QP.v (zd2 zl5 (QP.v (zd2 zv2 (za2 6) (QP.v za6))) (QP.v za6)))) (zc1 (zj0 ze4) (zc1 (zj0 ze4) ze4))))) ze4)))))
   (zb6 (zg4 (QT.e (ya5 (zs7 (zf4 (zn5 (Room.units hr)) (za2 7) (QP.v za6) (ze3 _)) (zr4 (zf4 yv8 (QP.v (zk7 zs8 rfl z_len boot_len (zb0 (za2 4) zc6))) (QP.v za6) (ze3 _))))))
   (zb6 (zl2 (zw7 D_l_shut G_l_shut hr rfl (zt0 4 zj6) rfl (zm8 rfl) (show List.Nodup ([4] : List Nat) by decide) (fun j hj => by have h : j ∈ ([4] : List Nat) := hj; simp only [List.mem_cons, List.not_mem_nil, or_false] at h; rcases h with rfl <;> rfl))))
   (zb6 (zg4 (QT.e (ya5 (zs7 (zf4 (yf6 (Room.units0 hr)) (za2 7) (QP.v za6) (ze3 _)) (zs7 (zf4 (zn5 (Room.units hr)) (za2 8) (QP.v zf9) (ze3 _)) (zr4 (zf4 (yf6 (Room.units0 hr)) (QP.v (zk7 zs8 rfl z_len boot_len (zb0 (zd0 (zd0 (za2 4) (QP.v (yb8 (QP.v za6)))) (QP.v za6)) zc6))) (QP.v za6) (ze3 _)))))))
   (zb2 (zl2 (zr0 (j := 4) rfl (zr8 (zr8 (zf1 4) (QP.v (yb8 (QP.v za6)))) (QP.v za6)) (zc1 (zp3 zw2 rfl z_tuple boot_tuple (zb0 (zd0 (zd0 (za2 4) (QP.v (yb8 (QP.v za6)))) (QP.v za6)) zc6)) ze4)))
  (zb6 (zx2 (j := 4) rfl (zj0 ze4) (zr8 (zf1 4) (QP.v (yb8 (QP.v za6)))) (QP.v za6))))
   (zb6 (zl2 (zr0 (j := 4) rfl (zr8 (zr8 (zf1 4) (QP.v (yb8 (QP.v za6)))) (QP.v za6)) (zc1 (zi4 D_l_leaf G_l_leaf hr rfl rfl (zb0 (QP.v (zi4 D_l_mixed G_l_mixed hr rfl rfl (zb0 (za2 0) (zb0 (za2 5) (zb0 (QP.v za6) zc6))) (zb8 (zb8 (zb8 zg7))))) zc6) (zb8 zg7)) ze4))))))))))))))
  (zb2 (yw1 400 PassesOwn.never (QT.e (zf4 yv8 (QP.v (zk7 zs8 rfl z_len boot_len (zb0 (za2 4) zc6))) (QP.v za6) (ze3 _)))
   (zb6 (zl2 (zw7 D_l_shut G_l_shut hr rfl (zt0 4 zj6) rfl (zm8 rfl) (show List.Nodup ([4] : List Nat) by decide) (fun j hj => by have h : j ∈ ([4] : List Nat) := hj; simp only [List.mem_cons, List.not_mem_nil, or_false] at h; rcases h with rfl <;> rfl)))))
  (zb6 (zg1 (QP.e (zp3 zw2 rfl z_tuple boot_tuple (zb0 (zd0 (zd0 (za2 4) (QP.v za6)) (QP.v za6)) zc6))))))))
noncomputable def yj9 (g_l_mixed : (List D -> Option D)) (g_l_cell_at : (List D -> Option D)) : PSt -> Option (Fl × PSt) :=
  (zb3 (zb9 4 (za5 (za4 g_l_mixed (za1 (za0 0) (za1 (f2 zc9 (f2 dIx (za0 1) (fC (.int 2))) (fC (.int 40))) (za1 (za0 2) za3))))))
  (zb3 (fIf (za8 (fB (f2 dEq (za0 2) (fC (.int 1)))))
   (zb3 (zb9 5 (za5 (f2 dIx (ze2 (fKs [.int 1, .int 12, .int 144, .int 1728, .int 20736, .int 248832, .int 2985984, .int 35831808])) (f2 zh1 (f2 dIx (za0 1) (fC (.int 2))) (fC (.int 8))))))
  (zb9 4 (za5 (f2 zl8 (za4 g_l_cell_at (za1 (za0 0) (za1 (f2 zc9 (fC (.int 40)) (f2 zl8 (f2 dIx (za0 1) (fC (.int 2))) (fC (.int 8)))) za3))) (za0 5)))))
   zc3)
  (zb3 (zi0 1 zb7 (fC (.int 2)) (f2 zc9 (f2 dIx (za0 1) (fC (.int 2))) (fC (.int 1))))
  (zb3 (zc2 (zd1 1 (zh7 1 zb7 (fC (.int 1))) (za1 (f2 zh1 (za0 4) (za0 3)) za3) zc8))
  (zd4 (za5 (f2 zh1 (za0 4) (za0 3))))))))
noncomputable abbrev zy3 : Stmt := top 25
theorem yj1 : FnScope ["_law_script", "_law_state", "_law_salt", "_law_many", "_law_number_here", "_law_share"] ["_law_script", "_law_state", "_law_salt", "_law_many"] (zb4 zy3) := ⟨rfl, rfl, rfl, by decide +kernel, rfl, by decide +kernel, by decide +kernel⟩
theorem we1 {n : Nat} {f : Addr} {fd : FuncData} {g_l_mixed : (List D -> Option D)} {f_l_mixed : Addr} {fd_l_mixed : FuncData} {g_l_cell_at : (List D -> Option D)} {f_l_cell_at : Addr} {fd_l_cell_at : FuncData} (D_l_next : Dn K mg "_law_next" zy3 ["_law_script", "_law_state", "_law_salt", "_law_many"] f fd)
    (D_l_mixed : Dn K mg "_law_mixed" zp0 ["_law_script", "_law_k", "_law_salt"] f_l_mixed fd_l_mixed) (G_l_mixed : FnOk P w K mg base CX0 n f_l_mixed fd_l_mixed ["_law_script", "_law_k", "_law_salt"] (SpP 3 K κ g_l_mixed))
    (D_l_cell_at : Dn K mg "_law_cell_at" zm7 ["_law_script", "_law_k"] f_l_cell_at fd_l_cell_at) (G_l_cell_at : FnOk P w K mg base CX0 n f_l_cell_at fd_l_cell_at ["_law_script", "_law_k"] (SpP 2 K κ g_l_cell_at)) :
    FnOk P w K mg base CX0 (n + 1) f fd ["_law_script", "_law_state", "_law_salt", "_law_many"] (SpE 4 K κ (zd3 [false, true, false, false]) (gE 4 2 (zd3 [false, true, false, false]) (yj9 g_l_mixed g_l_cell_at))) :=
  ya0 D_l_next.F yj1 (fun i hi => zt5 hi) fun cdv A outer s H E hr =>
  (zb2 (zg0 4 yj1.nd rfl (by first | exact Or.inl rfl | exact Or.inr rfl) rfl rfl (QP.e (zi4 D_l_mixed G_l_mixed hr rfl rfl (zb0 (za2 0) (zb0 (QP.v (zd2 zl1 (zd0 (za2 1) (QP.v za6)) (QP.v za6))) (zb0 (za2 2) zc6))) (zb8 (zb8 (zb8 zg7))))))
  (zb2 (zg4 (QT.e (zf4 (zn5 (Room.units hr)) (za2 2) (QP.v za6) (ze3 _)))
   (zb2 (zg0 5 yj1.nd rfl (by first | exact Or.inl rfl | exact Or.inr rfl) rfl rfl (QP.e (yg8 (zj0 (zy9 (.int (.int (.int (.int (.int (.int (.int (.int .nil)))))))))) (QP.v (zd2 zl5 (zd0 (za2 1) (QP.v za6)) (QP.v za6))))))
  (zb6 (zg0 4 yj1.nd rfl (by first | exact Or.inl rfl | exact Or.inr rfl) rfl rfl (QP.e (zd2 zv2 (QP.v (zi4 D_l_cell_at G_l_cell_at hr rfl rfl (zb0 (za2 0) (zb0 (QP.v (zd2 zl1 (QP.v za6) (QP.v (zd2 zv2 (zd0 (za2 1) (QP.v za6)) (QP.v za6))))) zc6)) (zb8 (zb8 zg7)))) (za2 5))))))
   ze6)
  (zb2 (zx2 (j := 1) rfl (zd2 zl1 (zd0 (za2 1) (QP.v za6)) (QP.v za6)) (zf1 1) (QP.v za6))
  (zb2 (zl2 (zr0 (j := 1) rfl (zr8 (zf1 1) (QP.v za6)) (zc1 (zd2 zl5 (za2 4) (za2 3)) ze4)))
  (zb6 (zg1 (QP.e (zd2 zl5 (za2 4) (za2 3)))))))))
noncomputable def ys2  : PSt -> Option (Fl × PSt) :=
  (zi0 0 zb7 (fC (.int 0)) (f2 zc9 (f2 zc9 (f2 dIx (za0 0) (fC (.int 0))) (fC (.str "\n"))) (f2 zq1 (fC (.str " ")) (za0 1))))
noncomputable abbrev zy4 : Stmt := top 26
theorem we2 : FnScope ["_law_state", "_law_blanks"] ["_law_state", "_law_blanks"] (zb4 zy4) := ⟨rfl, rfl, rfl, by decide +kernel, rfl, by decide +kernel, by decide +kernel⟩
theorem we3 {n : Nat} {f : Addr} {fd : FuncData}  (D_l_line : Dn K mg "_law_line" zy4 ["_law_state", "_law_blanks"] f fd)
     :
    FnOk P w K mg base CX0 (n + 1) f fd ["_law_state", "_law_blanks"] (SpE 2 K κ (zd3 [true, false]) (gE 2 0 (zd3 [true, false]) (ys2 ))) :=
  ya0 D_l_line.F we2 (fun i hi => zt5 hi) fun cdv A outer s H E hr =>
  (zb6 (zx2 (j := 0) rfl (zd2 zl1 (QP.v (zd2 zl1 (zd0 (za2 0) (QP.v za6)) (QP.v zf9))) (QP.v (zd2 yg7 (QP.v zf9) (za2 1)))) (zf1 0) (QP.v za6)))
noncomputable def yk8  : PSt -> Option (Fl × PSt) :=
  (zd4 (za5 (f2 zl7 (f2 zl7 (za4 zd7 (za1 (f2 dIx (za0 0) (fC (.int 0))) za3)) (fC (.int 1))) (fMt yr9 (f2 dIx (za0 0) (fC (.int 0))) (za1 (fC (.str "\n")) za3)))))
noncomputable abbrev zt8 : Stmt := top 27
theorem xr9 : FnScope ["_law_state"] ["_law_state"] (zb4 zt8) := ⟨rfl, rfl, rfl, by decide +kernel, rfl, by decide +kernel, by decide +kernel⟩
theorem xs0 {n : Nat} {f : Addr} {fd : FuncData}  (D_l_column : Dn K mg "_law_column" zt8 ["_law_state"] f fd)
    (z_len : mg "len" = none) :
    FnOk P w K mg base CX0 (n + 1) f fd ["_law_state"] (SpP 1 K κ (gP 1 0 (yk8 ))) :=
  zk0 D_l_column.F xr9 fun cdv A outer s H E B hr =>
  (zb6 (zg1 (QP.e (zd2 yj0 (QP.v (zd2 yj0 (QP.v (zk7 zs8 rfl z_len boot_len (zb0 (zd0 (za2 0) (QP.v za6)) zc6))) (QP.v za6))) (QP.v (yz4 PySem.F.slot_str_rfind PySem.F.type_str_rfind xf2 (zd0 (za2 0) (QP.v za6)) (zb0 (QP.v zf9) zc6)))))))
noncomputable def yo4 (g_l_line : (List D -> Option (D × List D))) (g_l_column : (List D -> Option D)) (g_l_next : (List D -> Option (D × List D))) (g_l_set : (List D -> Option (D × List D))) : PSt -> Option (Fl × PSt) :=
  (zb3 (zu6 6 (zq7 (za0 1))
   (zb3 (fIf (za8 (fB (f2 dEq (f2 dIx (za0 6) (fC (.int 0))) (fC (.str "word")))))
   (zi0 4 zb7 (fC (.int 0)) (f2 zc9 (f2 dIx (za0 4) (fC (.int 0))) (f2 dIx (za0 6) (fC (.int 1)))))
   zc3)
  (zb3 (fIf (za8 (zf8 (fB (f2 dEq (f2 dIx (za0 6) (fC (.int 0))) (fC (.str "gap")))) (fT (za0 2))))
   (zi0 4 zb7 (fC (.int 0)) (f2 zc9 (f2 dIx (za0 4) (fC (.int 0))) (f2 dIx (za0 6) (fC (.int 1)))))
   zc3)
  (zb3 (fIf (za8 (zf8 (fB (f2 dEq (f2 dIx (za0 6) (fC (.int 0))) (fC (.str "gap")))) (zh4 (fT (za0 2)))))
   (zc2 (fIO [.io 4, .im (za0 3)] g_l_line))
   zc3)
  (zb3 (fIf (za8 (fB (f2 dEq (f2 dIx (za0 6) (fC (.int 0))) (fC (.str "end")))))
   (zc2 (fIO [.io 4, .im (za0 3)] g_l_line))
   zc3)
  (zb3 (fIf (za8 (fB (f2 dEq (f2 dIx (za0 6) (fC (.int 0))) (fC (.str "stop")))))
   (zb3 (fIf (za8 (zf8 (fT (za0 2)) (fB (f2 dGt (za4 g_l_column (za1 (za0 4) za3)) (f2 dIx (za0 6) (fC (.int 1)))))))
   (zd4 (za5 (fC (.bl false))))
   zc3)
  (zb3 (fIf (za8 (fB (f2 dGt (za4 g_l_column (za1 (za0 4) za3)) (f2 dIx (za0 6) (fC (.int 1))))))
   (zc2 (fIO [.io 4, .im (fC (.int 0))] g_l_line))
   zc3)
  (zi0 4 zb7 (fC (.int 0)) (f2 zc9 (f2 dIx (za0 4) (fC (.int 0))) (f2 zq1 (fC (.str " ")) (f2 zl7 (f2 dIx (za0 6) (fC (.int 1))) (za4 g_l_column (za1 (za0 4) za3))))))))
   zc3)
  (zb3 (fIf (za8 (zf8 (fB (f2 dEq (f2 dIx (za0 6) (fC (.int 0))) (fC (.str "end")))) (fT (za0 2))))
   (zd4 (za5 (fC (.bl false))))
   zc3)
  (zb3 (fIf (za8 (fB (f2 dEq (f2 dIx (za0 6) (fC (.int 0))) (fC (.str "group")))))
   (zb3 (zb9 7 (za5 (zc0 (za0 2))))
  (zb3 (fIf (za8 (zf8 (zh4 (fT (za0 2))) (fB (f2 dGt (za0 5) (fC (.int 0))))))
   (zb9 7 (fE2 dEq (fIO [.im (za0 0), .io 4, .im (za0 5), .im (fC (.int 2))] g_l_next) (fC (.int 0))))
   (fIf (za8 (zh4 (fT (za0 2))))
   (zc2 (zd1 4 (zh7 4 zb7 (fC (.int 1))) (za1 (fC (.int 1)) za3) zc8))
   zc3))
  (fIf (ya1 (fTE (fIO [.im (za0 0), .im (f2 dIx (za0 6) (fC (.int 1))), .im (za0 7), .im (za0 3), .io 4, .im (za0 5)] g_l_set)))
   (zd4 (za5 (fC (.bl false))))
   zc3)))
   zc3)
  (zb3 (fIf (za8 (fB (f2 dEq (f2 dIx (za0 6) (fC (.int 0))) (fC (.str "hang")))))
   (zb3 (zb9 8 (za5 (f2 zc9 (za0 3) (f2 dIx (za0 6) (fC (.int 1))))))
  (fIf (ya1 (fTE (fIO [.im (za0 0), .im (f2 dIx (za0 6) (fC (.int 2))), .im (za0 2), .im (za0 8), .io 4, .im (za0 5)] g_l_set)))
   (zd4 (za5 (fC (.bl false))))
   zc3))
   zc3)
  (fIf (za8 (fB (f2 dEq (f2 dIx (za0 6) (fC (.int 0))) (fC (.str "either")))))
   (zb3 (zb9 9 (fIO [.im (za0 0), .io 4, .im (f2 zc9 (za0 5) (f2 zq1 (fC (.int 9)) (za4 yc3 (za1 (f2 dEq (za0 5) (fC (.int 0))) za3)))), .im (za4 zd7 (za1 (f2 dIx (za0 6) (fC (.int 1))) za3))] g_l_next))
  (fIf (ya1 (fTE (fIO [.im (za0 0), .im (f2 dIx (f2 dIx (za0 6) (fC (.int 1))) (za0 9)), .im (za0 2), .im (za0 3), .io 4, .im (za0 5)] g_l_set)))
   (zd4 (za5 (fC (.bl false))))
   zc3))
   zc3))))))))))
  (zd4 (za5 (fC (.bl true)))))
noncomputable abbrev yb0 : Stmt := top 28
theorem yd5 : FnScope ["_law_script", "_law_row_here", "_law_flat", "_law_hang", "_law_state", "_law_salt", "_law_piece", "_law_inner", "_law_blanks", "_law_at"] ["_law_script", "_law_row_here", "_law_flat", "_law_hang", "_law_state", "_law_salt"] (zb4 yb0) := ⟨rfl, rfl, rfl, by decide +kernel, rfl, by decide +kernel, by decide +kernel⟩
theorem wk0 {n : Nat} {f : Addr} {fd : FuncData} {g_l_line : (List D -> Option (D × List D))} {f_l_line : Addr} {fd_l_line : FuncData} {g_l_column : (List D -> Option D)} {f_l_column : Addr} {fd_l_column : FuncData} {g_l_next : (List D -> Option (D × List D))} {f_l_next : Addr} {fd_l_next : FuncData} {g_l_set : (List D -> Option (D × List D))} (D_l_set : Dn K mg "_law_set" yb0 ["_law_script", "_law_row_here", "_law_flat", "_law_hang", "_law_state", "_law_salt"] f fd)
    (D_l_line : Dn K mg "_law_line" zy4 ["_law_state", "_law_blanks"] f_l_line fd_l_line) (G_l_line : FnOk P w K mg base CX0 n f_l_line fd_l_line ["_law_state", "_law_blanks"] (SpE 2 K κ (zd3 [true, false]) g_l_line))
    (D_l_column : Dn K mg "_law_column" zt8 ["_law_state"] f_l_column fd_l_column) (G_l_column : FnOk P w K mg base CX0 n f_l_column fd_l_column ["_law_state"] (SpP 1 K κ g_l_column))
    (D_l_next : Dn K mg "_law_next" zy3 ["_law_script", "_law_state", "_law_salt", "_law_many"] f_l_next fd_l_next) (G_l_next : FnOk P w K mg base CX0 n f_l_next fd_l_next ["_law_script", "_law_state", "_law_salt", "_law_many"] (SpE 4 K κ (zd3 [false, true, false, false]) g_l_next))
    (G_l_set : FnOk P w K mg base CX0 n f fd ["_law_script", "_law_row_here", "_law_flat", "_law_hang", "_law_state", "_law_salt"] (SpE 6 K κ (zd3 [false, false, false, false, true, false]) g_l_set))
    (z_len : mg "len" = none)
    (z_int : mg "int" = none) :
    FnOk P w K mg base CX0 (n + 1) f fd ["_law_script", "_law_row_here", "_law_flat", "_law_hang", "_law_state", "_law_salt"] (SpE 6 K κ (zd3 [false, false, false, false, true, false]) (gE 6 4 (zd3 [false, false, false, false, true, false]) (yo4 g_l_line g_l_column g_l_next g_l_set))) :=
  ya0 D_l_set.F yd5 (fun i hi => zt5 hi) fun cdv A outer s H E hr =>
  (zb2 (ys9 6 1 PassesOwn.never rfl yd5.nd rfl (by first | exact Or.inl rfl | exact Or.inr rfl) rfl rfl rfl
   (zb2 (zg4 (QT.e (zf4 (zn5 (Room.units hr)) (zd0 (za2 6) (QP.v za6)) (QP.v zf9) (ze3 _)))
   (zb6 (zx2 (j := 4) rfl (zd2 zl1 (zd0 (za2 4) (QP.v za6)) (zd0 (za2 6) (QP.v za6))) (zf1 4) (QP.v za6)))
   ze6)
  (zb2 (zg4 (QT.e (ya5 (zs7 (zf4 (zn5 (Room.units hr)) (zd0 (za2 6) (QP.v za6)) (QP.v zf9) (ze3 _)) (zr4 (zr7 (za2 2))))))
   (zb6 (zx2 (j := 4) rfl (zd2 zl1 (zd0 (za2 4) (QP.v za6)) (zd0 (za2 6) (QP.v za6))) (zf1 4) (QP.v za6)))
   ze6)
  (zb2 (zg4 (QT.e (ya5 (zs7 (zf4 (zn5 (Room.units hr)) (zd0 (za2 6) (QP.v za6)) (QP.v zf9) (ze3 _)) (zr4 (yf0 (zr7 (za2 2)))))))
   (zb6 (zl2 (zw7 D_l_line G_l_line hr rfl (zt0 4 (zf0 (za2 3) zj6)) rfl (zm8 rfl) (show List.Nodup ([4] : List Nat) by decide) (fun j hj => by have h : j ∈ ([4] : List Nat) := hj; simp only [List.mem_cons, List.not_mem_nil, or_false] at h; rcases h with rfl <;> rfl))))
   ze6)
  (zb2 (zg4 (QT.e (zf4 (zn5 (Room.units hr)) (zd0 (za2 6) (QP.v za6)) (QP.v zf9) (ze3 _)))
   (zb6 (zl2 (zw7 D_l_line G_l_line hr rfl (zt0 4 (zf0 (za2 3) zj6)) rfl (zm8 rfl) (show List.Nodup ([4] : List Nat) by decide) (fun j hj => by have h : j ∈ ([4] : List Nat) := hj; simp only [List.mem_cons, List.not_mem_nil, or_false] at h; rcases h with rfl <;> rfl))))
   ze6)
  (zb2 (zg4 (QT.e (zf4 (zn5 (Room.units hr)) (zd0 (za2 6) (QP.v za6)) (QP.v zf9) (ze3 _)))
   (zb2 (zg4 (QT.e (ya5 (zs7 (zr7 (za2 2)) (zr4 (zf4 yv8 (QP.v (zi4 D_l_column G_l_column hr rfl rfl (zb0 (za2 4) zc6) (zb8 zg7))) (zd0 (za2 6) (QP.v za6)) (ze3 _))))))
   (zb6 (zg1 (QP.e zs3)))
   ze6)
  (zb2 (zg4 (QT.e (zf4 yv8 (QP.v (zi4 D_l_column G_l_column hr rfl rfl (zb0 (za2 4) zc6) (zb8 zg7))) (zd0 (za2 6) (QP.v za6)) (ze3 _)))
   (zb6 (zl2 (zw7 D_l_line G_l_line hr rfl (zt0 4 (zf0 (QP.v za6) zj6)) rfl (zm8 rfl) (show List.Nodup ([4] : List Nat) by decide) (fun j hj => by have h : j ∈ ([4] : List Nat) := hj; simp only [List.mem_cons, List.not_mem_nil, or_false] at h; rcases h with rfl <;> rfl))))
   ze6)
  (zb6 (zx2 (j := 4) rfl (zd2 zl1 (zd0 (za2 4) (QP.v za6)) (QP.v (zd2 yg7 (QP.v zf9) (QP.v (zd2 yj0 (zd0 (za2 6) (QP.v za6)) (QP.v (zi4 D_l_column G_l_column hr rfl rfl (zb0 (za2 4) zc6) (zb8 zg7)))))))) (zf1 4) (QP.v za6)))))
   ze6)
  (zb2 (zg4 (QT.e (ya5 (zs7 (zf4 (zn5 (Room.units hr)) (zd0 (za2 6) (QP.v za6)) (QP.v zf9) (ze3 _)) (zr4 (zr7 (za2 2))))))
   (zb6 (zg1 (QP.e zs3)))
   ze6)
  (zb2 (zg4 (QT.e (zf4 (zn5 (Room.units hr)) (zd0 (za2 6) (QP.v za6)) (QP.v zf9) (ze3 _)))
   (zb2 (zg0 7 yd5.nd rfl (by first | exact Or.inl rfl | exact Or.inr rfl) rfl rfl (QP.e (QV.p (za2 2))))
  (zb2 (zg4 (QT.e (ya5 (zs7 (yf0 (zr7 (za2 2))) (zr4 (zf4 yv8 (za2 5) (QP.v za6) (ze3 _))))))
   (zb6 (zg0 7 yd5.nd rfl (by first | exact Or.inl rfl | exact Or.inr rfl) rfl rfl (xn9 (zn5 (Room.units hr)) (zw7 D_l_next G_l_next hr rfl (zf0 (za2 0) (zt0 4 (zf0 (za2 5) (zf0 (QP.v za6) zj6)))) rfl (zm8 rfl) (show List.Nodup ([4] : List Nat) by decide) (fun j hj => by have h : j ∈ ([4] : List Nat) := hj; simp only [List.mem_cons, List.not_mem_nil, or_false] at h; rcases h with rfl <;> rfl)) (QP.v za6) (ze3 _))))
   (zb6 (zg4 (QT.e (yf0 (zr7 (za2 2))))
   (zb6 (zl2 (zr0 (j := 4) rfl (zr8 (zf1 4) (QP.v za6)) (zc1 za6 ze4))))
   ze6)))
  (zb6 (zg4 (yl7 (yh2 (zw7 D_l_set G_l_set hr rfl (zf0 (za2 0) (zf0 (zd0 (za2 6) (QP.v za6)) (zf0 (za2 7) (zf0 (za2 3) (zt0 4 (zf0 (za2 5) zj6)))))) rfl (zm8 rfl) (show List.Nodup ([4] : List Nat) by decide) (fun j hj => by have h : j ∈ ([4] : List Nat) := hj; simp only [List.mem_cons, List.not_mem_nil, or_false] at h; rcases h with rfl <;> rfl))))
   (zb6 (zg1 (QP.e zs3)))
   ze6))))
   ze6)
  (zb2 (zg4 (QT.e (zf4 (zn5 (Room.units hr)) (zd0 (za2 6) (QP.v za6)) (QP.v zf9) (ze3 _)))
   (zb2 (zg0 8 yd5.nd rfl (by first | exact Or.inl rfl | exact Or.inr rfl) rfl rfl (QP.e (zd2 zl1 (za2 3) (zd0 (za2 6) (QP.v za6)))))
  (zb6 (zg4 (yl7 (yh2 (zw7 D_l_set G_l_set hr rfl (zf0 (za2 0) (zf0 (zd0 (za2 6) (QP.v za6)) (zf0 (za2 2) (zf0 (za2 8) (zt0 4 (zf0 (za2 5) zj6)))))) rfl (zm8 rfl) (show List.Nodup ([4] : List Nat) by decide) (fun j hj => by have h : j ∈ ([4] : List Nat) := hj; simp only [List.mem_cons, List.not_mem_nil, or_false] at h; rcases h with rfl <;> rfl))))
   (zb6 (zg1 (QP.e zs3)))
   ze6)))
   ze6)
  (zb6 (zg4 (QT.e (zf4 (zn5 (Room.units hr)) (zd0 (za2 6) (QP.v za6)) (QP.v zf9) (ze3 _)))
   (zb2 (zg0 9 yd5.nd rfl (by first | exact Or.inl rfl | exact Or.inr rfl) rfl rfl (zw7 D_l_next G_l_next hr rfl (zf0 (za2 0) (zt0 4 (zf0 (QP.v (zd2 zl1 (za2 5) (QP.v (zd2 yg7 (QP.v za6) (QP.v (zp3 xx6 rfl z_int boot_int (zb0 (QP.v (yb6 (zn5 (Room.units hr)) (za2 5) (QP.v za6) (ze3 _))) zc6))))))) (zf0 (QP.v (zk7 zs8 rfl z_len boot_len (zb0 (zd0 (za2 6) (QP.v za6)) zc6))) zj6)))) rfl (zm8 rfl) (show List.Nodup ([4] : List Nat) by decide) (fun j hj => by have h : j ∈ ([4] : List Nat) := hj; simp only [List.mem_cons, List.not_mem_nil, or_false] at h; rcases h with rfl <;> rfl)))
  (zb6 (zg4 (yl7 (yh2 (zw7 D_l_set G_l_set hr rfl (zf0 (za2 0) (zf0 (zd0 (zd0 (za2 6) (QP.v za6)) (za2 9)) (zf0 (za2 2) (zf0 (za2 3) (zt0 4 (zf0 (za2 5) zj6)))))) rfl (zm8 rfl) (show List.Nodup ([4] : List Nat) by decide) (fun j hj => by have h : j ∈ ([4] : List Nat) := hj; simp only [List.mem_cons, List.not_mem_nil, or_false] at h; rcases h with rfl <;> rfl))))
   (zb6 (zg1 (QP.e zs3)))
   ze6)))
   ze6)))))))))))
  (zb6 (zg1 (QP.e zs3))))
noncomputable def xc3 (g_l_set : (List D -> Option (D × List D))) : PSt -> Option (Fl × PSt) :=
  (zb3 (zb9 3 (za5 (ze2 (za1 (fC (.str "")) (za1 (ze2 za3) (za1 (fC (.int 0)) za3))))))
  (zb3 (fIf (fTE (fIO [.im (za0 0), .im (za0 1), .im (fC (.bl false)), .im (fC (.int 0)), .io 3, .im (za0 2)] g_l_set))
   (zd4 (za5 (zh9 (za1 (zc0 (f2 dIx (za0 3) (fC (.int 0)))) (za1 (za4 zg8 (za1 (f2 dIx (za0 3) (fC (.int 1))) za3)) za3)))))
   zc3)
  (zb3 (zb9 3 (za5 (ze2 (za1 (fC (.str "")) (za1 (ze2 za3) (za1 (fC (.int 0)) za3))))))
  (zb3 (zc2 (fIO [.im (za0 0), .im (za0 1), .im (fC (.bl false)), .im (fC (.int 0)), .io 3, .im (fC (.int 0))] g_l_set))
  (zd4 (za5 (zh9 (za1 (zc0 (f2 dIx (za0 3) (fC (.int 0)))) (za1 (za4 zg8 (za1 (f2 dIx (za0 3) (fC (.int 1))) za3)) za3)))))))))
noncomputable abbrev zv6 : Stmt := top 29
theorem yn0 : FnScope ["_law_script", "_law_row_here", "_law_salt", "_law_state"] ["_law_script", "_law_row_here", "_law_salt"] (zb4 zv6) := ⟨rfl, rfl, rfl, by decide +kernel, rfl, by decide +kernel, by decide +kernel⟩
theorem xy1 {n : Nat} {f : Addr} {fd : FuncData} {g_l_set : (List D -> Option (D × List D))} {f_l_set : Addr} {fd_l_set : FuncData} (D_l_drawn : Dn K mg "_law_drawn" zv6 ["_law_script", "_law_row_here", "_law_salt"] f fd)
    (D_l_set : Dn K mg "_law_set" yb0 ["_law_script", "_law_row_here", "_law_flat", "_law_hang", "_law_state", "_law_salt"] f_l_set fd_l_set) (G_l_set : FnOk P w K mg base CX0 n f_l_set fd_l_set ["_law_script", "_law_row_here", "_law_flat", "_law_hang", "_law_state", "_law_salt"] (SpE 6 K κ (zd3 [false, false, false, false, true, false]) g_l_set))
    (z_tuple : mg "tuple" = none) :
    FnOk P w K mg base CX0 (n + 1) f fd ["_law_script", "_law_row_here", "_law_salt"] (SpP 3 K κ (gP 3 1 (xc3 g_l_set))) :=
  zk0 D_l_drawn.F yn0 fun cdv A outer s H E B hr =>
  (zb2 (zg0 3 yn0.nd rfl (by first | exact Or.inl rfl | exact Or.inr rfl) rfl rfl (QP.e (zj0 (zc1 zf9 (zc1 (zj0 ze4) (zc1 za6 ze4))))))
  (zb2 (zg4 (yh2 (zw7 D_l_set G_l_set hr rfl (zf0 (za2 0) (zf0 (za2 1) (zf0 (QP.v zs3) (zf0 (QP.v za6) (zt0 3 (zf0 (za2 2) zj6)))))) rfl (zm8 rfl) (show List.Nodup ([3] : List Nat) by decide) (fun j hj => by have h : j ∈ ([3] : List Nat) := hj; simp only [List.mem_cons, List.not_mem_nil, or_false] at h; rcases h with rfl <;> rfl)))
   (zb6 (zg1 (QP.e (zp2 (zc1 (QV.p (zd0 (za2 3) (QP.v za6))) (zc1 (zp3 zw2 rfl z_tuple boot_tuple (zb0 (zd0 (za2 3) (QP.v za6)) zc6)) ze4))))))
   ze6)
  (zb2 (zg0 3 yn0.nd rfl (by first | exact Or.inl rfl | exact Or.inr rfl) rfl rfl (QP.e (zj0 (zc1 zf9 (zc1 (zj0 ze4) (zc1 za6 ze4))))))
  (zb2 (zl2 (zw7 D_l_set G_l_set hr rfl (zf0 (za2 0) (zf0 (za2 1) (zf0 (QP.v zs3) (zf0 (QP.v za6) (zt0 3 (zf0 (QP.v za6) zj6)))))) rfl (zm8 rfl) (show List.Nodup ([3] : List Nat) by decide) (fun j hj => by have h : j ∈ ([3] : List Nat) := hj; simp only [List.mem_cons, List.not_mem_nil, or_false] at h; rcases h with rfl <;> rfl)))
  (zb6 (zg1 (QP.e (zp2 (zc1 (QV.p (zd0 (za2 3) (QP.v za6))) (zc1 (zp3 zw2 rfl z_tuple boot_tuple (zb0 (zd0 (za2 3) (QP.v za6)) zc6)) ze4))))))))))
noncomputable def yv5 (g_l_mixed : (List D -> Option D)) (g_l_cell_at : (List D -> Option D)) : PSt -> Option (Fl × PSt) :=
  (zb3 (zb9 3 (za5 (za4 g_l_mixed (za1 (za0 0) (za1 (za0 1) (za1 (za0 2) za3))))))
  (zb3 (fIf (za8 (fB (f2 dEq (f2 zh1 (za0 3) (fC (.int 2))) (fC (.int 0)))))
   (zd4 (za5 (f2 zh1 (f2 zl8 (za0 3) (fC (.int 2))) (fC (.int 4)))))
   zc3)
  (zd4 (za5 (f2 zl7 (f2 zh1 (f2 zc9 (za4 g_l_cell_at (za1 (za0 0) (za1 (za0 1) za3))) (za0 3)) (f2 zc9 (f2 zq1 (fC (.int 2)) (f2 yr7 (fC (.int 10)) (fC (.int 30)))) (fC (.int 1)))) (f2 yr7 (fC (.int 10)) (fC (.int 30))))))))
noncomputable abbrev zt9 : Stmt := top 30
theorem yv3 : FnScope ["_law_script", "_law_k", "_law_salt", "_law_number_here"] ["_law_script", "_law_k", "_law_salt"] (zb4 zt9) := ⟨rfl, rfl, rfl, by decide +kernel, rfl, by decide +kernel, by decide +kernel⟩
theorem xs1 {n : Nat} {f : Addr} {fd : FuncData} {g_l_mixed : (List D -> Option D)} {f_l_mixed : Addr} {fd_l_mixed : FuncData} {g_l_cell_at : (List D -> Option D)} {f_l_cell_at : Addr} {fd_l_cell_at : FuncData} (D_l_number : Dn K mg "_law_number" zt9 ["_law_script", "_law_k", "_law_salt"] f fd)
    (D_l_mixed : Dn K mg "_law_mixed" zp0 ["_law_script", "_law_k", "_law_salt"] f_l_mixed fd_l_mixed) (G_l_mixed : FnOk P w K mg base CX0 n f_l_mixed fd_l_mixed ["_law_script", "_law_k", "_law_salt"] (SpP 3 K κ g_l_mixed))
    (D_l_cell_at : Dn K mg "_law_cell_at" zm7 ["_law_script", "_law_k"] f_l_cell_at fd_l_cell_at) (G_l_cell_at : FnOk P w K mg base CX0 n f_l_cell_at fd_l_cell_at ["_law_script", "_law_k"] (SpP 2 K κ g_l_cell_at)) :
    FnOk P w K mg base CX0 (n + 1) f fd ["_law_script", "_law_k", "_law_salt"] (SpP 3 K κ (gP 3 1 (yv5 g_l_mixed g_l_cell_at))) :=
  zk0 D_l_number.F yv3 fun cdv A outer s H E B hr =>
  (zb2 (zg0 3 yv3.nd rfl (by first | exact Or.inl rfl | exact Or.inr rfl) rfl rfl (QP.e (zi4 D_l_mixed G_l_mixed hr rfl rfl (zb0 (za2 0) (zb0 (za2 1) (zb0 (za2 2) zc6))) (zb8 (zb8 (zb8 zg7))))))
  (zb2 (zg4 (QT.e (zf4 (zn5 (Room.units hr)) (QP.v (zd2 zl5 (za2 3) (QP.v za6))) (QP.v za6) (ze3 _)))
   (zb6 (zg1 (QP.e (zd2 zl5 (QP.v (zd2 zv2 (za2 3) (QP.v za6))) (QP.v za6)))))
   ze6)
  (zb6 (zg1 (QP.e (zd2 yj0 (QP.v (zd2 zl5 (QP.v (zd2 zl1 (QP.v (zi4 D_l_cell_at G_l_cell_at hr rfl rfl (zb0 (za2 0) (zb0 (za2 1) zc6)) (zb8 (zb8 zg7)))) (za2 3))) (QP.v (zd2 zl1 (QP.v (zd2 yg7 (QP.v za6) (QP.v (zd2 yz3 (QP.v za6) (QP.v za6))))) (QP.v za6))))) (QP.v (zd2 yz3 (QP.v za6) (QP.v za6)))))))))
noncomputable def xc4  : PSt -> Option (Fl × PSt) :=
  (zb3 (zu6 2 (zt3 (za1 (za4 yj5 (za1 (za4 zd7 (za1 (za0 0) za3)) (za1 (za4 zd7 (za1 (za0 1) za3)) za3))) za3))
   (fIf (za8 (fB (f2 dNe (f2 dIx (za0 0) (za0 2)) (f2 dIx (za0 1) (za0 2)))))
   (zk4 2)
   zc3))
  (zd4 (za5 (fC .non))))
noncomputable abbrev zv7 : Stmt := top 31
theorem xa3 : FnScope ["_law_one", "_law_other", "_law_k"] ["_law_one", "_law_other"] (zb4 zv7) := ⟨rfl, rfl, rfl, by decide +kernel, rfl, by decide +kernel, by decide +kernel⟩
theorem xy2 {n : Nat} {f : Addr} {fd : FuncData}  (D_l_place : Dn K mg "_law_place" zv7 ["_law_one", "_law_other"] f fd)
    (z_range : mg "range" = none)
    (z_min : mg "min" = none)
    (z_len : mg "len" = none) :
    FnOk P w K mg base CX0 (n + 1) f fd ["_law_one", "_law_other"] (SpP 2 K κ (gP 2 1 (xc4 ))) :=
  zk0 D_l_place.F xa3 fun cdv A outer s H E B hr =>
  (zb2 (yl6 2 PassesOwn.never rfl xa3.nd rfl (by first | exact Or.inl rfl | exact Or.inr rfl) rfl rfl (yb1 rfl z_range (zb0 (QP.v (zk7 (xm6 rfl) rfl z_min boot_min (zb0 (QP.v (zk7 zs8 rfl z_len boot_len (zb0 (za2 0) zc6))) (zb0 (QP.v (zk7 zs8 rfl z_len boot_len (zb0 (za2 1) zc6))) zc6)))) zc6))
   (zb6 (zg4 (QT.e (zf4 (xm4 (Room.units hr)) (zd0 (za2 0) (za2 2)) (zd0 (za2 1) (za2 2)) (ze3 _)))
   (zb6 (yl5 2 rfl))
   ze6)))
  (zb6 (zg1 (QP.e yl2))))
noncomputable def yc5 (g_p_earlier : (List D -> Option D)) : PSt -> Option (Fl × PSt) :=
  (zd4 (za5 (yi1 (f2 xg6 (za4 g_p_earlier (za1 (za0 0) (za1 (za0 1) za3))) (fC (.bl true))) (f2 xg6 (za4 g_p_earlier (za1 (za0 1) (za1 (za0 0) za3))) (fC (.bl false))))))
noncomputable abbrev zs1 : Stmt := top 32
theorem xo5 : FnScope ["_law_one", "_law_other"] ["_law_one", "_law_other"] (zb4 zs1) := ⟨rfl, rfl, rfl, by decide +kernel, rfl, by decide +kernel, by decide +kernel⟩
theorem xo6 {n : Nat} {f : Addr} {fd : FuncData} {g_p_earlier : (List D -> Option D)} {f_p_earlier : Addr} {fd_p_earlier : FuncData} (D_l_ordered : Dn K mg "_law_ordered" zs1 ["_law_one", "_law_other"] f fd)
    (D_p_earlier : Dn K mg "earlier" zs0 ["one", "other"] f_p_earlier fd_p_earlier) (G_p_earlier : FnOk P w K mg base CX0 n f_p_earlier fd_p_earlier ["one", "other"] (SpP 2 K κ g_p_earlier)) :
    FnOk P w K mg base CX0 (n + 1) f fd ["_law_one", "_law_other"] (SpP 2 K κ (gP 2 0 (yc5 g_p_earlier))) :=
  zk0 D_l_ordered.F xo5 fun cdv A outer s H E B hr =>
  (zb6 (zg1 (QP.e (yz2 (yb6 xk4 (QP.v (zi4 D_p_earlier G_p_earlier hr rfl rfl (zb0 (za2 0) (zb0 (za2 1) zc6)) (zb8 (zb8 zg7)))) (QP.v zs3) (ze3 _)) (yp7 (yb6 xk4 (QP.v (zi4 D_p_earlier G_p_earlier hr rfl rfl (zb0 (za2 1) (zb0 (za2 0) zc6)) (zb8 (zb8 zg7)))) (QP.v zs3) (ze3 _)))))))
noncomputable def xc5 (g_l_mixed : (List D -> Option D)) (g_l_number : (List D -> Option D)) (g_l_cell_at : (List D -> Option D)) (g_l_ordered : (List D -> Option D)) (g_l_row : (List D -> Option D)) (g_l_drawn : (List D -> Option D)) (g_p_set_by : (List D -> Option D)) (g_l_place : (List D -> Option D)) : PSt -> Option (Fl × PSt) :=
  (zb3 (zb9 1 (za5 (za4 g_l_mixed (za1 (za0 0) (za1 (fC (.int 0)) (za1 (fC (.int 60)) za3))))))
  (zb3 (zb9 2 (za5 (ye8 [none, some 0] (zt3 (za1 (f2 zc9 (fC (.int 1)) (f2 zh1 (za0 1) (fC (.int 40)))) za3)) yg3 (za4 g_l_number (za1 (za0 1) (za1 (za0 0) (za1 (fC (.int 61)) za3)))))))
  (zb3 (zb9 3 (za5 (f2 zh1 (f2 zl8 (za0 1) (fC (.int 40))) (za4 zd7 (za1 (za0 2) za3)))))
  (zb3 (zb9 4 (za5 (f2 dIx (ze2 (za1 (fC (.int 1)) (za1 (fC (.int 2)) (za1 (fC (.int 3)) (za1 (f2 zc9 (fC (.int 1)) (f2 zh1 (za4 g_l_cell_at (za1 (za0 0) (za1 (fC (.int 1)) za3))) (f2 yr7 (fC (.int 10)) (fC (.int 30))))) za3))))) (f2 zh1 (f2 zl8 (za0 1) (fC (.int 1600))) (fC (.int 4))))))
  (zb3 (zb9 5 (za5 (f2 zc9 (fSl (za0 2) zw3 (ye7 (za0 3))) (ze2 (za1 (f2 zc9 (f2 dIx (za0 2) (za0 3)) (za0 4)) za3)))))
  (zb3 (zu6 6 (zt3 (za1 (f2 zh1 (f2 zl8 (za0 1) (fC (.int 6400))) (fC (.int 10))) za3))
   (zc2 (zd1 5 zb7 (za1 (za4 g_l_number (za1 (za0 0) (za1 (za0 6) (za1 (fC (.int 62)) za3)))) za3) zc8)))
  (zb3 (fIf (za8 (zh4 (fT (za4 g_l_ordered (za1 (za4 zg8 (za1 (za0 2) za3)) (za1 (za4 zg8 (za1 (za0 5) za3)) za3))))))
   (zd4 (za5 (fC (.bl false))))
   zc3)
  (zb3 (zb9 7 (za5 (za4 g_l_row (za1 (za0 0) (za1 (fC (.int 3)) (za1 (f2 zc9 (fC (.int 3)) (f2 zh1 (za4 g_l_mixed (za1 (za0 0) (za1 (fC (.int 0)) (za1 (fC (.int 40)) za3)))) (fC (.int 28)))) (za1 (fC (.int 4)) za3)))))))
  (zb3 (zb9 8 (za5 (za4 g_l_drawn (za1 (za0 0) (za1 (za0 7) (za1 (fC (.int 1)) za3))))))
  (zb3 (zb9 9 (za5 (za4 g_l_drawn (za1 (za0 0) (za1 (za0 7) (za1 (fC (.int 51)) za3))))))
  (zb3 (fIf (za8 (zk8 (fB (f2 dNe (za4 g_p_set_by (za1 (za0 7) (za1 (f2 dIx (za0 8) (fC (.int 1))) za3))) (f2 dIx (za0 8) (fC (.int 0))))) (fB (f2 dNe (za4 g_p_set_by (za1 (za0 7) (za1 (f2 dIx (za0 9) (fC (.int 1))) za3))) (f2 dIx (za0 9) (fC (.int 0)))))))
   (zd4 (za5 (fC (.bl false))))
   zc3)
  (zb3 (fIf (za8 (fB (f2 dEq (f2 dIx (za0 8) (fC (.int 1))) (f2 dIx (za0 9) (fC (.int 1))))))
   (zd4 (za5 (fC (.bl true))))
   zc3)
  (zb3 (zb9 10 (za5 (za4 g_l_place (za1 (f2 dIx (za0 8) (fC (.int 1))) (za1 (f2 dIx (za0 9) (fC (.int 1))) za3)))))
  (zb3 (fIf (za8 (fB (f2 dIs (za0 10) (fC .non))))
   (zd4 (za5 (fC (.bl false))))
   zc3)
  (zb3 (fIf (za8 (fB (f2 dLt (f2 dIx (f2 dIx (za0 8) (fC (.int 1))) (za0 10)) (f2 dIx (f2 dIx (za0 9) (fC (.int 1))) (za0 10)))))
   (zd4 (za5 (za4 g_l_ordered (za1 (f2 dIx (za0 8) (fC (.int 1))) (za1 (f2 dIx (za0 9) (fC (.int 1))) za3)))))
   zc3)
  (zd4 (za5 (za4 g_l_ordered (za1 (f2 dIx (za0 9) (fC (.int 1))) (za1 (f2 dIx (za0 8) (fC (.int 1))) za3))))))))))))))))))))
noncomputable abbrev zz9 : Stmt := top 33
theorem zx4 : FnScope ["_law_script", "_law_number_here", "_law_one", "_law_at", "_law_step", "_law_other", "_law_k", "_law_row_here", "_law_drawn_here", "_law_others", "_law_place_here"] ["_law_script"] (zb4 zz9) := ⟨rfl, rfl, rfl, by decide +kernel, rfl, by decide +kernel, by decide +kernel⟩
theorem ww1 {n : Nat} {f : Addr} {fd : FuncData} {g_l_mixed : (List D -> Option D)} {f_l_mixed : Addr} {fd_l_mixed : FuncData} {g_l_number : (List D -> Option D)} {f_l_number : Addr} {fd_l_number : FuncData} {g_l_cell_at : (List D -> Option D)} {f_l_cell_at : Addr} {fd_l_cell_at : FuncData} {g_l_ordered : (List D -> Option D)} {f_l_ordered : Addr} {fd_l_ordered : FuncData} {g_l_row : (List D -> Option D)} {f_l_row : Addr} {fd_l_row : FuncData} {g_l_drawn : (List D -> Option D)} {f_l_drawn : Addr} {fd_l_drawn : FuncData} {g_p_set_by : (List D -> Option D)} {f_p_set_by : Addr} {fd_p_set_by : FuncData} {g_l_place : (List D -> Option D)} {f_l_place : Addr} {fd_l_place : FuncData} (D_law : Dn K mg "law" zz9 ["_law_script"] f fd)
    (D_l_mixed : Dn K mg "_law_mixed" zp0 ["_law_script", "_law_k", "_law_salt"] f_l_mixed fd_l_mixed) (G_l_mixed : FnOk P w K mg base CX0 n f_l_mixed fd_l_mixed ["_law_script", "_law_k", "_law_salt"] (SpP 3 K κ g_l_mixed))
    (D_l_number : Dn K mg "_law_number" zt9 ["_law_script", "_law_k", "_law_salt"] f_l_number fd_l_number) (G_l_number : FnOk P w K mg base CX0 n f_l_number fd_l_number ["_law_script", "_law_k", "_law_salt"] (SpP 3 K κ g_l_number))
    (D_l_cell_at : Dn K mg "_law_cell_at" zm7 ["_law_script", "_law_k"] f_l_cell_at fd_l_cell_at) (G_l_cell_at : FnOk P w K mg base CX0 n f_l_cell_at fd_l_cell_at ["_law_script", "_law_k"] (SpP 2 K κ g_l_cell_at))
    (D_l_ordered : Dn K mg "_law_ordered" zs1 ["_law_one", "_law_other"] f_l_ordered fd_l_ordered) (G_l_ordered : FnOk P w K mg base CX0 n f_l_ordered fd_l_ordered ["_law_one", "_law_other"] (SpP 2 K κ g_l_ordered))
    (D_l_row : Dn K mg "_law_row" ya9 ["_law_script", "_law_at", "_law_many", "_law_nest"] f_l_row fd_l_row) (G_l_row : FnOk P w K mg base CX0 n f_l_row fd_l_row ["_law_script", "_law_at", "_law_many", "_law_nest"] (SpP 4 K κ g_l_row))
    (D_l_drawn : Dn K mg "_law_drawn" zv6 ["_law_script", "_law_row_here", "_law_salt"] f_l_drawn fd_l_drawn) (G_l_drawn : FnOk P w K mg base CX0 n f_l_drawn fd_l_drawn ["_law_script", "_law_row_here", "_law_salt"] (SpP 3 K κ g_l_drawn))
    (D_p_set_by : Dn K mg "set_by" zt7 ["row", "choices"] f_p_set_by fd_p_set_by) (G_p_set_by : FnOk P w K mg base CX0 n f_p_set_by fd_p_set_by ["row", "choices"] (SpP 2 K κ g_p_set_by))
    (D_l_place : Dn K mg "_law_place" zv7 ["_law_one", "_law_other"] f_l_place fd_l_place) (G_l_place : FnOk P w K mg base CX0 n f_l_place fd_l_place ["_law_one", "_law_other"] (SpP 2 K κ g_l_place))
    (z_range : mg "range" = none)
    (z_len : mg "len" = none)
    (z_tuple : mg "tuple" = none) :
    FnOk P w K mg base CX0 (n + 1) f fd ["_law_script"] (SpP 1 K κ (gP 1 10 (xc5 g_l_mixed g_l_number g_l_cell_at g_l_ordered g_l_row g_l_drawn g_p_set_by g_l_place))) :=
  zk0 D_law.F zx4 fun cdv A outer s H E B hr =>
  (zb2 (zg0 1 zx4.nd rfl (by first | exact Or.inl rfl | exact Or.inr rfl) rfl rfl (QP.e (zi4 D_l_mixed G_l_mixed hr rfl rfl (zb0 (za2 0) (zb0 (QP.v za6) (zb0 (QP.v za6) zc6))) (zb8 (zb8 (zb8 zg7))))))
  (zb2 (xf1 (sc := zb4 zz9) (NX := ["_law_script", "_law_number_here", "_law_one", "_law_at", "_law_step", "_law_other", "_law_k", "_law_row_here", "_law_drawn_here", "_law_others", "_law_place_here"]) (N := ["_law_k", "_law_script"]) (pick := [none, some 0]) 2 zx4.nd rfl rfl rfl rfl ⟨rfl, by decide +kernel, by decide +kernel, by decide +kernel, by decide +kernel, by decide, rfl⟩ rfl rfl rfl (QIP.v (yb1 rfl z_range (zb0 (QP.v (zd2 zl1 (QP.v za6) (QP.v (zd2 zl5 (za2 1) (QP.v za6))))) zc6))) (fun _ _ _ _ => (zw1 (i := 0) (show (["_law_k", "_law_script"] : List Str).Nodup by decide) rfl (by first | exact Or.inl rfl | exact Or.inr rfl))) (fun _ _ _ _ => yt0) (fun _ _ _ _ => (zi4 D_l_number G_l_number hr rfl rfl (zb0 (za2 1) (zb0 (za2 0) (zb0 (QP.v za6) zc6))) (zb8 (zb8 (zb8 zg7))))))
  (zb2 (zg0 3 zx4.nd rfl (by first | exact Or.inl rfl | exact Or.inr rfl) rfl rfl (QP.e (zd2 zl5 (QP.v (zd2 zv2 (za2 1) (QP.v za6))) (QP.v (zk7 zs8 rfl z_len boot_len (zb0 (za2 2) zc6))))))
  (zb2 (zg0 4 zx4.nd rfl (by first | exact Or.inl rfl | exact Or.inr rfl) rfl rfl (QP.e (yg8 (zj0 (zc1 za6 (zc1 za6 (zc1 za6 (zc1 (zd2 zl1 (QP.v za6) (QP.v (zd2 zl5 (QP.v (zi4 D_l_cell_at G_l_cell_at hr rfl rfl (zb0 (za2 0) (zb0 (QP.v za6) zc6)) (zb8 (zb8 zg7)))) (QP.v (zd2 yz3 (QP.v za6) (QP.v za6)))))) ze4))))) (QP.v (zd2 zl5 (QP.v (zd2 zv2 (za2 1) (QP.v za6))) (QP.v za6))))))
  (zb2 (zg0 5 zx4.nd rfl (by first | exact Or.inl rfl | exact Or.inr rfl) rfl rfl (QP.e (zd2 zl1 (QP.v (yv9 (za2 2) xe4 (xe5 (za2 3)))) (QP.v (zj0 (zc1 (zd2 zl1 (zd0 (za2 2) (za2 3)) (za2 4)) ze4))))))
  (zb2 (yl6 6 PassesOwn.never rfl zx4.nd rfl (by first | exact Or.inl rfl | exact Or.inr rfl) rfl rfl (yb1 rfl z_range (zb0 (QP.v (zd2 zl5 (QP.v (zd2 zv2 (za2 1) (QP.v za6))) (QP.v za6))) zc6))
   (zb6 (zl2 (zr0 (j := 5) rfl (zf1 5) (zc1 (zi4 D_l_number G_l_number hr rfl rfl (zb0 (za2 0) (zb0 (za2 6) (zb0 (QP.v za6) zc6))) (zb8 (zb8 (zb8 zg7)))) ze4)))))
  (zb2 (zg4 (QT.e (yf0 (zr7 (QP.v (zi4 D_l_ordered G_l_ordered hr rfl rfl (zb0 (QP.v (zp3 zw2 rfl z_tuple boot_tuple (zb0 (za2 2) zc6))) (zb0 (QP.v (zp3 zw2 rfl z_tuple boot_tuple (zb0 (za2 5) zc6))) zc6)) (zb8 (zb8 zg7)))))))
   (zb6 (zg1 (QP.e zs3)))
   ze6)
  (zb2 (zg0 7 zx4.nd rfl (by first | exact Or.inl rfl | exact Or.inr rfl) rfl rfl (QP.e (zi4 D_l_row G_l_row hr rfl rfl (zb0 (za2 0) (zb0 (QP.v za6) (zb0 (QP.v (zd2 zl1 (QP.v za6) (QP.v (zd2 zl5 (QP.v (zi4 D_l_mixed G_l_mixed hr rfl rfl (zb0 (za2 0) (zb0 (QP.v za6) (zb0 (QP.v za6) zc6))) (zb8 (zb8 (zb8 zg7))))) (QP.v za6))))) (zb0 (QP.v za6) zc6)))) (zb8 (zb8 (zb8 (zb8 zg7)))))))
  (zb2 (zg0 8 zx4.nd rfl (by first | exact Or.inl rfl | exact Or.inr rfl) rfl rfl (QP.e (zi4 D_l_drawn G_l_drawn hr rfl rfl (zb0 (za2 0) (zb0 (za2 7) (zb0 (QP.v za6) zc6))) (zb8 (zb8 (zb8 zg7))))))
  (zb2 (zg0 9 zx4.nd rfl (by first | exact Or.inl rfl | exact Or.inr rfl) rfl rfl (QP.e (zi4 D_l_drawn G_l_drawn hr rfl rfl (zb0 (za2 0) (zb0 (za2 7) (zb0 (QP.v za6) zc6))) (zb8 (zb8 (zb8 zg7))))))
  (zb2 (zg4 (QT.e (ya5 (xk3 (zf4 (xm4 (Room.units hr)) (QP.v (zi4 D_p_set_by G_p_set_by hr rfl rfl (zb0 (za2 7) (zb0 (zd0 (za2 8) (QP.v za6)) zc6)) (zb8 (zb8 zg7)))) (zd0 (za2 8) (QP.v za6)) (ze3 _)) (yz1 (zf4 (xm4 (Room.units hr)) (QP.v (zi4 D_p_set_by G_p_set_by hr rfl rfl (zb0 (za2 7) (zb0 (zd0 (za2 9) (QP.v za6)) zc6)) (zb8 (zb8 zg7)))) (zd0 (za2 9) (QP.v za6)) (ze3 _))))))
   (zb6 (zg1 (QP.e zs3)))
   ze6)
  (zb2 (zg4 (QT.e (zf4 (zn5 (Room.units hr)) (zd0 (za2 8) (QP.v za6)) (zd0 (za2 9) (QP.v za6)) (ze3 _)))
   (zb6 (zg1 (QP.e zs3)))
   ze6)
  (zb2 (zg0 10 zx4.nd rfl (by first | exact Or.inl rfl | exact Or.inr rfl) rfl rfl (QP.e (zi4 D_l_place G_l_place hr rfl rfl (zb0 (zd0 (za2 8) (QP.v za6)) (zb0 (zd0 (za2 9) (QP.v za6)) zc6)) (zb8 (zb8 zg7)))))
  (zb2 (zg4 (QT.e (zf4 xx5 (za2 10) (QP.v yl2) (ze3 _)))
   (zb6 (zg1 (QP.e zs3)))
   ze6)
  (zb2 (zg4 (QT.e (zf4 (yf6 (Room.units0 hr)) (zd0 (zd0 (za2 8) (QP.v za6)) (za2 10)) (zd0 (zd0 (za2 9) (QP.v za6)) (za2 10)) (ze3 _)))
   (zb6 (zg1 (QP.e (zi4 D_l_ordered G_l_ordered hr rfl rfl (zb0 (zd0 (za2 8) (QP.v za6)) (zb0 (zd0 (za2 9) (QP.v za6)) zc6)) (zb8 (zb8 zg7))))))
   ze6)
  (zb6 (zg1 (QP.e (zi4 D_l_ordered G_l_ordered hr rfl rfl (zb0 (zd0 (za2 9) (QP.v za6)) (zb0 (zd0 (za2 8) (QP.v za6)) zc6)) (zb8 (zb8 zg7)))))))))))))))))))))
noncomputable def yp3  : PSt -> Option (Fl × PSt) :=
  (zb3 (zh5 0 zb7 "Place" "broken" (zc0 (za0 1)))
  (zh5 0 zb7 "Place" "margin" (zc0 (za0 2))))
noncomputable abbrev zn8 : Stmt := ye2 (top 5) 0
theorem xj9 : FnScope ["self", "broken", "margin"] ["self", "broken", "margin"] (zb4 zn8) := ⟨rfl, rfl, rfl, by decide +kernel, rfl, by decide +kernel, by decide +kernel⟩
theorem xk0 {n : Nat} {f : Addr} {fd : FuncData}  (K_Place : Kn K mg κ "Place" "Place.__init__" zn8 ["self", "broken", "margin"] f fd)
    (cl_Place : Cls K (κ "Place"))
    (na_broken : zh0 K (κ "Place") "broken")
    (na_margin : zh0 K (κ "Place") "margin") :
    FnOk P w K mg base CX0 (n + 1) f fd ["self", "broken", "margin"] (SpE 3 K κ (zd3 [true, false, false]) (gE 3 0 (zd3 [true, false, false]) (yp3 ))) :=
  ya0 K_Place.F xj9 (fun i hi => zt5 hi) fun cdv A outer s H E hr =>
  (zb2 (zr1 (C := "Place") cl_Place na_broken rfl (QV.p (za2 1)) (zf1 0))
  (zb6 (zr1 (C := "Place") cl_Place na_margin rfl (QV.p (za2 2)) (zf1 0))))
noncomputable def ye6  : PSt -> Option (Fl × PSt) :=
  (zb3 (zh5 0 zb7 "Setter" "choices" (zc0 (za0 1)))
  (zb3 (zh5 0 zb7 "Setter" "used" (fC (.int 0)))
  (zb3 (zh5 0 zb7 "Setter" "column" (fC (.int 0)))
  (zh5 0 zb7 "Setter" "parts" (ze2 za3)))))
noncomputable abbrev zo5 : Stmt := ye2 (top 15) 0
theorem xf5 : FnScope ["self", "choices"] ["self", "choices"] (zb4 zo5) := ⟨rfl, rfl, rfl, by decide +kernel, rfl, by decide +kernel, by decide +kernel⟩
theorem xf6 {n : Nat} {f : Addr} {fd : FuncData}  (K_Setter : Kn K mg κ "Setter" "Setter.__init__" zo5 ["self", "choices"] f fd)
    (cl_Setter : Cls K (κ "Setter"))
    (na_choices : zh0 K (κ "Setter") "choices")
    (na_used : zh0 K (κ "Setter") "used")
    (na_column : zh0 K (κ "Setter") "column")
    (na_parts : zh0 K (κ "Setter") "parts") :
    FnOk P w K mg base CX0 (n + 1) f fd ["self", "choices"] (SpE 2 K κ (zd3 [true, false]) (gE 2 0 (zd3 [true, false]) (ye6 ))) :=
  ya0 K_Setter.F xf5 (fun i hi => zt5 hi) fun cdv A outer s H E hr =>
  (zb2 (zr1 (C := "Setter") cl_Setter na_choices rfl (QV.p (za2 1)) (zf1 0))
  (zb2 (zr1 (C := "Setter") cl_Setter na_used rfl za6 (zf1 0))
  (zb2 (zr1 (C := "Setter") cl_Setter na_column rfl za6 (zf1 0))
  (zb6 (zr1 (C := "Setter") cl_Setter na_parts rfl (zj0 ze4) (zf1 0))))))
noncomputable def zu0  : PSt -> Option (Fl × PSt) :=
  (zb3 (fIf (za8 (fB (f2 dGe (zi8 "Setter" "used" (za0 0)) (za4 zd7 (za1 (zi8 "Setter" "choices" (za0 0)) za3)))))
   ym3
   zc3)
  (zb3 (zb9 2 (za5 (zc0 (f2 dIx (zi8 "Setter" "choices" (za0 0)) (zi8 "Setter" "used" (za0 0))))))
  (zb3 (fIf (za8 (zk8 (fB (f2 dLt (za0 2) (fC (.int 0)))) (fB (f2 dGe (za0 2) (za0 1)))))
   ym3
   zc3)
  (zb3 (zh5 0 zb7 "Setter" "used" (f2 zc9 (zi8 "Setter" "used" (za0 0)) (fC (.int 1))))
  (zk4 2)))))
noncomputable abbrev zi9 : Stmt := ye2 (top 15) 1
theorem zz7 : FnScope ["self", "count", "number"] ["self", "count"] (zb4 zi9) := ⟨rfl, rfl, rfl, by decide +kernel, rfl, by decide +kernel, by decide +kernel⟩
theorem yk4 {n : Nat} {f : Addr} {fd : FuncData}  (M_Setter_choice_below : Mn K κ "Setter" "choice_below" "Setter.choice_below" zi9 ["self", "count"] f fd)
    (cl_Setter : Cls K (κ "Setter"))
    (na_used : zh0 K (κ "Setter") "used")
    (na_choices : zh0 K (κ "Setter") "choices")
    (z_len : mg "len" = none) :
    FnOk P w K mg base CX0 (n + 1) f fd ["self", "count"] (SpE 2 K κ (zd3 [true, false]) (gE 2 1 (zd3 [true, false]) (zu0 ))) :=
  ya0 M_Setter_choice_below.F zz7 (fun i hi => zt5 hi) fun cdv A outer s H E hr =>
  (zb2 (zg4 (QT.e (zf4 xx4 (zn2 (C := "Setter") cl_Setter na_used (za2 0)) (QP.v (zk7 zs8 rfl z_len boot_len (zb0 (zn2 (C := "Setter") cl_Setter na_choices (za2 0)) zc6))) (ze3 _)))
   (zb6 yd1)
   ze6)
  (zb2 (zg0 2 zz7.nd rfl (by first | exact Or.inl rfl | exact Or.inr rfl) rfl rfl (QP.e (QV.p (zd0 (zn2 (C := "Setter") cl_Setter na_choices (za2 0)) (zn2 (C := "Setter") cl_Setter na_used (za2 0))))))
  (zb2 (zg4 (QT.e (ya5 (xk3 (zf4 (yf6 (Room.units0 hr)) (za2 2) (QP.v za6) (ze3 _)) (yz1 (zf4 xx4 (za2 2) (za2 1) (ze3 _))))))
   (zb6 yd1)
   ze6)
  (zb2 (zr1 (C := "Setter") cl_Setter na_used rfl (zd2 zl1 (zn2 (C := "Setter") cl_Setter na_used (za2 0)) (QP.v za6)) (zf1 0))
  (zb6 (yl5 2 rfl))))))
noncomputable def zs6 (g_p_writing : (List D -> Option D)) (g_p_column_behind : (List D -> Option D)) : PSt -> Option (Fl × PSt) :=
  (zb3 (zb9 3 (za5 (za4 g_p_writing (za1 (za0 1) (za1 (za0 2) (za1 (zi8 "Setter" "column" (za0 0)) za3))))))
  (zb3 (fIf (za8 (fB (f2 dIs (za0 3) (fC .non))))
   ym3
   zc3)
  (zb3 (zc2 (zd1 0 (zo0 0 zb7 "Setter" "parts") (za1 (zc0 (za0 3)) za3) zc8))
  (zh5 0 zb7 "Setter" "column" (za4 g_p_column_behind (za1 (zi8 "Setter" "column" (za0 0)) (za1 (za0 3) za3)))))))
noncomputable abbrev zk9 : Stmt := ye2 (top 15) 2
theorem yc9 : FnScope ["self", "piece", "place", "wrote"] ["self", "piece", "place"] (zb4 zk9) := ⟨rfl, rfl, rfl, by decide +kernel, rfl, by decide +kernel, by decide +kernel⟩
theorem yp4 {n : Nat} {f : Addr} {fd : FuncData} {g_p_writing : (List D -> Option D)} {f_p_writing : Addr} {fd_p_writing : FuncData} {g_p_column_behind : (List D -> Option D)} {f_p_column_behind : Addr} {fd_p_column_behind : FuncData} (M_Setter_set_plain : Mn K κ "Setter" "set_plain" "Setter.set_plain" zk9 ["self", "piece", "place"] f fd)
    (D_p_writing : Dn K mg "writing" zr9 ["piece", "place", "column"] f_p_writing fd_p_writing) (G_p_writing : FnOk P w K mg base CX0 n f_p_writing fd_p_writing ["piece", "place", "column"] (SpP 3 K κ g_p_writing))
    (D_p_column_behind : Dn K mg "column_behind" zl4 ["column", "wrote"] f_p_column_behind fd_p_column_behind) (G_p_column_behind : FnOk P w K mg base CX0 n f_p_column_behind fd_p_column_behind ["column", "wrote"] (SpP 2 K κ g_p_column_behind))
    (cl_Setter : Cls K (κ "Setter"))
    (na_column : zh0 K (κ "Setter") "column")
    (na_parts : zh0 K (κ "Setter") "parts") :
    FnOk P w K mg base CX0 (n + 1) f fd ["self", "piece", "place"] (SpE 3 K κ (zd3 [true, false, false]) (gE 3 1 (zd3 [true, false, false]) (zs6 g_p_writing g_p_column_behind))) :=
  ya0 M_Setter_set_plain.F yc9 (fun i hi => zt5 hi) fun cdv A outer s H E hr =>
  (zb2 (zg0 3 yc9.nd rfl (by first | exact Or.inl rfl | exact Or.inr rfl) rfl rfl (QP.e (zi4 D_p_writing G_p_writing hr rfl rfl (zb0 (za2 1) (zb0 (za2 2) (zb0 (zn2 (C := "Setter") cl_Setter na_column (za2 0)) zc6))) (zb8 (zb8 (zb8 zg7))))))
  (zb2 (zg4 (QT.e (zf4 xx5 (za2 3) (QP.v yl2) (ze3 _)))
   (zb6 yd1)
   ze6)
  (zb2 (zl2 (zr0 (j := 0) rfl (yq0 (C := "Setter") cl_Setter na_parts (zf1 0)) (zc1 (QV.p (za2 3)) ze4)))
  (zb6 (zr1 (C := "Setter") cl_Setter na_column rfl (zi4 D_p_column_behind G_p_column_behind hr rfl rfl (zb0 (zn2 (C := "Setter") cl_Setter na_column (za2 0)) (zb0 (za2 3) zc6)) (zb8 (zb8 zg7))) (zf1 0))))))
noncomputable def zq8 (g_p_ways : (List D -> Option D)) (g_p_takes_choice : (List D -> Option D)) (g_Setter_choice_below : (List D -> Option (D × List D))) (g_Setter_set_row : (List D -> Option (D × List D))) : PSt -> Option (Fl × PSt) :=
  (zb3 (zb9 3 (za5 (za4 g_p_ways (za1 (za0 1) (za1 (za0 2) za3)))))
  (zb3 (zb9 4 (za5 (fC (.int 0))))
  (zb3 (fIf (za8 (fT (za4 g_p_takes_choice (za1 (za0 1) (za1 (za0 2) za3)))))
   (zb9 4 (zd1 0 zb7 (zc7 [.im (za4 zd7 (za1 (za0 3) za3))]) (zo9 "Setter" "choice_below" g_Setter_choice_below)))
   zc3)
  (zb3 (zb9 5 (za5 (zc0 (f2 dIx (za0 3) (za0 4)))))
  (zc2 (zd1 0 zb7 (zc7 [.im (f2 dIx (za0 5) (fC (.int 0))), .im (f2 dIx (za0 5) (fC (.int 1)))]) (zo9 "Setter" "set_row" g_Setter_set_row)))))))
noncomputable abbrev zk1 : Stmt := ye2 (top 15) 3
theorem zn6 : FnScope ["self", "piece", "place", "found", "number", "way"] ["self", "piece", "place"] (zb4 zk1) := ⟨rfl, rfl, rfl, by decide +kernel, rfl, by decide +kernel, by decide +kernel⟩
theorem yn1 {n : Nat} {f : Addr} {fd : FuncData} {g_p_ways : (List D -> Option D)} {f_p_ways : Addr} {fd_p_ways : FuncData} {g_p_takes_choice : (List D -> Option D)} {f_p_takes_choice : Addr} {fd_p_takes_choice : FuncData} {g_Setter_choice_below : (List D -> Option (D × List D))} {f_Setter_choice_below : Addr} {fd_Setter_choice_below : FuncData} {g_Setter_set_row : (List D -> Option (D × List D))} {f_Setter_set_row : Addr} {fd_Setter_set_row : FuncData} (M_Setter_set_holder : Mn K κ "Setter" "set_holder" "Setter.set_holder" zk1 ["self", "piece", "place"] f fd)
    (D_p_ways : Dn K mg "ways" zv1 ["piece", "place"] f_p_ways fd_p_ways) (G_p_ways : FnOk P w K mg base CX0 n f_p_ways fd_p_ways ["piece", "place"] (SpP 2 K κ g_p_ways))
    (D_p_takes_choice : Dn K mg "takes_choice" zm0 ["piece", "place"] f_p_takes_choice fd_p_takes_choice) (G_p_takes_choice : FnOk P w K mg base CX0 n f_p_takes_choice fd_p_takes_choice ["piece", "place"] (SpP 2 K κ g_p_takes_choice))
    (M_Setter_choice_below : Mn K κ "Setter" "choice_below" "Setter.choice_below" zi9 ["self", "count"] f_Setter_choice_below fd_Setter_choice_below) (G_Setter_choice_below : FnOk P w K mg base CX0 n f_Setter_choice_below fd_Setter_choice_below ["self", "count"] (SpE 2 K κ (zd3 [true, false]) g_Setter_choice_below))
    (M_Setter_set_row : Mn K κ "Setter" "set_row" "Setter.set_row" zk6 ["self", "row", "place"] f_Setter_set_row fd_Setter_set_row) (G_Setter_set_row : FnOk P w K mg base CX0 n f_Setter_set_row fd_Setter_set_row ["self", "row", "place"] (SpE 3 K κ (zd3 [true, false, false]) g_Setter_set_row))
    (z_len : mg "len" = none) :
    FnOk P w K mg base CX0 (n + 1) f fd ["self", "piece", "place"] (SpE 3 K κ (zd3 [true, false, false]) (gE 3 3 (zd3 [true, false, false]) (zq8 g_p_ways g_p_takes_choice g_Setter_choice_below g_Setter_set_row))) :=
  ya0 M_Setter_set_holder.F zn6 (fun i hi => zt5 hi) fun cdv A outer s H E hr =>
  (zb2 (zg0 3 zn6.nd rfl (by first | exact Or.inl rfl | exact Or.inr rfl) rfl rfl (QP.e (zi4 D_p_ways G_p_ways hr rfl rfl (zb0 (za2 1) (zb0 (za2 2) zc6)) (zb8 (zb8 zg7)))))
  (zb2 (zg0 4 zn6.nd rfl (by first | exact Or.inl rfl | exact Or.inr rfl) rfl rfl (QP.e za6))
  (zb2 (zg4 (QT.e (zr7 (QP.v (zi4 D_p_takes_choice G_p_takes_choice hr rfl rfl (zb0 (za2 1) (zb0 (za2 2) zc6)) (zb8 (zb8 zg7))))))
   (zb6 (zg0 4 zn6.nd rfl (by first | exact Or.inl rfl | exact Or.inr rfl) rfl rfl (yd4 M_Setter_choice_below G_Setter_choice_below hr rfl (zf1 0) (zf0 (QP.v (zk7 zs8 rfl z_len boot_len (zb0 (za2 3) zc6))) zj6) rfl rfl (zq5 1))))
   ze6)
  (zb2 (zg0 5 zn6.nd rfl (by first | exact Or.inl rfl | exact Or.inr rfl) rfl rfl (QP.e (QV.p (zd0 (za2 3) (za2 4)))))
  (zb6 (zl2 (yd4 M_Setter_set_row G_Setter_set_row hr rfl (zf1 0) (zf0 (zd0 (za2 5) (QP.v za6)) (zf0 (zd0 (za2 5) (QP.v za6)) zj6)) rfl rfl (zq5 2))))))))
noncomputable def zu3 (g_p_holds_rows : (List D -> Option D)) (g_Setter_set_holder : (List D -> Option (D × List D))) (g_Setter_set_plain : (List D -> Option (D × List D))) : PSt -> Option (Fl × PSt) :=
  (zu6 3 (zq7 (za0 1))
   (fIf (za8 (fT (za4 g_p_holds_rows (za1 (za0 3) za3))))
   (zc2 (zd1 0 zb7 (zc7 [.im (za0 3), .im (za0 2)]) (zo9 "Setter" "set_holder" g_Setter_set_holder)))
   (zc2 (zd1 0 zb7 (zc7 [.im (za0 3), .im (za0 2)]) (zo9 "Setter" "set_plain" g_Setter_set_plain)))))
noncomputable abbrev zk6 : Stmt := ye2 (top 15) 4
theorem yg4 : FnScope ["self", "row", "place", "piece"] ["self", "row", "place"] (zb4 zk6) := ⟨rfl, rfl, rfl, by decide +kernel, rfl, by decide +kernel, by decide +kernel⟩
theorem yu9 {n : Nat} {f : Addr} {fd : FuncData} {g_p_holds_rows : (List D -> Option D)} {f_p_holds_rows : Addr} {fd_p_holds_rows : FuncData} {g_Setter_set_holder : (List D -> Option (D × List D))} {f_Setter_set_holder : Addr} {fd_Setter_set_holder : FuncData} {g_Setter_set_plain : (List D -> Option (D × List D))} {f_Setter_set_plain : Addr} {fd_Setter_set_plain : FuncData} (M_Setter_set_row : Mn K κ "Setter" "set_row" "Setter.set_row" zk6 ["self", "row", "place"] f fd)
    (D_p_holds_rows : Dn K mg "holds_rows" zn7 ["piece"] f_p_holds_rows fd_p_holds_rows) (G_p_holds_rows : FnOk P w K mg base CX0 n f_p_holds_rows fd_p_holds_rows ["piece"] (SpP 1 K κ g_p_holds_rows))
    (M_Setter_set_holder : Mn K κ "Setter" "set_holder" "Setter.set_holder" zk1 ["self", "piece", "place"] f_Setter_set_holder fd_Setter_set_holder) (G_Setter_set_holder : FnOk P w K mg base CX0 n f_Setter_set_holder fd_Setter_set_holder ["self", "piece", "place"] (SpE 3 K κ (zd3 [true, false, false]) g_Setter_set_holder))
    (M_Setter_set_plain : Mn K κ "Setter" "set_plain" "Setter.set_plain" zk9 ["self", "piece", "place"] f_Setter_set_plain fd_Setter_set_plain) (G_Setter_set_plain : FnOk P w K mg base CX0 n f_Setter_set_plain fd_Setter_set_plain ["self", "piece", "place"] (SpE 3 K κ (zd3 [true, false, false]) g_Setter_set_plain)) :
    FnOk P w K mg base CX0 (n + 1) f fd ["self", "row", "place"] (SpE 3 K κ (zd3 [true, false, false]) (gE 3 1 (zd3 [true, false, false]) (zu3 g_p_holds_rows g_Setter_set_holder g_Setter_set_plain))) :=
  ya0 M_Setter_set_row.F yg4 (fun i hi => zt5 hi) fun cdv A outer s H E hr =>
  (zb6 (ys9 3 1 PassesOwn.never rfl yg4.nd rfl (by first | exact Or.inl rfl | exact Or.inr rfl) rfl rfl rfl
   (zb6 (zg4 (QT.e (zr7 (QP.v (zi4 D_p_holds_rows G_p_holds_rows hr rfl rfl (zb0 (za2 3) zc6) (zb8 zg7)))))
   (zb6 (zl2 (yd4 M_Setter_set_holder G_Setter_set_holder hr rfl (zf1 0) (zf0 (za2 3) (zf0 (za2 2) zj6)) rfl rfl (zq5 2))))
   (zb6 (zl2 (yd4 M_Setter_set_plain G_Setter_set_plain hr rfl (zf1 0) (zf0 (za2 3) (zf0 (za2 2) zj6)) rfl rfl (zq5 2))))))))
noncomputable def zv8  : PSt -> Option (Fl × PSt) :=
  (zb3 (fIf (za8 (fB (f2 dLt (zi8 "Setter" "used" (za0 0)) (za4 zd7 (za1 (zi8 "Setter" "choices" (za0 0)) za3)))))
   ym3
   zc3)
  (zd4 (za5 (fMt yt7 (fC (.str "")) (za1 (zi8 "Setter" "parts" (za0 0)) za3)))))
noncomputable abbrev zk2 : Stmt := ye2 (top 15) 5
theorem yn2 : FnScope ["self"] ["self"] (zb4 zk2) := ⟨rfl, rfl, rfl, by decide +kernel, rfl, by decide +kernel, by decide +kernel⟩
theorem yn3 {n : Nat} {f : Addr} {fd : FuncData}  (M_Setter_whole_text : Mn K κ "Setter" "whole_text" "Setter.whole_text" zk2 ["self"] f fd)
    (cl_Setter : Cls K (κ "Setter"))
    (na_used : zh0 K (κ "Setter") "used")
    (na_parts : zh0 K (κ "Setter") "parts")
    (na_choices : zh0 K (κ "Setter") "choices")
    (z_len : mg "len" = none) :
    FnOk P w K mg base CX0 (n + 1) f fd ["self"] (SpP 1 K κ (gP 1 0 (zv8 ))) :=
  zk0 M_Setter_whole_text.F yn2 fun cdv A outer s H E B hr =>
  (zb2 (zg4 (QT.e (zf4 (yf6 (Room.units0 hr)) (zn2 (C := "Setter") cl_Setter na_used (za2 0)) (QP.v (zk7 zs8 rfl z_len boot_len (zb0 (zn2 (C := "Setter") cl_Setter na_choices (za2 0)) zc6))) (ze3 _)))
   (zb6 yd1)
   ze6)
  (zb6 (zg1 (QP.e (yz4 PySem.F.slot_str_join PySem.F.type_str_join xm7 (QP.v zf9) (zb0 (zn2 (C := "Setter") cl_Setter na_parts (za2 0)) zc6))))))
end L3
namespace My
open PySem PySem.Spec PyProof.Rows L2 L3
noncomputable def zh8 : Leaf -> D
  | .word x => .tup [.str "word", .str x]
  | .gap x => .tup [.str "gap", .str x]
  | .stop c => .tup [.str "stop", .int c]
  | .fin => .tup [.str "end"]
mutual
noncomputable def pcD : Pc -> D
  | .leaf l => zh8 l
  | .group r => .tup [.str "group", .tup (zc5 r)]
  | .hang n r => .tup [.str "hang", .int n, .tup (zc5 r)]
  | .either rs => .tup [.str "either", .tup (zg3 rs)]
noncomputable def zc5 : List Pc -> List D
  | [] => []
  | p :: r => pcD p :: zc5 r
noncomputable def zg3 : List (List Pc) -> List D
  | [] => []
  | r :: rs => .tup (zc5 r) :: zg3 rs
end
theorem xo7 (l : Leaf) : (zh8 l).imm = true := by cases l <;> rfl
mutual
theorem yl8 : ∀ p : Pc, (pcD p).imm = true
  | .leaf l => xo7 l
  | .group r => by show (D.imm (.str "group") && (D.imm (.tup (zc5 r)) && D.imms [])) = true; rw [show D.imm (.tup (zc5 r)) = D.imms (zc5 r) from rfl, zk5 r]; rfl
  | .hang n r => by show (D.imm (.str "hang") && (D.imm (.int n) && (D.imm (.tup (zc5 r)) && D.imms []))) = true; rw [show D.imm (.tup (zc5 r)) = D.imms (zc5 r) from rfl, zk5 r]; rfl
  | .either rs => by show (D.imm (.str "either") && (D.imm (.tup (zg3 rs)) && D.imms [])) = true; rw [show D.imm (.tup (zg3 rs)) = D.imms (zg3 rs) from rfl, ya7 rs]; rfl
theorem zk5 : ∀ r : List Pc, D.imms (zc5 r) = true
  | [] => rfl
  | p :: r => by show (D.imm (pcD p) && D.imms (zc5 r)) = true; rw [yl8 p, zk5 r]; rfl
theorem ya7 : ∀ rs : List (List Pc), D.imms (zg3 rs) = true
  | [] => rfl
  | r :: rs => by show (D.imm (.tup (zc5 r)) && D.imms (zg3 rs)) = true; rw [show D.imm (.tup (zc5 r)) = D.imms (zc5 r) from rfl, zk5 r, ya7 rs]; rfl
end
theorem yw9 : ∀ a b : List Pc, zc5 (a ++ b) = zc5 a ++ zc5 b
  | [], b => rfl
  | p :: a, b => by show pcD p :: zc5 (a ++ b) = pcD p :: (zc5 a ++ zc5 b); rw [yw9 a b]
theorem yr2 : ∀ a b : List (List Pc), zg3 (a ++ b) = zg3 a ++ zg3 b
  | [], b => rfl
  | p :: a, b => by show D.tup (zc5 p) :: zg3 (a ++ b) = D.tup (zc5 p) :: (zg3 a ++ zg3 b); rw [yr2 a b]
theorem yx0 : ∀ a : List Pc, (zc5 a).length = a.length
  | [] => rfl
  | p :: a => by show (zc5 a).length + 1 = a.length + 1; rw [yx0 a]
theorem zu9 : ∀ a : List (List Pc), (zg3 a).length = a.length
  | [] => rfl
  | p :: a => by show (zg3 a).length + 1 = a.length + 1; rw [zu9 a]
theorem xu1 {α β : Type} (f : α -> β) (hf : ∀ a b, f a = f b -> a = b) : ∀ {l m : List α}, l.map f = m.map f -> l = m
  | [], [], _ => rfl
  | [], _ :: _, h => by simp at h
  | _ :: _, [], h => by simp at h
  | a :: l, b :: m, h => by
    simp only [List.map_cons, List.cons.injEq] at h
    rw [hf a b h.1, xu1 f hf h.2]
theorem ze1 (a b : String) : (Str.ofString a = Str.ofString b) = (a = b) := by
  refine propext ⟨fun h => ?_, fun h => by rw [h]⟩
  rw [Str.ofString_eq_toList, Str.ofString_eq_toList] at h
  have h1 : (a.toList.map Char.toNat).toArray = (b.toList.map Char.toNat).toArray := (Str.mk.inj h)
  have h2 : a.toList.map Char.toNat = b.toList.map Char.toNat := by simpa using congrArg Array.toList h1
  have h3 : a.toList = b.toList := xu1 _ (fun x y e => by
    have : Char.ofNat x.toNat = Char.ofNat y.toNat := by rw [e]
    simpa using this) h2
  exact String.toList_inj.mp h3
theorem zh3 {α : Type} (a : α) (l : List α) : atI (a :: l) 0 = some a := by simp [atI, ixN]
theorem zg6 {α : Type} (a b : α) (l : List α) : atI (a :: b :: l) 1 = some b := by
  have h : ixN (a :: b :: l).length 1 = some 1 := by unfold ixN; rw [if_pos (by decide), if_pos (by simp only [List.length_cons]; omega)]; rfl
  simp only [atI, h]; rfl
theorem zm5 {α : Type} (a b c : α) (l : List α) : atI (a :: b :: c :: l) 2 = some c := by
  have h : ixN (a :: b :: c :: l).length 2 = some 2 := by unfold ixN; rw [if_pos (by decide), if_pos (by simp only [List.length_cons]; omega)]; rfl
  simp only [atI, h]; rfl
theorem sz {n : Nat} (h : n <= 1000) : n <= sizeLine := xk2 h
theorem sz1 {n : Nat} (h : n <= 1000) : n < sizeLine := xh7 h
theorem xs2 {rs : List (List Pc)} {r : List Pc} (h : r ∈ rs) : (zf5 r).length <= (zj8 rs).length := by
  induction rs with
  | nil => simp at h
  | cons q rs ih =>
    show _ <= (Tk.orr :: (zf5 q ++ zj8 rs)).length
    rw [List.length_cons, List.length_append]
    rcases List.mem_cons.mp h with e | e
    . subst e; omega
    . have := ih e; omega
theorem yv4 {rs : List (List Pc)} {r : List Pc} (h : r ∈ rs) : (zf5 r).length <= (yi3 rs).length := by
  cases rs with
  | nil => simp at h
  | cons q rs =>
    show _ <= (zf5 q ++ zj8 rs).length
    rw [List.length_append]
    rcases List.mem_cons.mp h with e | e
    . subst e; omega
    . have := xs2 e; omega
end My
namespace My
open PySem PySem.Spec PyProof.Rows L2 L3
theorem zo2 (n : Nat) : ixN (n + 1) (-1) = some n := by
  unfold ixN
  rw [if_neg (by decide), if_pos (by omega)]
  congr 1
  omega
theorem zo3 {α : Type} (l : List α) (a b : α) : (l ++ [a]).set l.length b = l ++ [b] := by
  induction l with
  | nil => rfl
  | cons x l ih => show x :: (l ++ [a]).set l.length b = _; rw [ih]; rfl
theorem yf7 (n : Nat) : ixN (n + 1) 0 = some 0 := by unfold ixN; rw [if_pos (by decide), if_pos (by omega)]; rfl
theorem xa4 : ixN 3 1 = some 1 := by decide
theorem xk5 : ixN 3 2 = some 2 := by decide
theorem zd6 (i j : Int) : zh1 (.int i) (.int j) = if 0 < j then some (.int (i % j)) else none := by simp [zh1, dII]
theorem zf3 (i j : Int) : zl8 (.int i) (.int j) = if 0 < j /\ j < 1073741824 then some (.int (i / j)) else none := by simp [zl8, dII]
theorem zj3 (x y : Str) : (x ++ y).cps.toList = x.cps.toList ++ y.cps.toList := by
  show (x.cps ++ y.cps).toList = _
  simp
theorem zj4 (x y : Str) : (x ++ y).length = x.length + y.length := by
  show (x.cps ++ y.cps).size = x.cps.size + y.cps.size
  simp
noncomputable def sg : Str := ("abcdefghijklmnopqrstuvwxyzABCDEFGHIJKLMNOPQRSTUVWXYZ0123456789" : Str) ++ ("!\"#$&'()*+,-./:;<=>?\x40[\\]^_`{|}~" : Str)
theorem we4 : sg.cps.toList.length = 93 := by decide +kernel
theorem wq4 : sg.cps.toList.all yu2 = true := by decide +kernel
theorem wq5 : sg.length <= sizeLine := by
  have e : sg.length = sg.cps.toList.length := by simp [Str.length]
  rw [e, we4]; exact sz (by decide)
theorem yd6 {α : Type} (xs : List α) (i : Int) (h0 : 0 <= i) (h1 : i < xs.length) : ∃ v ∈ xs, atI xs i = some v := by
  have hn : i.toNat < xs.length := by omega
  obtain ⟨v, hv⟩ : ∃ v, xs[i.toNat]? = some v := ⟨_, List.getElem?_eq_getElem hn⟩
  refine ⟨v, List.mem_of_getElem? hv, ?_⟩
  have e : i = ((i.toNat : Nat) : Int) := by omega
  rw [e]
  exact xd9 hv
theorem wz9 (i : Int) (h0 : 0 <= i) (h1 : i < 93) : ∃ c, atI sg.cps.toList i = some c /\ yu2 c = true := by
  obtain ⟨c, hc, e⟩ := yd6 sg.cps.toList i h0 (by rw [we4]; omega)
  exact ⟨c, e, List.all_eq_true.mp wq4 c hc⟩
theorem ww2 (n : Nat) : zl3 0 n = ((List.range n).map fun (k : Nat) => (k : Int)).map .int := by
  unfold zl3
  rw [List.map_map]
  refine List.map_congr_left fun k _ => ?_
  show D.int (0 + (k : Int)) = D.int (k : Int)
  rw [Int.zero_add]
theorem wq6 (m : Int) : ∃ s : Int, atI [D.int 1, .int 2, .int 3, .int 4, .int 5, .int 6, .int 7, .int 8, .int 10, .int 11, .int 9, .int 12] (m % 12) = some (.int s) /\ 1 <= s /\ s <= 12 := by
  have h0 := Int.emod_nonneg m (show (12 : Int) ≠ 0 by decide)
  have h1 := Int.emod_lt_of_pos m (show (0 : Int) < 12 by decide)
  obtain ⟨d, hd, e⟩ := yd6 [D.int 1, .int 2, .int 3, .int 4, .int 5, .int 6, .int 7, .int 8, .int 10, .int 11, .int 9, .int 12] (m % 12) h0 (by simpa using h1)
  simp only [List.mem_cons, List.not_mem_nil, or_false] at hd
  rcases hd with rfl | rfl | rfl | rfl | rfl | rfl | rfl | rfl | rfl | rfl | rfl | rfl <;> exact ⟨_, e, by decide, by decide⟩
theorem ww3 (k : Int) : ∃ x : Str, atI [D.str (Str.ofString " "), .str (Str.ofString " "), .str (Str.ofString " "), .str (Str.ofString "")] (k % 4) = some (.str x) /\ (x = "" \/ x = " ") := by
  have h0 := Int.emod_nonneg k (show (4 : Int) ≠ 0 by decide)
  have h1 := Int.emod_lt_of_pos k (show (0 : Int) < 4 by decide)
  obtain ⟨d, hd, e⟩ := yd6 [D.str (Str.ofString " "), .str (Str.ofString " "), .str (Str.ofString " "), .str (Str.ofString "")] (k % 4) h0 (by simpa using h1)
  simp only [List.mem_cons, List.not_mem_nil, or_false] at hd
  rcases hd with rfl | rfl | rfl | rfl
  . exact ⟨_, e, .inr rfl⟩
  . exact ⟨_, e, .inr rfl⟩
  . exact ⟨_, e, .inr rfl⟩
  . exact ⟨_, e, .inl rfl⟩
theorem wq7 (a b k : Int) (ha : 0 <= a /\ a <= 40) (hb : 0 <= b /\ b <= 40) : ∃ c : Int, atI [D.int a, .int b] (k % 2) = some (.int c) /\ 0 <= c /\ c <= 40 := by
  have h0 := Int.emod_nonneg k (show (2 : Int) ≠ 0 by decide)
  have h1 := Int.emod_lt_of_pos k (show (0 : Int) < 2 by decide)
  obtain ⟨d, hd, e⟩ := yd6 [D.int a, .int b] (k % 2) h0 (by simpa using h1)
  simp only [List.mem_cons, List.not_mem_nil, or_false] at hd
  rcases hd with rfl | rfl
  . exact ⟨_, e, ha⟩
  . exact ⟨_, e, hb⟩
theorem kc2 {α : Type} (a b c d : α) : atI [a, b, c, d] 3 = some d := rfl
theorem wq8 {i j : Int} (h1 : -1000000 <= i) (h2 : i <= 1000000) (h3 : -1000000 <= j) (h4 : j <= 1000000) : xl2 [.int i, .int j] = some (zl3 i (j - i).toNat) := by
  rw [xl2]
  exact if_pos ⟨by omega, by omega, by omega, by omega⟩
theorem xf7 {j : Int} (h3 : -1000000 <= j) (h4 : j <= 1000000) : yt9 [.int j] = some (zl3 0 j.toNat) := by
  rw [yt9]
  exact if_pos ⟨by omega, by omega⟩
theorem ww4 (a : Int) (n : Nat) : zl3 a n = ((List.range n).map fun (k : Nat) => a + (k : Int)).map .int := by
  unfold zl3
  rw [List.map_map]; rfl
theorem za7 {f g : PSt -> Option (Fl × PSt)} {p p' : PSt} (h : f p = some (.nx, p')) : zb3 f g p = g p' := by unfold zb3; rw [h]; rfl
theorem zt1 {f g : PSt -> Option (Fl × PSt)} {p p' : PSt} {R : Fl} (h : f p = some (.nx, p')) (e : ∃ q, g p' = some (R, q)) : ∃ q, zb3 f g p = some (R, q) := e.elim fun q e => ⟨q, (za7 h).trans e⟩
theorem zi5 {f g : PSt -> Option (Fl × PSt)} {p p' : PSt} {d : D} (h : f p = some (.ret d, p')) : zb3 f g p = some (.ret d, p') := by unfold zb3; rw [h]; rfl
theorem yj2 {c : PSt -> Option (Bool × PSt)} {f g : PSt -> Option (Fl × PSt)} {p p' : PSt} (h : c p = some (true, p')) : fIf c f g p = f p' := by unfold fIf; rw [h]; rfl
theorem zt2 {c : PSt -> Option (Bool × PSt)} {f g : PSt -> Option (Fl × PSt)} {p p' : PSt} (h : c p = some (false, p')) : fIf c f g p = g p' := by unfold fIf; rw [h]; rfl
theorem zf6 {i : Nat} {f : PSt -> Option D} {p : PSt} {d : D} (h : f p = some d) : zb9 i (za5 f) p = some (.nx, p.set i (some d)) := by unfold zb9 za5; rw [h]; rfl
theorem zi2 {f : PSt -> Option D} {p : PSt} {d : D} (h : f p = some d) : zd4 (za5 f) p = some (.ret d, p) := by unfold zd4 za5; rw [h]; rfl
theorem zp4 {np n : Nat} {f : PSt -> Option (Fl × PSt)} {ds : List D} {d : D} {p : PSt} (hl : ds.length = np) (h : f (ds.map some ++ List.replicate n none) = some (.ret d, p)) : gP np n f ds = some d := by
  unfold gP; rw [if_pos hl, h]; rfl
theorem zb5 {g : D -> D -> Option D} {fa fb : PSt -> Option D} {p : PSt} {x y d : D} (h1 : fa p = some x) (h2 : fb p = some y) (h3 : g x y = some d) : f2 g fa fb p = some d := by unfold f2; rw [h1, h2]; exact h3
theorem zd8 {h : List D -> Option D} {g : PSt -> Option (List D)} {p : PSt} {ds : List D} {d : D} (h1 : g p = some ds) (h2 : h ds = some d) : za4 h g p = some d := by unfold za4; rw [h1]; exact h2
theorem xo8 {o o' : Bool} {ys zs : List D} (h1 : D.imms ys = true) (h2 : D.imms zs = true) (h : ys.length + zs.length <= 1000) : zc9 (.lst o ys) (.lst o' zs) = some (.lst true (ys ++ zs)) := by
  rw [zc9]
  exact if_pos (by rw [h1, h2]; simpa using sz h)
theorem za9 {f : PSt -> Option D} {g : PSt -> Option (List D)} {p : PSt} {d : D} {ds : List D} (h1 : f p = some d) (h2 : g p = some ds) : za1 f g p = some (d :: ds) := by unfold za1; rw [h1, h2]; rfl
noncomputable def zx0 (ws : List Str) : List D := ws.map .str
theorem we5 (a b : List Str) : zx0 (a ++ b) = zx0 a ++ zx0 b := by simp [zx0]
theorem we6 (a : List Str) : (zx0 a).length = a.length := by simp [zx0]
theorem zm3 {g : PSt -> Option (List D)} {p : PSt} {ds : List D} (h : g p = some ds) (hl : ds.length <= 1000) : ze2 g p = some (.lst true ds) := by unfold ze2; rw [h]; exact if_pos hl
theorem yt2 (a : Int) (b c : Nat) (hc : 0 < c) : ∃ n : Nat, (b : Int) + a % (c : Int) = (n : Int) /\ n < b + c := by
  have h1 := Int.emod_nonneg a (show (c : Int) ≠ 0 by omega)
  have h2 := Int.emod_lt_of_pos a (show (0 : Int) < c by omega)
  exact ⟨(b + a % c).toNat, by omega, by omega⟩
theorem xa5 (k : Nat) (n : Nat) : zl3 (k : Int) (n + 1) = .int k :: zl3 ((k + 1 : Nat) : Int) n := by
  unfold zl3
  rw [List.range_succ_eq_map, List.map_cons, List.map_map]
  congr 1
  . simp
    intro j _
    omega
theorem ww5 {n : Nat} (h : n <= 1000) : yt9 [.int (n : Int)] = some (zl3 ((0 : Nat) : Int) n) := xf7 (j := (n : Int)) (by omega) (by omega)
theorem yb2 {g : PSt -> Option (List D)} {p : PSt} {ds : List D} (h : g p = some ds) (hi : D.imms ds = true) (hl : ds.length <= 1000) : zh9 g p = some (.tup ds) := by
  unfold zh9
  rw [h]
  exact if_pos (by rw [hi]; simpa using hl)
end My
namespace My
open PySem PySem.Spec PyProof.Rows L2 L3
theorem yl9 {i : Nat} {p : PSt} {d : D} (h : p[i]? = some (some d)) : za0 i p = some d := by unfold za0; rw [h]; rfl
theorem zx5 {f : PSt -> Option Bool} {p : PSt} {b : Bool} (h : f p = some b) : za8 f p = some (b, p) := by unfold za8; rw [h]; rfl
theorem zq6 {f : PSt -> Option D} {p : PSt} {b : Bool} (h : f p = some (.bl b)) : fB f p = some b := by unfold fB; rw [h]; rfl
theorem wn2 {f : PSt -> Option D} {p : PSt} {b : Bool} (h : f p = some (.bl b)) : fT f p = some b := by unfold fT; rw [h]; rfl
theorem zx6 {f g : PSt -> Option Bool} {p : PSt} (h : f p = some false) : zf8 f g p = some false := by unfold zf8; rw [h]; rfl
theorem zu5 {f g : PSt -> Option Bool} {p : PSt} {b : Bool} (h : f p = some true) (h2 : g p = some b) : zf8 f g p = some b := by unfold zf8; rw [h]; exact h2
theorem yd7 {f : PSt -> Option Bool} {p : PSt} {b : Bool} (h : f p = some b) : zh4 f p = some (!b) := by unfold zh4; rw [h]; rfl
theorem ze8 {c : PSt -> Option Bool} {F : PSt -> Option (Fl × PSt)} {p : PSt} (h : c p = some false) : fIf (za8 c) F zc3 p = some (.nx, p) := (zt2 (zx5 h)).trans rfl
theorem zi1 {c : PSt -> Option Bool} {F G : PSt -> Option (Fl × PSt)} {p : PSt} (h : c p = some true) : fIf (za8 c) F G p = F p := yj2 (zx5 h)
noncomputable def kdT (i : Nat) (w : String) : PSt -> Option Bool := fB (f2 dEq (f2 dIx (za0 i) (fC (.int 0))) (fC (.str w)))
theorem yr3 {i : Nat} {p : PSt} {k w : String} {ds : List D} {b : Bool} (hp : p[i]? = some (some (.tup (.str k :: ds)))) (h : decide (k = w) = b) : kdT i w p = some b := by
  refine zq6 (zb5 (zb5 (yl9 hp) rfl (zh3 _ _)) rfl ?_)
  show some (D.bl (decide ((k : Str) = (w : Str)))) = _
  rw [<- h]
  congr 2
  exact decide_eq_decide.mpr (by rw [ze1])
theorem yh8 {f : PSt -> Option (D × PSt)} {p p' : PSt} {d : D} (h : f p = some (d, p')) : zc2 f p = some (.nx, p') := by unfold zc2; rw [h]; rfl
theorem yr4 {as : List L2.Arg} {g : List D -> Option (D × List D)} {p : PSt} {ds ds' : List D} {d : D} (h1 : zc7 as p = some ds) (h2 : g ds = some (d, ds')) (h3 : ds'.length = as.length) : fIO as g p = some (d, zi7 p as ds') := by unfold fIO; rw [h1, Option.bind_some, h2, Option.bind_some, if_pos h3]
theorem zm4 {f : PSt -> Option D} {p : PSt} {d : D} (h : f p = some d) (hi : d.imm = true) : zc0 f p = some d := by unfold zc0; rw [h]; exact if_pos hi
theorem yd8 {p : PSt} : zc7 [] p = some [] := rfl
theorem zp8 {f : PSt -> Option D} {as : List L2.Arg} {p : PSt} {d : D} {ds : List D} (h : f p = some d) (hi : d.imm = true) (h2 : zc7 as p = some ds) : zc7 (.im f :: as) p = some (d :: ds) := by
  show (zc0 f p).bind _ = _
  rw [zm4 h hi, Option.bind_some, h2]; rfl
theorem ym0 {j : Nat} {as : List L2.Arg} {p : PSt} {d : D} {ds : List D} (h : p[j]? = some (some d)) (h2 : zc7 as p = some ds) : zc7 (.io j :: as) p = some (d :: ds) := by
  show ((p[j]?).join).bind _ = _
  rw [h, Option.join_some, Option.bind_some, h2]; rfl
theorem ww6 {f : PSt -> Option (D × PSt)} {p p' : PSt} {b : Bool} (h : f p = some (.bl b, p')) : fTE f p = some (b, p') := by unfold fTE; rw [h]; rfl
theorem wk1 {f : PSt -> Option (Bool × PSt)} {p p' : PSt} {b : Bool} (h : f p = some (b, p')) : ya1 f p = some (!b, p') := by unfold ya1; rw [h]; rfl
end My
namespace My
open PySem PySem.Spec PyProof.Rows L2 L3
theorem xk6 : ("\n" : Str) = ⟨#[10]⟩ := by decide +kernel
theorem wn3 : (" " : Str) = ⟨#[32]⟩ := by decide +kernel
theorem wk2 : ("" : Str) = ⟨#[]⟩ := by decide +kernel
theorem yd9 {x y : Str} (h : x.cps.toList = y.cps.toList) : x = y := by
  cases x; cases y
  simp only at h
  rw [Array.toList_inj.mp h]
theorem ya8 (x : Str) : x.length = x.cps.toList.length := by simp [Str.length]
theorem xi5 : ∀ (n : Nat) (a b : Array Nat), ((List.replicate n a).foldl (· ++ ·) b).toList = b.toList ++ (List.replicate n a.toList).flatten
  | 0, a, b => by simp
  | n + 1, a, b => by
    rw [List.replicate_succ, List.foldl_cons, xi5 n a (b ++ a), List.replicate_succ, List.flatten_cons]
    simp
theorem yx1 (n : Int) : (Txt.mul " " n).cps.toList = List.replicate n.toNat 32 := by
  rw [wn3]
  unfold Txt.mul
  by_cases h : n < 1
  . rw [if_pos h, show n.toNat = 0 by omega]; rfl
  . rw [if_neg h]
    by_cases h1 : n = 1
    . subst h1; rfl
    . rw [if_neg]
      . show ((List.replicate n.toNat #[32]).foldl (· ++ ·) #[]).toList = _
        rw [xi5]
        simp
      . simp [h1, Str.length]
theorem yb3 (n : Int) : (Txt.mul " " n).length = n.toNat := by rw [ya8, yx1, List.length_replicate]
theorem xo9 (n : Int) : (10 : Nat) ∉ (Txt.mul " " n).cps.toList := by rw [yx1]; simp
noncomputable def col (t : Str) : Nat := (t.cps.toList.reverse.takeWhile (· != 10)).length
theorem we7 {l : List Nat} (h : (10 : Nat) ∉ l) : ∀ a ∈ l, (a != 10) = true := fun a ha => by
  simp only [bne_iff_ne, ne_eq]
  intro e; subst e; exact h ha
theorem xu2 {t w : Str} (h : (10 : Nat) ∉ w.cps.toList) : col (t ++ w) = col t + w.length := by
  unfold col
  rw [zj3, List.reverse_append, List.takeWhile_append_of_pos (we7 (by simpa using h)), List.length_append, List.length_reverse, ya8]
  omega
theorem xp0 {t w : Str} (h : (10 : Nat) ∉ w.cps.toList) : col (t ++ ((⟨#[10]⟩ : Str) ++ w)) = w.length := by
  unfold col
  rw [zj3, zj3, List.reverse_append, List.reverse_append, List.append_assoc, List.takeWhile_append_of_pos (we7 (by simpa using h)), List.length_append, List.length_reverse, ya8]
  simp
theorem ww7 (t : Str) : col t <= t.length := by
  unfold col
  rw [ya8, <- List.length_reverse (as := t.cps.toList)]
  exact (List.takeWhile_sublist _).length_le
theorem xk7 {t : Str} {i : Nat} : StrLaws.At t ⟨#[10]⟩ t.length i ↔ t.cps.toList[i]? = some 10 := by
  unfold StrLaws.At Builtin.Str.subAt
  show i + 1 <= t.length /\ (t.cps.extract i (i + 1) == #[10]) = true ↔ _
  rw [beq_iff_eq, <- Array.toList_inj]
  have e : (t.cps.extract i (i + 1)).toList = (t.cps.toList.drop i).take 1 := by simp [Array.toList_extract, List.extract]
  rw [e, ya8]
  constructor
  . intro ⟨h1, h2⟩
    rw [List.getElem?_eq_getElem (by omega)]
    rw [List.drop_eq_getElem_cons (by omega)] at h2
    simpa using h2
  . intro h
    obtain ⟨hi, h2⟩ := List.getElem?_eq_some_iff.mp h
    refine ⟨by omega, ?_⟩
    rw [List.drop_eq_getElem_cons hi, h2]
    rfl
theorem we8 (t : Str) : (t.length : Int) - 1 - Txt.rfind t ⟨#[10]⟩ = (col t : Int) := by
  rcases rfind_whole t ⟨#[10]⟩ with ⟨e, h⟩ | ⟨i, e, h1, h2⟩
  . have hn : (10 : Nat) ∉ t.cps.toList := fun hm => by
      obtain ⟨i, hi⟩ := List.getElem?_of_mem hm
      exact h i (xk7.mpr hi)
    have := xu2 (t := ⟨#[]⟩) hn
    have e0 : (⟨#[]⟩ : Str) ++ t = t := yd9 (by rw [zj3]; rfl)
    rw [e0, show col ⟨#[]⟩ = 0 from rfl] at this
    rw [e, this]; omega
  . rw [xk7] at h1
    obtain ⟨hi, h3⟩ := List.getElem?_eq_some_iff.mp h1
    have hs : t.cps.toList = t.cps.toList.take i ++ 10 :: t.cps.toList.drop (i + 1) := by
      rw [<- h3, <- List.drop_eq_getElem_cons hi, List.take_append_drop]
    have hn : (10 : Nat) ∉ t.cps.toList.drop (i + 1) := fun hm => by
      obtain ⟨j, hj⟩ := List.getElem?_of_mem hm
      rw [List.getElem?_drop] at hj
      exact h2 (i + 1 + j) (by omega) (xk7.mpr hj)
    have e1 : t = (⟨(t.cps.toList.take i).toArray⟩ : Str) ++ ((⟨#[10]⟩ : Str) ++ (⟨(t.cps.toList.drop (i + 1)).toArray⟩ : Str)) := yd9 (by
      rw [zj3, zj3]
      exact hs)
    have e2 := xp0 (t := ⟨(t.cps.toList.take i).toArray⟩) (w := ⟨(t.cps.toList.drop (i + 1)).toArray⟩) hn
    rw [<- e1] at e2
    rw [e, e2, ya8, ya8]
    show ((t.cps.toList.length : Nat) : Int) - 1 - (i : Int) = (((t.cps.toList.drop (i + 1)).length : Nat) : Int)
    rw [List.length_drop]
    omega
noncomputable def nlw (m : Int) : Str := (⟨#[10]⟩ : Str) ++ Txt.mul " " m
noncomputable def wr (b : Bool) (m : Int) (k : Nat) : Leaf -> Option Str
  | .word x => some x
  | .gap x => if b then some (nlw m) else some x
  | .stop c => if (k : Int) <= c then some (Txt.mul " " (c - k)) else if b then some (nlw c) else none
  | .fin => if b then some (nlw m) else none
noncomputable def Wr (w : Str) : Prop := (10 : Nat) ∉ w.cps.toList \/ ∃ m : Int, w = nlw m
theorem wq9 {x : Str} (h : xq8 x) : (10 : Nat) ∉ x.cps.toList := fun hm => by
  have := List.all_eq_true.mp h.2.2 _ hm
  simp [yu2] at this
theorem ww8 {x : Str} (h : x = "" \/ x = " ") : (10 : Nat) ∉ x.cps.toList := by
  rcases h with rfl | rfl
  . simp [show ("" : Str) = ⟨#[]⟩ from by decide +kernel]
  . simp [wn3]
theorem wn4 {b : Bool} {m : Int} {k : Nat} {l : Leaf} {w : Str} (hl : zu7 l) (h0 : 0 <= m) (h1 : m <= 200) (h : wr b m k l = some w) : Wr w /\ w.length <= 201 := by
  have nl : ∀ c : Int, 0 <= c -> c <= 200 -> Wr (nlw c) /\ (nlw c).length <= 201 := fun c c0 c1 => ⟨.inr ⟨c, rfl⟩, by unfold nlw; rw [zj4, yb3]; show 1 + _ <= _; omega⟩
  cases l with
  | word x => cases h; exact ⟨.inl (wq9 hl), by have := hl.2.1; omega⟩
  | gap x =>
    cases b with
    | true => cases h; exact nl m h0 h1
    | false =>
      have e : x = w := by simpa [wr] using h
      subst e
      have hl' : x = "" \/ x = " " := hl
      refine ⟨.inl (ww8 hl'), ?_⟩
      rcases hl' with e | e <;> subst e
      . show (0 : Nat) <= 201; decide
      . show (1 : Nat) <= 201; decide
  | stop c =>
    have hc : 0 <= c /\ c <= 40 := hl
    change (if (k : Int) <= c then some (Txt.mul " " (c - k)) else if b = true then some (nlw c) else none) = some w at h
    by_cases hk : (k : Int) <= c
    . rw [if_pos hk] at h; cases h
      exact ⟨.inl (xo9 _), by rw [yb3]; omega⟩
    . rw [if_neg hk] at h
      cases b with
      | true => cases h; exact nl c hc.1 (by omega)
      | false => cases h
  | fin =>
    cases b with
    | true => cases h; exact nl m h0 h1
    | false => cases h
mutual
noncomputable def zo6 : Bool -> Int -> Pc -> List Int -> Str -> Option (List Int × Str)
  | b, m, .leaf l, cs, t => (wr b m (col t) l).map fun w => (cs, t ++ w)
  | b, m, .group r, cs, t => if b = true then (match cs with
      | [] => none
      | c :: cs => if c = 0 then zl0 false m r cs t else if c = 1 then zl0 true m r cs t else none) else zl0 false m r cs t
  | b, m, .hang n r, cs, t => zl0 b (m + n) r cs t
  | b, m, .either rs, cs, t => match cs with
      | [] => none
      | c :: cs => if 0 <= c then zz4 b m rs c.toNat cs t else none
noncomputable def zl0 : Bool -> Int -> List Pc -> List Int -> Str -> Option (List Int × Str)
  | _, _, [], cs, t => some (cs, t)
  | b, m, p :: r, cs, t => (zo6 b m p cs t).bind fun s => zl0 b m r s.1 s.2
noncomputable def zz4 : Bool -> Int -> List (List Pc) -> Nat -> List Int -> Str -> Option (List Int × Str)
  | _, _, [], _, _, _ => none
  | b, m, r :: _, 0, cs, t => zl0 b m r cs t
  | b, m, _ :: rs, i + 1, cs, t => zz4 b m rs i cs t
end
theorem yr5 : ∀ {rs : List (List Pc)} {i : Nat} {b : Bool} {m : Int} {cs : List Int} {t : Str} {r : List Pc}, rs[i]? = some r -> zz4 b m rs i cs t = zl0 b m r cs t
  | [], i, _, _, _, _, _, h => by simp at h
  | q :: rs, 0, _, _, _, _, _, h => by simp at h; subst h; rw [zz4]
  | q :: rs, i + 1, _, _, _, _, _, h => by rw [zz4]; exact yr5 (by simpa using h)
theorem xa6 : ∀ {rs : List (List Pc)} {i : Nat} {b : Bool} {m : Int} {cs : List Int} {t : Str}, rs[i]? = none -> zz4 b m rs i cs t = none
  | [], i, _, _, _, _, h => by rw [zz4]
  | q :: rs, 0, _, _, _, _, h => by simp at h
  | q :: rs, i + 1, _, _, _, _, h => by rw [zz4]; exact xa6 (by simpa using h)
mutual
theorem we9 : ∀ {p : Pc} {b : Bool} {m : Int} {cs cs' : List Int} {t t' : Str} (x : List Int), zo6 b m p cs t = some (cs', t') -> zo6 b m p (cs ++ x) t = some (cs' ++ x, t')
  | .leaf l, b, m, cs, cs', t, t', x, h => by
    rw [zo6] at h |-
    cases e : wr b m (col t) l with
    | none => rw [e] at h; cases h
    | some w => rw [e] at h; cases h; rfl
  | .group r, b, m, cs, cs', t, t', x, h => by
    rw [zo6.eq_def] at h |-
    simp only at h |-
    cases b with
    | false => simp only [Bool.false_eq_true, if_false] at h |-; exact zx7 x h
    | true =>
      cases cs with
      | nil => simp at h
      | cons c cs =>
        simp only [if_true, List.cons_append] at h |-
        by_cases c0 : c = 0
        . simp only [c0, if_true] at h |-; exact zx7 x h
        . by_cases c1 : c = 1
          . simp only [c1, if_true] at h |-; exact zx7 x h
          . simp [c0, c1] at h
  | .hang n r, b, m, cs, cs', t, t', x, h => by rw [zo6] at h |-; exact zx7 x h
  | .either rs, b, m, cs, cs', t, t', x, h => by
    rw [zo6.eq_def] at h |-
    cases cs with
    | nil => cases h
    | cons c cs =>
      simp only [List.cons_append] at h |-
      by_cases c0 : 0 <= c
      . simp only [c0, if_true] at h |-; exact xa7 x h
      . simp [c0] at h
theorem zx7 : ∀ {r : List Pc} {b : Bool} {m : Int} {cs cs' : List Int} {t t' : Str} (x : List Int), zl0 b m r cs t = some (cs', t') -> zl0 b m r (cs ++ x) t = some (cs' ++ x, t')
  | [], b, m, cs, cs', t, t', x, h => by rw [zl0] at h |-; cases h; rfl
  | p :: r, b, m, cs, cs', t, t', x, h => by
    rw [zl0] at h |-
    cases e : zo6 b m p cs t with
    | none => rw [e] at h; cases h
    | some s =>
      obtain ⟨c1, t1⟩ := s
      rw [e] at h
      rw [we9 x e]
      exact zx7 x h
theorem xa7 : ∀ {rs : List (List Pc)} {i : Nat} {b : Bool} {m : Int} {cs cs' : List Int} {t t' : Str} (x : List Int), zz4 b m rs i cs t = some (cs', t') -> zz4 b m rs i (cs ++ x) t = some (cs' ++ x, t')
  | [], i, b, m, cs, cs', t, t', x, h => by rw [zz4] at h; cases h
  | r :: rs, 0, b, m, cs, cs', t, t', x, h => by rw [zz4] at h |-; exact zx7 x h
  | r :: rs, i + 1, b, m, cs, cs', t, t', x, h => by rw [zz4] at h |-; exact xa7 x h
end
theorem xa8 {r : List Pc} {b : Bool} {m : Int} {t t1 t2 : Str} {cs x : List Int} (h1 : zl0 b m r cs t = some ([], t1)) (h2 : zl0 b m r (cs ++ x) t = some ([], t2)) : x = [] := by
  rw [zx7 x h1] at h2
  cases h2; rfl
end My
namespace My
open PySem PySem.Spec PyProof.Rows L2 L3
noncomputable abbrev nsP : List Str := ["broken", "margin"]
noncomputable def zc4 (b : Bool) (m : Int) : D := .obj false "Place" nsP [.bl b, .int m]
noncomputable abbrev zq9 : List D -> Option (D × List D) := gE 3 0 (zd3 [true, false, false]) yp3
theorem xy3 (b : Bool) (m : Int) : zq9 [.obj true "Place" [] [], .bl b, .int m] = some (.non, [.obj true "Place" nsP [.bl b, .int m], .bl b, .int m]) := by
  kernel_rfl
noncomputable abbrev xc6 : List D -> Option D := gP 0 0 (yi4 zq9)
noncomputable abbrev yf5 : List D -> Option D := gP 1 0 yj8
noncomputable def ys3 : Pc -> Bool
  | .leaf _ => false
  | _ => true
theorem xp1 (p : Pc) : yf5 [pcD p] = some (.bl (ys3 p)) := by
  cases p with
  | leaf l => cases l <;> kernel_rfl
  | _ => kernel_rfl
noncomputable abbrev yi5 : List D -> Option D := gP 2 0 yg5
noncomputable def xc7 (b : Bool) : Pc -> Bool
  | .either _ => true
  | .group _ => b
  | _ => false
theorem wk3 (p : Pc) (b : Bool) (m : Int) (hp : ys3 p = true) : yi5 [pcD p, zc4 b m] = some (.bl (xc7 b p)) := by
  cases p with
  | leaf l => cases hp
  | group r => cases b <;> kernel_rfl
  | _ => kernel_rfl
noncomputable def yk0 (b : Bool) (m : Int) : Pc -> List (List Pc × Bool × Int)
  | .leaf _ => []
  | .group r => if b = true then [(r, false, m), (r, true, m)] else [(r, false, m)]
  | .hang n r => [(r, b, m + n)]
  | .either rs => rs.map fun r => (r, b, m)
noncomputable def zu1 (x : List Pc × Bool × Int) : D := .tup [.tup (zc5 x.1), zc4 x.2.1 x.2.2]
noncomputable abbrev xc8 : List D -> Option D := gP 2 2 (zx9 zq9)
theorem yf1 (b : Bool) (m : Int) : (zc4 b m).imm = true := rfl
theorem xf8 (x : List Pc × Bool × Int) : (zu1 x).imm = true := by
  show (D.imm (.tup (zc5 x.1)) && (D.imm (zc4 x.2.1 x.2.2) && D.imms [])) = true
  rw [show D.imm (.tup (zc5 x.1)) = D.imms (zc5 x.1) from rfl, zk5]; rfl
theorem xi6 (b : Bool) (m : Int) : ∀ (rs : List (List Pc)) (x : Option D), zv5 [x, some (zc4 b m)] yg3 (zh9 (za1 (zc0 (za0 0)) (za1 (zc0 (za0 1)) za3))) (zg3 rs) = some ((rs.map fun r => (r, b, m)).map zu1)
  | [], _ => rfl
  | r :: rs, x => by
    have ih := xi6 b m rs x
    have hi := yf1 b m
    have hp := zk5 r
    show zv5 _ _ _ (.tup (zc5 r) :: zg3 rs) = _
    rw [zv5]
    show (yg3 [some (.tup (zc5 r)), some (zc4 b m)]).bind _ = _
    rw [List.map_cons, List.map_cons]
    have e : zh9 (za1 (zc0 (za0 0)) (za1 (zc0 (za0 1)) za3)) [some (.tup (zc5 r)), some (zc4 b m)] = some (zu1 (r, b, m)) := by
      unfold zu1
      generalize zc4 b m = q at hi |-
      simp [gP, gE, zb3, zc3, zb9, za5, fIf, za8, fB, f2, za0, fC, zc0, zd4, zc2, zd1, zb7, ze0, ze9, za1, za3, ze2, zh9, za4, dEq, dNe, eqB, dB, dIx, zd7, zc8, D.imm, D.imms, zc9, zl7, fT, zd9, ze1, zh3, zg6, zm5, zh7, dIn, inB, yg9, D.flat, D.flats, inV, eqV, zh4, zf8, zk8, yi1, fOr, zc7, zo0, zh5, zj7, zf2, zt6, zi8, zn0, zj9, ye4, zl9, zd3, dLe, dLt, dGe, dIs, zl6, fMt, zq7, yg1, hp, hi]
    show ((zh9 (za1 (zc0 (za0 0)) (za1 (zc0 (za0 1)) za3)) [some (.tup (zc5 r)), some (zc4 b m)]).bind _) = _
    rw [e, Option.bind_some, ih]; rfl
noncomputable def xc9 : Pc -> Nat
  | .either rs => rs.length
  | _ => 0
theorem kd2 {p : PSt} {k w : String} {b : Bool} (hp : p[2]? = some (some (.str k))) (h : decide (k = w) = b) : fB (f2 dEq (za0 2) (fC (.str w))) p = some b := by
  refine zq6 (zb5 (yl9 hp) rfl ?_)
  show some (D.bl (decide ((k : Str) = (w : Str)))) = _
  rw [<- h]
  congr 2
  exact decide_eq_decide.mpr (by rw [ze1])
theorem yx2 {p : PSt} {f g : PSt -> Option D} {b : Bool} {m : Int} (h1 : f p = some (.bl b)) (h2 : g p = some (.int m)) : ye4 (zj9 "Place" (zc7 [.im f, .im g]) zq9) p = some (zc4 b m) := by
  have q := xy3 b m
  have e : zj9 "Place" (zc7 [.im f, .im g]) zq9 p = some (.obj true "Place" nsP [.bl b, .int m]) := by
    unfold zj9
    rw [zp8 h1 rfl (zp8 h2 rfl yd8), Option.bind_some, q]; rfl
  unfold ye4
  rw [e]; rfl
theorem wk4 : xc6 [] = some (zc4 true 0) := zp4 (p := []) rfl (zi2 (yx2 rfl rfl))
theorem xf9 {p : PSt} {f g : PSt -> Option D} {r : List Pc} {b : Bool} {m : Int} (h1 : f p = some (.tup (zc5 r))) (h2 : g p = some (zc4 b m)) : zh9 (za1 f (za1 g za3)) p = some (zu1 (r, b, m)) := by
  unfold zh9
  rw [za9 h1 (za9 h2 rfl)]
  refine (if_pos ?_).trans rfl
  have := xf8 (r, b, m)
  rw [show D.imms [.tup (zc5 r), zc4 b m] = true from this]; rfl
theorem wr0 (p : Pc) (b : Bool) (m : Int) (hp : ys3 p = true) (hl : xc9 p <= 1000) : xc8 [pcD p, zc4 b m] = some (.lst true ((yk0 b m p).map zu1)) := by
  show gP 2 2 (zx9 zq9) _ = _
  cases p with
  | leaf l => cases hp
  | group r =>
    have s1 : zb9 2 (za5 (zc0 (f2 dIx (za0 0) (fC (.int 0))))) [some (pcD (.group r)), some (zc4 b m), none, none] = some (.nx, [some (pcD (.group r)), some (zc4 b m), some (.str "group"), none]) := zf6 (zm4 (zb5 rfl rfl (zh3 _ _)) rfl)
    have s4 : zb9 3 (za5 (zh9 (za1 (zc0 (f2 dIx (za0 0) (fC (.int 1)))) (za1 (ye4 (zj9 "Place" (zc7 [.im (fC (.bl false)), .im (zi8 "Place" "margin" (za0 1))]) zq9)) za3)))) [some (pcD (.group r)), some (zc4 b m), some (.str "group"), none] = some (.nx, [some (pcD (.group r)), some (zc4 b m), some (.str "group"), some (zu1 (r, false, m))]) := zf6 (xf9 (zm4 (zb5 rfl rfl (zg6 _ _ _)) (zk5 r)) (yx2 rfl (by kernel_rfl)))
    have w3 : zc0 (za0 3) [some (pcD (.group r)), some (zc4 b m), some (.str "group"), some (zu1 (r, false, m))] = some (zu1 (r, false, m)) := zm4 rfl (xf8 _)
    have br : fT (zi8 "Place" "broken" (za0 1)) [some (pcD (.group r)), some (zc4 b m), some (.str "group"), some (zu1 (r, false, m))] = some b := wn2 (by kernel_rfl)
    suffices h : ∃ q, zx9 zq9 [some (pcD (.group r)), some (zc4 b m), none, none] = some (.ret (.lst true ((yk0 b m (.group r)).map zu1)), q) from by
      obtain ⟨q, hq⟩ := h; exact zp4 rfl hq
    unfold zx9
    rw [za7 s1, za7 (ze8 (kd2 rfl (by decide))), za7 (ze8 (kd2 rfl (by decide))), za7 s4]
    cases b with
    | true => exact ⟨_, zi5 ((zi1 br).trans (zi2 (zm3 (za9 w3 (za9 (xf9 (zm4 (zb5 rfl rfl (zg6 _ _ _)) (zk5 r)) (zm4 rfl rfl)) rfl)) (Nat.le_of_ble_eq_true rfl))))⟩
    | false => exact ⟨_, (za7 (ze8 br)).trans (zi2 (zm3 (za9 w3 rfl) (Nat.le_of_ble_eq_true rfl)))⟩
  | hang n r =>
    have s1 : zb9 2 (za5 (zc0 (f2 dIx (za0 0) (fC (.int 0))))) [some (pcD (.hang n r)), some (zc4 b m), none, none] = some (.nx, [some (pcD (.hang n r)), some (zc4 b m), some (.str "hang"), none]) := zf6 (zm4 (zb5 rfl rfl (zh3 _ _)) rfl)
    refine zp4 (p := [some (pcD (.hang n r)), some (zc4 b m), some (.str "hang"), none]) rfl ?_
    unfold zx9
    exact (za7 s1).trans (zi5 ((zi1 (kd2 rfl (by decide))).trans (zi2 (zm3 (za9 (xf9 (zm4 (zb5 rfl rfl (zm5 _ _ _ _)) (zk5 r)) (yx2 (by kernel_rfl) (zb5 (x := .int m) (by kernel_rfl) (zb5 rfl rfl (zg6 _ _ _)) rfl))) rfl) (Nat.le_of_ble_eq_true rfl)))))
  | either rs =>
    generalize zq9 = G
    have hz : (zg3 rs).length <= sizeLine := by rw [zu9]; exact sz hl
    have e := xi6 b m rs none
    have e2 : ye8 [none, some 1] (zq7 (f2 dIx (za0 0) (fC (.int 1)))) yg3 (zh9 (za1 (zc0 (za0 0)) (za1 (zc0 (za0 1)) za3))) [some (pcD (.either rs)), some (zc4 b m), some (.str "either"), none] = some (.lst true ((yk0 b m (.either rs)).map zu1)) := by
      unfold ye8
      have e3 : zq7 (f2 dIx (za0 0) (fC (.int 1))) [some (pcD (.either rs)), some (zc4 b m), some (.str "either"), none] = some (zg3 rs) := by simp [gP, gE, zb3, zc3, zb9, za5, fIf, za8, fB, f2, za0, fC, zc0, zd4, zc2, zd1, zb7, ze0, ze9, za1, za3, ze2, zh9, za4, dEq, dNe, eqB, dB, dIx, zd7, zc8, D.imm, D.imms, zc9, zl7, fT, zd9, ze1, zh3, zg6, zm5, zh7, dIn, inB, yg9, D.flat, D.flats, inV, eqV, zh4, zf8, zk8, yi1, fOr, zc7, zo0, zh5, zj7, zf2, zt6, zi8, zn0, zj9, ye4, zl9, zd3, dLe, dLt, dGe, dIs, zl6, fMt, zq7, yg1, pcD]
      rw [e3, Option.bind_some, if_pos hz]
      have e4 : zv5 (yg2 [none, some 1] [some (pcD (.either rs)), some (zc4 b m), some (.str "either"), none]) yg3 (zh9 (za1 (zc0 (za0 0)) (za1 (zc0 (za0 1)) za3))) (zg3 rs) = some ((rs.map fun r => (r, b, m)).map zu1) := e
      rw [e4]; rfl
    have s1 : zb9 2 (za5 (zc0 (f2 dIx (za0 0) (fC (.int 0))))) [some (pcD (.either rs)), some (zc4 b m), none, none] = some (.nx, [some (pcD (.either rs)), some (zc4 b m), some (.str "either"), none]) := by simp [gP, gE, zb3, zc3, zb9, za5, fIf, za8, fB, f2, za0, fC, zc0, zd4, zc2, zd1, zb7, ze0, ze9, za1, za3, ze2, zh9, za4, dEq, dNe, eqB, dB, dIx, zd7, zc8, D.imm, D.imms, zc9, zl7, fT, zd9, ze1, zh3, zg6, zm5, zh7, dIn, inB, yg9, D.flat, D.flats, inV, eqV, zh4, zf8, zk8, yi1, fOr, zc7, zo0, zh5, zj7, zf2, zt6, zi8, zn0, zj9, ye4, zl9, zd3, dLe, dLt, dGe, dIs, zl6, fMt, zq7, yg1, pcD]
    have s2 : ∀ F : PSt -> Option (Fl × PSt), fIf (za8 (fB (f2 dEq (za0 2) (fC (.str "hang"))))) F zc3 [some (pcD (.either rs)), some (zc4 b m), some (.str "either"), none] = some (.nx, [some (pcD (.either rs)), some (zc4 b m), some (.str "either"), none]) := fun F => by simp [gP, gE, zb3, zc3, zb9, za5, fIf, za8, fB, f2, za0, fC, zc0, zd4, zc2, zd1, zb7, ze0, ze9, za1, za3, ze2, zh9, za4, dEq, dNe, eqB, dB, dIx, zd7, zc8, D.imm, D.imms, zc9, zl7, fT, zd9, ze1, zh3, zg6, zm5, zh7, dIn, inB, yg9, D.flat, D.flats, inV, eqV, zh4, zf8, zk8, yi1, fOr, zc7, zo0, zh5, zj7, zf2, zt6, zi8, zn0, zj9, ye4, zl9, zd3, dLe, dLt, dGe, dIs, zl6, fMt, zq7, yg1]
    have s3 : ∀ F : PSt -> Option (Fl × PSt), fIf (za8 (fB (f2 dEq (za0 2) (fC (.str "either"))))) F zc3 [some (pcD (.either rs)), some (zc4 b m), some (.str "either"), none] = F [some (pcD (.either rs)), some (zc4 b m), some (.str "either"), none] := fun F => by simp [gP, gE, zb3, zc3, zb9, za5, fIf, za8, fB, f2, za0, fC, zc0, zd4, zc2, zd1, zb7, ze0, ze9, za1, za3, ze2, zh9, za4, dEq, dNe, eqB, dB, dIx, zd7, zc8, D.imm, D.imms, zc9, zl7, fT, zd9, ze1, zh3, zg6, zm5, zh7, dIn, inB, yg9, D.flat, D.flats, inV, eqV, zh4, zf8, zk8, yi1, fOr, zc7, zo0, zh5, zj7, zf2, zt6, zi8, zn0, zj9, ye4, zl9, zd3, dLe, dLt, dGe, dIs, zl6, fMt, zq7, yg1]
    refine zp4 rfl ?_ (p := [some (pcD (.either rs)), some (zc4 b m), some (.str "either"), none])
    unfold zx9
    exact (za7 s1).trans ((za7 (s2 _)).trans (zi5 ((s3 _).trans (zi2 e2))))
noncomputable abbrev gNl : List D -> Option D := gP 1 0 yp2
theorem xk8 (m : Int) (h0 : -1000 <= m) (h1 : m <= 1000) : zq1 (.str " ") (.int m) = some (.str (Txt.mul " " m)) := by
  rw [zq1, if_pos]
  simp only [Bool.and_eq_true, decide_eq_true_eq]
  exact ⟨⟨by decide +kernel, by omega⟩, by omega⟩
theorem wn5 (m : Int) (h0 : 0 <= m) (h1 : m <= 200) : gNl [.int m] = some (.str (nlw m)) := by
  have q := xk8 m (by omega) (by omega)
  have hl : 1 + (Txt.mul " " m).length <= sizeLine := by rw [yb3]; exact sz (by omega)
  have e : ((⟨#[10]⟩ : Str) ++ Txt.mul " " m) = nlw m := rfl
  have e1 : zc9 (.str "\n") (.str (Txt.mul " " m)) = some (.str (nlw m)) := by
    rw [xk6, zc9, if_pos (by exact hl)]; rfl
  exact zp4 rfl (zi2 (zb5 rfl (zb5 rfl rfl q) e1))
noncomputable abbrev yo5 : List D -> Option D := gP 3 1 (yc4 gNl)
noncomputable def wrD : Option Str -> D
  | some w => .str w
  | none => .non
theorem kd3 {p : PSt} {k w : String} {b : Bool} (hp : p[3]? = some (some (.str k))) (h : decide (k = w) = b) : fB (f2 dEq (za0 3) (fC (.str w))) p = some b := by
  refine zq6 (zb5 (yl9 hp) rfl ?_)
  show some (D.bl (decide ((k : Str) = (w : Str)))) = _
  rw [<- h]
  congr 2
  exact decide_eq_decide.mpr (by rw [ze1])
theorem xy4 (l : Leaf) (b : Bool) (m : Int) (k : Nat) (hl : zu7 l) (h0 : 0 <= m) (h1 : m <= 200) (hk : k <= 1000000) : yo5 [zh8 l, zc4 b m, .int k] = some (wrD (wr b m k l)) := by
  suffices h : ∃ q, yc4 gNl [some (zh8 l), some (zc4 b m), some (.int k), none] = some (.ret (wrD (wr b m k l)), q) from by
    obtain ⟨q, hq⟩ := h; exact zp4 rfl hq
  have br : ∀ d x, fT (zi8 "Place" "broken" (za0 1)) [some d, some (zc4 b m), some (.int k), x] = some b := fun d x => wn2 (by kernel_rfl)
  have mg : ∀ d x, za4 gNl (za1 (zi8 "Place" "margin" (za0 1)) za3) [some d, some (zc4 b m), some (.int k), x] = some (.str (nlw m)) := fun d x => zd8 (ds := [.int m]) (za9 (by kernel_rfl) rfl) (wn5 m h0 h1)
  have s1 : ∀ (w : String) (ds : List D), zb9 3 (za5 (zc0 (f2 dIx (za0 0) (fC (.int 0))))) [some (.tup (.str w :: ds)), some (zc4 b m), some (.int k), none] = some (.nx, [some (.tup (.str w :: ds)), some (zc4 b m), some (.int k), some (.str w)]) := fun w ds => zf6 (zm4 (zb5 rfl rfl (zh3 _ _)) rfl)
  unfold yc4
  cases l with
  | word x => exact ⟨_, (za7 (s1 "word" [.str x])).trans (zi5 ((zi1 (kd3 rfl (by decide))).trans (zi2 (zm4 (zb5 rfl rfl (zg6 _ _ _)) rfl))))⟩
  | gap x =>
    show ∃ q, zb3 _ _ [some (.tup [.str "gap", .str x]), some (zc4 b m), some (.int k), none] = _
    rw [za7 (s1 "gap" [.str x]), za7 (ze8 (kd3 rfl (by decide)))]
    cases b with
    | false => exact ⟨_, zi5 ((zi1 (zu5 (kd3 rfl (by decide)) (yd7 (br _ _)))).trans (zi2 (zm4 (zb5 rfl rfl (zg6 _ _ _)) rfl)))⟩
    | true => exact ⟨_, (za7 (ze8 (zu5 (kd3 rfl (by decide)) (yd7 (br _ _))))).trans ((za7 (ze8 (zx6 (kd3 rfl (by decide))))).trans ((za7 (ze8 (yd7 (br _ _)))).trans ((za7 (ze8 (kd3 rfl (by decide)))).trans (zi2 (mg _ _)))))⟩
  | fin =>
    show ∃ q, zb3 _ _ [some (.tup [.str "end"]), some (zc4 b m), some (.int k), none] = _
    rw [za7 (s1 "end" []), za7 (ze8 (kd3 rfl (by decide))), za7 (ze8 (zx6 (kd3 rfl (by decide)))), za7 (ze8 (zx6 (kd3 rfl (by decide))))]
    cases b with
    | false => exact ⟨_, zi5 ((zi1 (yd7 (br _ _))).trans (zi2 rfl))⟩
    | true => exact ⟨_, (za7 (ze8 (yd7 (br _ _)))).trans ((za7 (ze8 (kd3 rfl (by decide)))).trans (zi2 (mg _ _)))⟩
  | stop c =>
    have hc : 0 <= c /\ c <= 40 := hl
    show ∃ q, zb3 _ _ [some (.tup [.str "stop", .int c]), some (zc4 b m), some (.int k), none] = _
    have le : fB (f2 dLe (za0 2) (f2 dIx (za0 0) (fC (.int 1)))) [some (.tup [.str "stop", .int c]), some (zc4 b m), some (.int k), some (.str "stop")] = some (decide ((k : Int) <= c)) := zq6 (zb5 rfl (zb5 rfl rfl (zg6 _ _ _)) rfl)
    rw [za7 (s1 "stop" [.int c]), za7 (ze8 (kd3 rfl (by decide))), za7 (ze8 (zx6 (kd3 rfl (by decide))))]
    by_cases hkc : (k : Int) <= c
    . rw [decide_eq_true hkc] at le
      rw [show wr b m k (.stop c) = some (Txt.mul " " (c - k)) from if_pos hkc]
      exact ⟨_, zi5 ((zi1 (zu5 (kd3 rfl (by decide)) le)).trans (zi2 (zb5 rfl (zb5 (zb5 rfl rfl (zg6 _ _ _)) rfl rfl) (xk8 (c - k) (by omega) (by omega)))))⟩
    . rw [decide_eq_false hkc] at le
      rw [za7 (ze8 (zu5 (kd3 rfl (by decide)) le))]
      cases b with
      | false =>
        rw [show wr false m k (.stop c) = none from (if_neg hkc).trans rfl]
        exact ⟨_, zi5 ((zi1 (yd7 (br _ _))).trans (zi2 rfl))⟩
      | true =>
        rw [show wr true m k (.stop c) = some (nlw c) from (if_neg hkc).trans rfl]
        exact ⟨_, (za7 (ze8 (yd7 (br _ _)))).trans (zi5 ((zi1 (kd3 rfl (by decide))).trans (zi2 (zd8 (za9 (zb5 rfl rfl (zg6 _ _ _)) rfl) (wn5 c hc.1 (by omega))))))⟩
end My
namespace My
open PySem PySem.Spec PyProof.Rows L2 L3
theorem wf0 {w : Str} : Txt.startswith w ⟨#[10]⟩ = decide (w.cps.toList[0]? = some 10) := by
  rw [Bool.eq_iff_iff, decide_eq_true_eq, <- xk7 (t := w) (i := 0)]
  unfold Txt.startswith StrLaws.At
  simp only [Bool.and_eq_true, decide_eq_true_eq]
noncomputable abbrev xd0 : List D -> Option D := gP 1 0 ye5
theorem wr1 (w : Str) : xd0 [.str w] = some (.bl (decide (w.cps.toList[0]? = some 10))) := by
  rw [<- wf0, <- xk6]
  simp [gP, gE, zb3, zc3, zb9, za5, fIf, za8, fB, f2, za0, fC, zc0, zd4, zc2, zd1, zb7, ze0, ze9, za1, za3, za4, dIx, zd7, zc8, D.imm, D.imms, zc9, zl7, fT, zd9, ze1, zh3, zg6, zk8, zc7, zo0, zh5, zj7, zf2, zt6, zi8, zn0, zj9, zl9, zd3, dLt, dGe, dIs, zl6, fMt, fB, dB, zk4, ye5, zz8, yn9]
noncomputable abbrev yu4 : List D -> Option D := gP 2 0 (zp7 xd0)
theorem wf1 {t w : Str} (hw : Wr w) (hz : w.length <= 1000) : yu4 [.int (col t), .str w] = some (.int (col (t ++ w))) := by
  have q := wr1 w
  have hz' : w.length <= sizeLine := sz hz
  show gP 2 0 (zp7 xd0) _ = _
  rcases hw with h | ⟨m, rfl⟩
  . have e : decide (w.cps.toList[0]? = some 10) = false := decide_eq_false fun h' => h (List.mem_of_getElem? h')
    rw [e] at q
    rw [xu2 h]
    generalize xd0 = G at q |-
    simp [gP, gE, zb3, zc3, zb9, za5, fIf, za8, fB, f2, za0, fC, zc0, zd4, zc2, zd1, zb7, ze0, ze9, za1, za3, za4, dIx, zd7, zc8, D.imm, D.imms, zc9, zl7, fT, zd9, ze1, zh3, zg6, zk8, zc7, zo0, zh5, zj7, zf2, zt6, zi8, zn0, zj9, zl9, zd3, dLt, dGe, dIs, zl6, fMt, fB, dB, zk4, zp7, q, hz']
  . have e : decide ((nlw m).cps.toList[0]? = some 10) = true := decide_eq_true (by unfold nlw; rw [zj3]; rfl)
    rw [e] at q
    have e2 : col (t ++ nlw m) = (nlw m).length - 1 := by
      unfold nlw
      rw [xp0 (xo9 m), zj4]; show _ = 1 + _ - 1; omega
    have e3 : 1 <= (nlw m).length := by unfold nlw; rw [zj4]; show 1 <= 1 + _; omega
    rw [e2]
    generalize xd0 = G at q |-
    generalize nlw m = w at hz' q e3 |-
    simp [gP, gE, zb3, zc3, zb9, za5, fIf, za8, fB, f2, za0, fC, zc0, zd4, zc2, zd1, zb7, ze0, ze9, za1, za3, za4, dIx, zd7, zc8, D.imm, D.imms, zc9, zl7, fT, zd9, ze1, zh3, zg6, zk8, zc7, zo0, zh5, zj7, zf2, zt6, zi8, zn0, zj9, zl9, zd3, dLt, dGe, dIs, zl6, fMt, fB, dB, zk4, zp7, q, hz']
    omega
noncomputable def cat : List Str -> Str
  | [] => ⟨#[]⟩
  | x :: xs => x ++ cat xs
theorem xg0 (t : Str) : t ++ (⟨#[]⟩ : Str) = t := yd9 (by rw [zj3]; simp [gP, gE, zb3, zc3, zb9, za5, fIf, za8, fB, f2, za0, fC, zc0, zd4, zc2, zd1, zb7, ze0, ze9, za1, za3, za4, dIx, zd7, zc8, D.imm, D.imms, zc9, zl7, fT, zd9, ze1, zh3, zg6, zk8, zc7, zo0, zh5, zj7, zf2, zt6, zi8, zn0, zj9, zl9, zd3, dLt, dGe, dIs, zl6, fMt, fB, dB, zk4])
theorem wr2 (t : Str) : (⟨#[]⟩ : Str) ++ t = t := yd9 (by rw [zj3]; simp [gP, gE, zb3, zc3, zb9, za5, fIf, za8, fB, f2, za0, fC, zc0, zd4, zc2, zd1, zb7, ze0, ze9, za1, za3, za4, dIx, zd7, zc8, D.imm, D.imms, zc9, zl7, fT, zd9, ze1, zh3, zg6, zk8, zc7, zo0, zh5, zj7, zf2, zt6, zi8, zn0, zj9, zl9, zd3, dLt, dGe, dIs, zl6, fMt, fB, dB, zk4])
theorem xu3 (a b c : Str) : (a ++ b) ++ c = a ++ (b ++ c) := yd9 (by simp only [zj3, List.append_assoc])
theorem yn4 : ∀ (ps : List Str) (w : Str), cat (ps ++ [w]) = cat ps ++ w
  | [], w => by show w ++ (⟨#[]⟩ : Str) = (⟨#[]⟩ : Str) ++ w; rw [xg0, wr2]
  | x :: ps, w => by show x ++ cat (ps ++ [w]) = (x ++ cat ps) ++ w; rw [yn4 ps w, xu3]
noncomputable abbrev nsS : List Str := ["choices", "used", "column", "parts"]
noncomputable def zb1 (C : List Int) : List D := C.map .int
theorem yj3 (a b : List Int) : zb1 (a ++ b) = zb1 a ++ zb1 b := by simp [gP, gE, zb3, zc3, zb9, za5, fIf, za8, fB, f2, za0, fC, zc0, zd4, zc2, zd1, zb7, ze0, ze9, za1, za3, za4, dIx, zd7, zc8, D.imm, D.imms, zc9, zl7, fT, zd9, ze1, zh3, zg6, zk8, zc7, zo0, zh5, zj7, zf2, zt6, zi8, zn0, zj9, zl9, zd3, dLt, dGe, dIs, zl6, fMt, fB, dB, zk4, zb1]
theorem zv0 (a : List Int) : (zb1 a).length = a.length := by simp [gP, gE, zb3, zc3, zb9, za5, fIf, za8, fB, f2, za0, fC, zc0, zd4, zc2, zd1, zb7, ze0, ze9, za1, za3, za4, dIx, zd7, zc8, D.imm, D.imms, zc9, zl7, fT, zd9, ze1, zh3, zg6, zk8, zc7, zo0, zh5, zj7, zf2, zt6, zi8, zn0, zj9, zl9, zd3, dLt, dGe, dIs, zl6, fMt, fB, dB, zk4, zb1]
theorem xp2 : ∀ C : List Int, D.ints (zb1 C) = some C
  | [] => rfl
  | c :: C => by show D.ints (.int c :: zb1 C) = _; rw [D.ints, xp2 C]; rfl
noncomputable def stD (C : List Int) (u : Nat) (ps : List Str) : D := .obj true "Setter" nsS [.tup (zb1 C), .int u, .int (col (cat ps)), .lst true (zx0 ps)]
theorem zr3 : ∀ C, D.imms (zb1 C) = true
  | [] => rfl
  | c :: C => by show (D.imm (.int c) && D.imms (zb1 C)) = true; rw [zr3 C]; rfl
noncomputable abbrev zw0 : List D -> Option (D × List D) := gE 3 1 (zd3 [true, false, false]) (zs6 yo5 yu4)
theorem wk5 {C : List Int} {u : Nat} {ps : List Str} {l : Leaf} {b : Bool} {m : Int} {w : Str} (hl : zu7 l) (h0 : 0 <= m) (h1 : m <= 200) (hw : wr b m (col (cat ps)) l = some w) (hp : ps.length <= 900) (hc : (cat ps).length <= 1000000) :
    zw0 [stD C u ps, zh8 l, zc4 b m] = some (.non, [stD C u (ps ++ [w]), zh8 l, zc4 b m]) := by
  obtain ⟨hW, hz⟩ := wn4 hl h0 h1 hw
  have q1 := xy4 l b m (col (cat ps)) hl h0 h1 (Nat.le_trans (ww7 _) hc)
  rw [hw] at q1
  have q2 := wf1 (t := cat ps) hW (by omega)
  have hi : (zx0 ps).length < sizeLine := by rw [we6]; exact sz1 (by omega)
  have es : zx0 (ps ++ [w]) = zx0 ps ++ [.str w] := by rw [we5]; rfl
  show gE 3 1 _ (zs6 yo5 yu4) _ = _
  unfold stD
  rw [yn4, es]
  generalize zh8 l = dl at q1 |-
  generalize zc4 b m = dp at q1 |-
  generalize yo5 = G1 at q1 |-
  generalize yu4 = G2 at q2 |-
  simp only [wrD] at q1
  simp [gP, gE, zb3, zc3, zb9, za5, fIf, za8, fB, f2, za0, fC, zc0, zd4, zc2, zd1, zb7, ze0, ze9, za1, za3, za4, dIx, zd7, zc8, D.imm, D.imms, zc9, zl7, fT, zd9, ze1, zh3, zg6, zk8, zc7, zo0, zh5, zj7, zf2, zt6, zi8, zn0, zj9, zl9, zd3, dLt, dGe, dIs, zl6, fMt, fB, dB, zk4, zs6, q1, q2, hi]
noncomputable abbrev yc6 : List D -> Option (D × List D) := gE 2 1 (zd3 [true, false]) zu0
theorem zy7 {α : Type} {xs : List α} {n : Nat} {v : α} (h : xs[n]? = some v) : atI xs (n : Int) = some v := xd9 h
theorem wk6 {C : List Int} {u n : Nat} {c : Int} {ps : List Str} (hc : C[u]? = some c) (h0 : 0 <= c) (h1 : c < n) : yc6 [stD C u ps, .int n] = some (.int c, [stD C (u + 1) ps, .int n]) := by
  obtain ⟨hu, _⟩ := List.getElem?_eq_some_iff.mp hc
  have hl : (zb1 C).length = C.length := List.length_map _
  have e : atI (zb1 C) (u : Int) = some (.int c) := zy7 (by unfold zb1; rw [List.getElem?_map, hc]; rfl)
  have g1 : ¬ ((C.length : Int) <= (u : Int)) := by omega
  have g2 : ¬ (c < 0) := by omega
  have g3 : ¬ ((n : Int) <= c) := by omega
  unfold stD
  simp [gP, gE, zb3, zc3, zb9, za5, fIf, za8, fB, f2, za0, fC, zc0, zd4, zc2, zd1, zb7, ze0, ze9, za1, za3, za4, dIx, zd7, zc8, D.imm, D.imms, zc9, zl7, fT, zd9, ze1, zh3, zg6, zk8, zc7, zo0, zh5, zj7, zf2, zt6, zi8, zn0, zj9, zl9, zd3, dLt, dGe, dIs, zl6, fMt, fB, dB, zk4, zu0, hl, e, g1, g2, g3]
noncomputable abbrev yo6 (GR : List D -> Option (D × List D)) : List D -> Option (D × List D) := gE 3 3 (zd3 [true, false, false]) (zq8 xc8 yi5 yc6 GR)
theorem yt3 {GR : List D -> Option (D × List D)} {p : Pc} {b : Bool} {m : Int} {C : List Int} {u u1 i : Nat} {ps : List Str} {x : List Pc × Bool × Int} {N : D} (hp : ys3 p = true) (hn : xc9 p <= 1000) (hi : (yk0 b m p)[i]? = some x)
    (hc : (xc7 b p = true /\ C[u]? = some (i : Int) /\ u1 = u + 1) \/ (xc7 b p = false /\ i = 0 /\ u1 = u)) (hR : GR [stD C u1 ps, .tup (zc5 x.1), zc4 x.2.1 x.2.2] = some (.non, [N, .tup (zc5 x.1), zc4 x.2.1 x.2.2])) :
    yo6 GR [stD C u ps, pcD p, zc4 b m] = some (.non, [N, pcD p, zc4 b m]) := by
  have q1 := wr0 p b m hp hn
  have q2 := wk3 p b m hp
  have hil : i < ((yk0 b m p).map zu1).length := by rw [List.length_map]; exact (List.getElem?_eq_some_iff.mp hi).1
  have e1 : atI ((yk0 b m p).map zu1) (i : Int) = some (zu1 x) := zy7 (by rw [List.getElem?_map, hi]; rfl)
  have hw := xf8 x
  have p1 := zk5 x.1
  have p2 := yf1 x.2.1 x.2.2
  generalize hW : (yk0 b m p).map zu1 = W at q1 hil e1
  have st1 : ∀ v ps', stD C v ps' = .obj true "Setter" nsS [.tup (zb1 C), .int v, .int (col (cat ps')), .lst true (zx0 ps')] := fun _ _ => rfl
  have hm : ∀ v, zo9 "Setter" "set_row" GR [.tup (zc5 x.1), zc4 x.2.1 x.2.2] (stD C v ps) = (GR [stD C v ps, .tup (zc5 x.1), zc4 x.2.1 x.2.2]).bind fun r => match r.2 with
      | d' :: ds => if ds.length = 2 then some (r.1, d') else none
      | [] => none := fun v => by
    rw [st1]
    show (if (("Setter" : Str) = "Setter" /\ zf2 nsS "set_row" = none) then _ else none) = _
    exact if_pos ⟨rfl, by simp [gP, gE, zb3, zc3, zb9, za5, fIf, za8, fB, f2, za0, fC, zc0, zd4, zc2, zd1, zb7, ze0, ze9, za1, za3, za4, dIx, zd7, zc8, D.imm, D.imms, zc9, zl7, fT, zd9, ze1, zh3, zg6, zk8, zc7, zo0, zh5, zj7, zf2, zt6, zi8, zn0, zj9, zl9, zd3, dLt, dGe, dIs, zl6, fMt, fB, dB, zk4]⟩
  have hm1 : zo9 "Setter" "set_row" GR [.tup (zc5 x.1), zc4 x.2.1 x.2.2] (stD C u1 ps) = some (.non, N) := by rw [hm, hR]; rfl
  have body : ∀ f4 : Int, zb3 (zb9 5 (za5 (zc0 (f2 dIx (za0 3) (za0 4))))) (zc2 (zd1 0 zb7 (zc7 [.im (f2 dIx (za0 5) (fC (.int 0))), .im (f2 dIx (za0 5) (fC (.int 1)))]) (zo9 "Setter" "set_row" GR))) [some (stD C u1 ps), some (pcD p), some (zc4 b m), some (.lst true W), some (.int (i : Int)), none] = some (.nx, [some N, some (pcD p), some (zc4 b m), some (.lst true W), some (.int (i : Int)), some (zu1 x)]) := fun _ => by
    have s1 : zb9 5 (za5 (zc0 (f2 dIx (za0 3) (za0 4)))) [some (stD C u1 ps), some (pcD p), some (zc4 b m), some (.lst true W), some (.int (i : Int)), none] = some (.nx, [some (stD C u1 ps), some (pcD p), some (zc4 b m), some (.lst true W), some (.int (i : Int)), some (zu1 x)]) := by
      refine zf6 ?_
      simp [gP, gE, zb3, zc3, zb9, za5, fIf, za8, fB, f2, za0, fC, zc0, zd4, zc2, zd1, zb7, ze0, ze9, za1, za3, za4, dIx, zd7, zc8, D.imm, D.imms, zc9, zl7, fT, zd9, ze1, zh3, zg6, zk8, zc7, zo0, zh5, zj7, zf2, zt6, zi8, zn0, zj9, zl9, zd3, dLt, dGe, dIs, zl6, fMt, fB, dB, zk4, e1, hw]
    refine (za7 s1).trans ?_
    unfold zu1 at *
    generalize zc4 x.2.1 x.2.2 = PX at *
    generalize stD C u1 ps = ST at *
    simp [gP, gE, zb3, zc3, zb9, za5, fIf, za8, fB, f2, za0, fC, zc0, zd4, zc2, zd1, zb7, ze0, ze9, za1, za3, za4, dIx, zd7, zc8, D.imm, D.imms, zc9, zl7, fT, zd9, ze1, zh3, zg6, zk8, zc7, zo0, zh5, zj7, zf2, zt6, zi8, zn0, zj9, zl9, zd3, dLt, dGe, dIs, zl6, fMt, fB, dB, zk4, p1, p2, hm1]
  show gE 3 3 _ (zq8 xc8 yi5 yc6 GR) _ = _
  have s1 : zb9 3 (za5 (za4 xc8 (za1 (za0 1) (za1 (za0 2) za3)))) [some (stD C u ps), some (pcD p), some (zc4 b m), none, none, none] = some (.nx, [some (stD C u ps), some (pcD p), some (zc4 b m), some (.lst true W), none, none]) := zf6 (zd8 (za9 rfl (za9 rfl rfl)) q1)
  have s2 : zb9 4 (za5 (fC (.int 0))) [some (stD C u ps), some (pcD p), some (zc4 b m), some (.lst true W), none, none] = some (.nx, [some (stD C u ps), some (pcD p), some (zc4 b m), some (.lst true W), some (.int 0), none]) := rfl
  have t1 : ∀ B, xc7 b p = B -> za8 (fT (za4 yi5 (za1 (za0 1) (za1 (za0 2) za3)))) [some (stD C u ps), some (pcD p), some (zc4 b m), some (.lst true W), some (.int 0), none] = some (B, [some (stD C u ps), some (pcD p), some (zc4 b m), some (.lst true W), some (.int 0), none]) := fun B hB => by
    have e : za4 yi5 (za1 (za0 1) (za1 (za0 2) za3)) [some (stD C u ps), some (pcD p), some (zc4 b m), some (.lst true W), some (.int 0), none] = some (.bl B) := zd8 (za9 rfl (za9 rfl rfl)) (hB ▸ q2)
    unfold za8 fT
    rw [e]; rfl
  have s3 : fIf (za8 (fT (za4 yi5 (za1 (za0 1) (za1 (za0 2) za3))))) (zb9 4 (zd1 0 zb7 (zc7 [.im (za4 zd7 (za1 (za0 3) za3))]) (zo9 "Setter" "choice_below" yc6))) zc3 [some (stD C u ps), some (pcD p), some (zc4 b m), some (.lst true W), some (.int 0), none] = some (.nx, [some (stD C u1 ps), some (pcD p), some (zc4 b m), some (.lst true W), some (.int (i : Int)), none]) := by
    rcases hc with ⟨hT, hC, rfl⟩ | ⟨hT, rfl, rfl⟩
    . refine (yj2 (t1 _ hT)).trans ?_
      have qb := wk6 (ps := ps) hC (by omega) (show (i : Int) < (W.length : Nat) by omega)
      have hb : zo9 "Setter" "choice_below" yc6 [.int (W.length : Nat)] (stD C u ps) = some (.int (i : Int), stD C (u + 1) ps) := by
        have e : zo9 "Setter" "choice_below" yc6 [.int (W.length : Nat)] (stD C u ps) = (yc6 [stD C u ps, .int (W.length : Nat)]).bind fun r => match r.2 with
            | d' :: ds => if ds.length = 1 then some (r.1, d') else none
            | [] => none := by
          rw [st1]
          show (if (("Setter" : Str) = "Setter" /\ zf2 nsS "choice_below" = none) then _ else none) = _
          exact if_pos ⟨rfl, by simp [gP, gE, zb3, zc3, zb9, za5, fIf, za8, fB, f2, za0, fC, zc0, zd4, zc2, zd1, zb7, ze0, ze9, za1, za3, za4, dIx, zd7, zc8, D.imm, D.imms, zc9, zl7, fT, zd9, ze1, zh3, zg6, zk8, zc7, zo0, zh5, zj7, zf2, zt6, zi8, zn0, zj9, zl9, zd3, dLt, dGe, dIs, zl6, fMt, fB, dB, zk4]⟩
        rw [e, qb]; rfl
      generalize yc6 = G at hb |-
      generalize stD C u ps = S0 at hb |-
      generalize stD C (u + 1) ps = S1 at hb |-
      generalize pcD p = d1
      generalize zc4 b m = d2
      simp [gP, gE, zb3, zc3, zb9, za5, fIf, za8, fB, f2, za0, fC, zc0, zd4, zc2, zd1, zb7, ze0, ze9, za1, za3, za4, dIx, zd7, zc8, D.imm, D.imms, zc9, zl7, fT, zd9, ze1, zh3, zg6, zk8, zc7, zo0, zh5, zj7, zf2, zt6, zi8, zn0, zj9, zl9, zd3, dLt, dGe, dIs, zl6, fMt, fB, dB, zk4, hb]
    . exact (zt2 (t1 _ hT)).trans rfl
  have z := (za7 s1).trans ((za7 s2).trans ((za7 s3).trans (body 0)))
  unfold gE
  refine (if_pos rfl).trans ?_
  have z' : zq8 xc8 yi5 yc6 GR ([stD C u ps, pcD p, zc4 b m].map some ++ List.replicate 3 none) = some (.nx, [some N, some (pcD p), some (zc4 b m), some (.lst true W), some (.int (i : Int)), some (zu1 x)]) := z
  rw [z']
  rfl
end My
namespace My
open PySem PySem.Spec PyProof.Rows L2 L3
structure Gm where
  kd : Nat
  n : Int
  full : List (List Pc)
  parts : List Pc
noncomputable def kdS : Nat -> String
  | 0 => "top"
  | 1 => "group"
  | 2 => "hang"
  | _ => "either"
noncomputable def gmD (f : Gm) : D := .lst true [.str (kdS f.kd), .int f.n, .lst true (zg3 f.full), .lst true (zc5 f.parts)]
noncomputable def zf7 : List Gm -> List D
  | [] => []
  | f :: fs => zf7 fs ++ [gmD f]
theorem ye0 : ∀ fs, (zf7 fs).length = fs.length
  | [] => rfl
  | f :: fs => by rw [zf7, List.length_append, ye0 fs]; rfl
noncomputable def yk1 : List Pc := [.leaf (.word "or")]
noncomputable def ye9 (f : Gm) : List (List Pc) := if f.full = [] then [f.parts, yk1] else f.full ++ [f.parts]
noncomputable def zp1 (f : Gm) : Pc := match f.kd with
  | 1 => .group f.parts
  | 2 => .hang f.n f.parts
  | _ => .either (ye9 f)
noncomputable def zw5 (g : Gm) (p : Pc) : Gm := { g with parts := g.parts ++ [p] }
mutual
noncomputable def okP : Pc -> Prop
  | .leaf l => zu7 l
  | .group r => okR r
  | .hang n r => (0 <= n /\ n <= 12) /\ okR r
  | .either rs => (2 <= rs.length /\ rs.length <= 4) /\ zy5 rs
noncomputable def okR : List Pc -> Prop
  | [] => True
  | p :: r => okP p /\ okR r
noncomputable def zy5 : List (List Pc) -> Prop
  | [] => True
  | r :: rs => okR r /\ zy5 rs
end
theorem xg1 : ∀ a b : List Pc, okR (a ++ b) ↔ okR a /\ okR b
  | [], b => by simp [okR]
  | p :: a, b => by rw [List.cons_append, okR, okR, xg1 a b, and_assoc]
theorem yx3 : ∀ a b : List (List Pc), zy5 (a ++ b) ↔ zy5 a /\ zy5 b
  | [], b => by simp [zy5]
  | p :: a, b => by rw [List.cons_append, zy5, zy5, yx3 a b, and_assoc]
theorem xu4 (p : Pc) : okR [p] ↔ okP p := by simp [okR]
theorem xp3 (r : List Pc) : zy5 [r] ↔ okR r := by simp [zy5]
theorem yh9 : ∀ a b : List (List Pc), zj8 (a ++ b) = zj8 a ++ zj8 b
  | [], b => rfl
  | r :: a, b => by
    show Tk.orr :: (zf5 r ++ zj8 (a ++ b)) = (Tk.orr :: (zf5 r ++ zj8 a)) ++ zj8 b
    rw [yh9 a b]; simp
noncomputable def wF (f : Gm) : Nat := (zj8 f.full).length + (zf5 f.parts).length + 4
noncomputable def wG : List Gm -> Nat
  | [] => 0
  | f :: fs => wF f + wG fs
noncomputable def wy9 (f : Gm) : Prop := zy5 f.full /\ okR f.parts /\ f.full.length <= 3 /\ (f.kd ≠ 3 -> f.full = []) /\ 0 <= f.n /\ f.n <= 12
noncomputable def xr1 : List Gm -> Prop
  | [] => False
  | [f] => f.kd = 0
  | f :: g :: fs => (1 <= f.kd /\ f.kd <= 3) /\ xr1 (g :: fs)
noncomputable def wo2 (m : Nat) : List Gm -> Prop
  | [] => True
  | f :: fs => zi6 f.parts + fs.length <= m /\ zw9 f.full + fs.length <= m /\ wo2 m fs
structure GInv (nest k : Nat) (fs : List Gm) : Prop where
  len : fs.length <= nest + 1
  wt : wG fs <= 4 * k + 4
  each : ∀ f ∈ fs, wy9 f
  kinds : xr1 fs
  deep : wo2 nest fs
theorem xy5 {f : Gm} (h : f.kd ≠ 3 -> f.full = []) (hk : 1 <= f.kd /\ f.kd <= 3) : (zj2 (zp1 f)).length <= wF f := by
  have e : f.kd = 1 \/ f.kd = 2 \/ f.kd = 3 := by omega
  unfold wF zp1
  rcases e with e | e | e
  . rw [e]; show (Tk.opn :: (zf5 f.parts ++ [.cls])).length <= _; rw [List.length_cons, List.length_append]; simp; omega
  . rw [e]; show (Tk.hng f.n :: (zf5 f.parts ++ [.bck])).length <= _; rw [List.length_cons, List.length_append]; simp; omega
  . rw [e]
    show (Tk.eit :: (yi3 (ye9 f) ++ [.don])).length <= _
    rw [List.length_cons, List.length_append]
    unfold ye9
    cases hf : f.full with
    | nil =>
      rw [if_pos rfl]
      show (zf5 f.parts ++ (Tk.orr :: (zf5 yk1 ++ []))).length + 1 + 1 <= _
      simp [yk1, zf5, zj2, zj8]
    | cons r rs =>
      rw [if_neg (by simp)]
      show (zf5 r ++ zj8 (rs ++ [f.parts])).length + 1 + 1 <= (Tk.orr :: (zf5 r ++ zj8 rs)).length + _ + 4
      rw [yh9]
      simp [zj8]; omega
theorem wk7 {f : Gm} (h : wy9 f) (hk : 1 <= f.kd /\ f.kd <= 3) : okP (zp1 f) := by
  obtain ⟨h1, h2, h3, h4, h5, h6⟩ := h
  have e : f.kd = 1 \/ f.kd = 2 \/ f.kd = 3 := by omega
  unfold zp1
  rcases e with e | e | e
  . rw [e]; exact h2
  . rw [e]; exact ⟨⟨h5, h6⟩, h2⟩
  . rw [e]
    show (2 <= (ye9 f).length /\ (ye9 f).length <= 4) /\ zy5 (ye9 f)
    unfold ye9
    by_cases c : f.full = []
    . rw [if_pos c]
      refine ⟨⟨by simp, by simp⟩, h2, ?_, trivial⟩
      exact ⟨⟨by decide +kernel, by decide +kernel, by decide +kernel⟩, trivial⟩
    . rw [if_neg c]
      have hp : 1 <= f.full.length := by cases hf : f.full with | nil => exact absurd hf c | cons a l => simp
      refine ⟨⟨by rw [List.length_append]; simp; omega, by rw [List.length_append]; simp; omega⟩, ?_⟩
      rw [yx3, xp3]; exact ⟨h1, h2⟩
theorem wf2 {f : Gm} {m k : Nat} (h1 : zi6 f.parts + (k + 1) <= m) (h2 : zw9 f.full + (k + 1) <= m) : zp6 (zp1 f) + k <= m := by
  unfold zp1
  split
  . show zi6 f.parts + 1 + k <= m; omega
  . show zi6 f.parts + 1 + k <= m; omega
  . show zw9 (ye9 f) + 1 + k <= m
    unfold ye9
    split
    . show max (zi6 f.parts) (max (zi6 yk1) 0) + 1 + k <= m
      have : zi6 yk1 = 0 := rfl
      omega
    . rw [ym9]; omega
theorem GInv.leaf {nest k : Nat} {f : Gm} {fs : List Gm} {l : Leaf} (h : GInv nest k (f :: fs)) (hl : zu7 l) : GInv nest (k + 1) (zw5 f (.leaf l) :: fs) := by
  obtain ⟨h1, h2, h3, h4, h5⟩ := h
  have hf := h3 f List.mem_cons_self
  refine ⟨h1, ?_, ?_, ?_, ?_⟩
  . have h2' : wF f + wG fs <= 4 * k + 4 := h2
    show (zj8 f.full).length + (zf5 (f.parts ++ [.leaf l])).length + 4 + wG fs <= _
    rw [yh7, List.length_append]
    unfold wF at h2'
    show _ + (_ + 1) + 4 + _ <= _
    omega
  . intro x hx
    rcases List.mem_cons.mp hx with rfl | hx
    . obtain ⟨a1, a2, a3, a4, a5⟩ := hf
      exact ⟨a1, (xg1 _ _).mpr ⟨a2, (xu4 _).mpr hl⟩, a3, a4, a5⟩
    . exact h3 x (List.mem_cons_of_mem _ hx)
  . cases fs with
    | nil => exact h4
    | cons g fs => exact ⟨h4.1, h4.2⟩
  . refine ⟨?_, h5.2.1, h5.2.2⟩
    show zi6 (f.parts ++ [.leaf l]) + fs.length <= nest
    rw [yq7]
    have := h5.1
    show max _ 0 + _ <= _
    omega
theorem GInv.opener {nest k : Nat} {fs : List Gm} {kd : Nat} {n : Int} (h : GInv nest k fs) (hk : 1 <= kd /\ kd <= 3) (hn : 0 <= n /\ n <= 12) (hl : fs.length <= nest) : GInv nest (k + 1) (⟨kd, n, [], []⟩ :: fs) := by
  obtain ⟨h1, h2, h3, h4, h5⟩ := h
  refine ⟨by simp; omega, ?_, ?_, ?_, ?_⟩
  . show 0 + 0 + 4 + wG fs <= _; omega
  . intro x hx
    rcases List.mem_cons.mp hx with rfl | hx
    . exact ⟨trivial, trivial, Nat.zero_le _, fun _ => rfl, hn⟩
    . exact h3 x hx
  . cases fs with
    | nil => exact h4.elim
    | cons g fs => exact ⟨hk, h4⟩
  . exact ⟨by show 0 + _ <= _; omega, by show 0 + _ <= _; omega, h5⟩
theorem GInv.orr {nest k : Nat} {f : Gm} {fs : List Gm} (h : GInv nest k (f :: fs)) (hf3 : f.full.length < 3) (hk : f.kd = 3) : GInv nest (k + 1) ({ f with full := f.full ++ [f.parts], parts := [] } :: fs) := by
  obtain ⟨h1, h2, h3, h4, h5⟩ := h
  have hf := h3 f List.mem_cons_self
  refine ⟨h1, ?_, ?_, ?_, ?_⟩
  . have h2' : wF f + wG fs <= 4 * k + 4 := h2
    show (zj8 (f.full ++ [f.parts])).length + 0 + 4 + wG fs <= _
    rw [yh9, List.length_append]
    unfold wF at h2'
    simp [zj8]; omega
  . intro x hx
    rcases List.mem_cons.mp hx with rfl | hx
    . obtain ⟨a1, a2, a3, a4, a5⟩ := hf
      exact ⟨(yx3 _ _).mpr ⟨a1, (xp3 _).mpr a2⟩, trivial, by show (f.full ++ [f.parts]).length <= 3; rw [List.length_append]; simp; omega, fun z => absurd hk z, a5⟩
    . exact h3 x (List.mem_cons_of_mem _ hx)
  . cases fs with
    | nil => exact h4
    | cons g fs => exact ⟨h4.1, h4.2⟩
  . refine ⟨?_, ?_, h5.2.2⟩
    . show 0 + _ <= _
      have := h5.1; omega
    . show zw9 (f.full ++ [f.parts]) + fs.length <= nest
      rw [ym9]
      have a1 := h5.1; have a2 := h5.2.1
      omega
theorem GInv.shut {nest k : Nat} {f g : Gm} {fs : List Gm} (h : GInv nest k (f :: g :: fs)) : GInv nest k (zw5 g (zp1 f) :: fs) := by
  obtain ⟨h1, h2, h3, h4, h5⟩ := h
  have hf := h3 f List.mem_cons_self
  have hg := h3 g (List.mem_cons_of_mem _ List.mem_cons_self)
  have hk := h4.1
  refine ⟨by simp at h1 |-; omega, ?_, ?_, ?_, ?_⟩
  . have h2' : wF f + (wF g + wG fs) <= 4 * k + 4 := h2
    have t := xy5 hf.2.2.2.1 hk
    show (zj8 g.full).length + (zf5 (g.parts ++ [zp1 f])).length + 4 + wG fs <= _
    rw [yh7, List.length_append, wd6]
    unfold wF at h2' t
    omega
  . intro x hx
    rcases List.mem_cons.mp hx with rfl | hx
    . obtain ⟨a1, a2, a3, a4, a5⟩ := hg
      exact ⟨a1, (xg1 _ _).mpr ⟨a2, (xu4 _).mpr (wk7 hf hk)⟩, a3, a4, a5⟩
    . exact h3 x (List.mem_cons_of_mem _ (List.mem_cons_of_mem _ hx))
  . cases fs with
    | nil => exact h4.2
    | cons g' fs => exact ⟨h4.2.1, h4.2.2⟩
  . obtain ⟨d1, d2, d3, d4, d5⟩ := h5
    refine ⟨?_, d4, d5⟩
    show zi6 (g.parts ++ [zp1 f]) + fs.length <= nest
    rw [yq7]
    have := wf2 (f := f) (m := nest) (k := fs.length) d1 d2
    omega
theorem GInv.more {nest k k' : Nat} {fs : List Gm} (h : GInv nest k fs) (hk : k <= k') : GInv nest k' fs := ⟨h.len, by have := h.wt; omega, h.each, h.kinds, h.deep⟩
theorem wf3 : ∀ {fs : List Gm} {f : Gm}, f ∈ fs -> wF f <= wG fs
  | [], _, h => by simp at h
  | g :: fs, f, h => by
    show wF f <= wF g + wG fs
    rcases List.mem_cons.mp h with rfl | h
    . omega
    . have := wf3 h; omega
theorem xy6 (p : Pc) : 1 <= (zj2 p).length := by cases p <;> simp [zj2]
theorem xa9 : ∀ r : List Pc, r.length <= (zf5 r).length
  | [] => Nat.le_refl _
  | p :: r => by
    show r.length + 1 <= (zj2 p ++ zf5 r).length
    rw [List.length_append]
    have := xa9 r; have := xy6 p; omega
theorem GInv.parts {nest k : Nat} {fs : List Gm} {f : Gm} (h : GInv nest k fs) (hf : f ∈ fs) : f.parts.length <= 4 * k + 4 := by
  have h1 := wf3 hf; have h2 := h.wt; have h3 := xa9 f.parts
  unfold wF at h1; omega
end My
namespace My
open PySem PySem.Spec PyProof.Rows L2 L3
theorem yc0 : ixN 4 3 = some 3 := by decide
theorem yc1 : ixN 4 2 = some 2 := by decide
theorem zs4 {α : Type} (a b c d : α) : atI [a, b, c, d] 3 = some d := rfl
noncomputable abbrev xd1 : List D -> Option (D × List D) := gE 1 5 (zd3 [true]) yf4
theorem kc3 {N : List D} {a b c d : D} : yo2 [1, 2, 3, 4] (zd1 0 zb7 za3 yi2) [some (.lst true (N ++ [.lst true [a, b, c, d]])), none, none, none, none, none] = some (.nx, [some (.lst true N), some a, some b, some c, some d, none]) := by
  simp [gP, zb3, zc3, zb9, za5, fIf, za8, fB, f2, za0, fC, zc0, zd4, zk4, zc2, zd1, zb7, ze0, ze9, za1, za3, ze2, zh9, fKs, za4, dEq, dNe, eqB, dB, dIx, zd7, zc8, yi2, zq7, yg1, ye7, zw3, fSl, D.imm, D.imms, zg8, zc9, fT, zd9, ze1, zh3, zg6, zm5, zh7, zi0, zm6, zk3, yo2, xq7, yo1, zf8, zk8, zh4, dLt, dLe, dGt, dGe, gE, zl9, zd3, fIO, zc7, zi7, zd6, zf3, zo2, zo3, yf7, L2.zq0, yc0, yc1, zs4]
theorem kd1 {p : PSt} {k w : String} {b : Bool} (hp : p[1]? = some (some (.str k))) (h : decide (k = w) = b) : fB (f2 dEq (za0 1) (fC (.str w))) p = some b := by
  refine zq6 (zb5 (yl9 hp) rfl ?_)
  show some (D.bl (decide ((k : Str) = (w : Str)))) = _
  rw [<- h]
  congr 2
  exact decide_eq_decide.mpr (by rw [ze1])
theorem wk8 {f g : Gm} {fs : List Gm} (hk : 1 <= f.kd /\ f.kd <= 3) (hf : f.kd ≠ 3 -> f.full = []) (hfl : f.full.length <= 3) (hg : g.parts.length <= 900) : xd1 [.lst true (zf7 (f :: g :: fs))] = some (.non, [.lst true (zf7 (zw5 g (zp1 f) :: fs))]) := by
  obtain ⟨kd, n, full, parts⟩ := f
  have hfl' : full.length <= 3 := hfl
  have hz : (zc5 g.parts).length < sizeLine := by rw [yx0]; exact sz1 (by omega)
  have s2 : ∀ K x0, zb9 3 (za5 (f2 zc9 (za0 3) (ze2 (za1 (za4 zg8 (za1 (za0 4) za3)) za3)))) [x0, some K, some (.int n), some (.lst true (zg3 full)), some (.lst true (zc5 parts)), none] = some (.nx, [x0, some K, some (.int n), some (.lst true (zg3 (full ++ [parts]))), some (.lst true (zc5 parts)), none]) := fun K x0 => by
    refine zf6 (zb5 rfl (zm3 (za9 (zd8 (za9 rfl rfl) (if_pos (zk5 parts))) rfl) (Nat.le_of_ble_eq_true rfl)) ?_)
    rw [yr2]
    refine xo8 (ya7 full) (ya7 [parts]) ?_
    rw [zu9]; show full.length + 1 <= 1000; omega
  have s4 : ∀ K x0 x4 (r0 : List Pc) rs, zb9 5 (za5 (zh9 (za1 (fC (.str "group")) (za1 (zc0 (f2 dIx (za0 3) (fC (.int 0)))) za3)))) [x0, some K, some (.int n), some (.lst true (zg3 (r0 :: rs))), x4, none] = some (.nx, [x0, some K, some (.int n), some (.lst true (zg3 (r0 :: rs))), x4, some (pcD (.group r0))]) := fun K x0 x4 r0 rs =>
    zf6 (yb2 (za9 rfl (za9 (zm4 (zb5 rfl rfl (zh3 _ _)) (zk5 r0)) rfl)) (yl8 (.group r0)) (Nat.le_of_ble_eq_true rfl))
  have s7 : ∀ (pc : Pc) K x3 x4, zc2 (zd1 0 (zh7 0 (zh7 0 zb7 (zk3 (fC (.int 1)))) (fC (.int 3))) (za1 (zc0 (za0 5)) za3) zc8) [some (.lst true (zf7 fs ++ [gmD g])), K, some (.int n), x3, x4, some (pcD pc)] = some (.nx, [some (.lst true (zf7 fs ++ [gmD (zw5 g pc)])), K, some (.int n), x3, x4, some (pcD pc)]) := fun pc K x3 x4 => by
    have hi := yl8 pc
    have e : gmD (zw5 g pc) = .lst true [.str (kdS g.kd), .int g.n, .lst true (zg3 g.full), .lst true (zc5 g.parts ++ [pcD pc])] := by unfold gmD zw5; rw [yw9]; rfl
    rw [e]
    unfold gmD
    generalize pcD pc = d at hi |-
    simp [gP, zb3, zc3, zb9, za5, fIf, za8, fB, f2, za0, fC, zc0, zd4, zk4, zc2, zd1, zb7, ze0, ze9, za1, za3, ze2, zh9, fKs, za4, dEq, dNe, eqB, dB, dIx, zd7, zc8, yi2, zq7, yg1, ye7, zw3, fSl, D.imm, D.imms, zg8, zc9, fT, zd9, ze1, zh3, zg6, zm5, zh7, zi0, zm6, zk3, yo2, xq7, yo1, zf8, zk8, zh4, dLt, dLe, dGt, dGe, gE, zl9, zd3, fIO, zc7, zi7, zd6, zf3, zo2, zo3, yf7, L2.zq0, yc0, yc1, zs4, hi, hz]
  suffices h : ∃ q1 q2 q3 q4 q5, yf4 [some (.lst true (zf7 (⟨kd, n, full, parts⟩ :: g :: fs))), none, none, none, none, none] = some (.nx, [some (.lst true (zf7 fs ++ [gmD (zw5 g (zp1 ⟨kd, n, full, parts⟩))])), q1, q2, q3, q4, q5]) from by
    obtain ⟨q1, q2, q3, q4, q5, hq⟩ := h
    unfold xd1 gE
    refine (if_pos rfl).trans ?_
    show (yf4 [some (.lst true (zf7 (⟨kd, n, full, parts⟩ :: g :: fs))), none, none, none, none, none]).bind _ = _
    rw [hq]; rfl
  have s1 : yo2 [1, 2, 3, 4] (zd1 0 zb7 za3 yi2) [some (.lst true (zf7 (⟨kd, n, full, parts⟩ :: g :: fs))), none, none, none, none, none] = _ := kc3
  have e : kd = 1 \/ kd = 2 \/ kd = 3 := by have : 1 <= kd /\ kd <= 3 := hk; omega
  unfold yf4
  rw [za7 s1, za7 (s2 _ _)]
  rcases e with rfl | rfl | rfl
  . have e1 : full = [] := hf (by simp [gP, zb3, zc3, zb9, za5, fIf, za8, fB, f2, za0, fC, zc0, zd4, zk4, zc2, zd1, zb7, ze0, ze9, za1, za3, ze2, zh9, fKs, za4, dEq, dNe, eqB, dB, dIx, zd7, zc8, yi2, zq7, yg1, ye7, zw3, fSl, D.imm, D.imms, zg8, zc9, fT, zd9, ze1, zh3, zg6, zm5, zh7, zi0, zm6, zk3, yo2, xq7, yo1, zf8, zk8, zh4, dLt, dLe, dGt, dGe, gE, zl9, zd3, fIO, zc7, zi7, zd6, zf3, zo2, zo3, yf7, L2.zq0, yc0, yc1, zs4])
    subst e1
    exact ⟨_, _, _, _, _, (za7 (ze8 (zx6 (kd1 (k := "group") rfl (by decide))))).trans ((za7 (s4 _ _ _ parts [])).trans ((za7 (ze8 (kd1 (k := "group") rfl (by decide)))).trans ((za7 (ze8 (kd1 (k := "group") rfl (by decide)))).trans (s7 _ _ _ _))))⟩
  . have e1 : full = [] := hf (by simp [gP, zb3, zc3, zb9, za5, fIf, za8, fB, f2, za0, fC, zc0, zd4, zk4, zc2, zd1, zb7, ze0, ze9, za1, za3, ze2, zh9, fKs, za4, dEq, dNe, eqB, dB, dIx, zd7, zc8, yi2, zq7, yg1, ye7, zw3, fSl, D.imm, D.imms, zg8, zc9, fT, zd9, ze1, zh3, zg6, zm5, zh7, zi0, zm6, zk3, yo2, xq7, yo1, zf8, zk8, zh4, dLt, dLe, dGt, dGe, gE, zl9, zd3, fIO, zc7, zi7, zd6, zf3, zo2, zo3, yf7, L2.zq0, yc0, yc1, zs4])
    subst e1
    exact ⟨_, _, _, _, _, (za7 (ze8 (zx6 (kd1 (k := "hang") rfl (by decide))))).trans ((za7 (s4 _ _ _ parts [])).trans ((za7 ((zi1 (kd1 (k := "hang") rfl (by decide))).trans (zf6 (yb2 (za9 rfl (za9 (zm4 rfl rfl) (za9 (zm4 (d := .tup (zc5 parts)) (zb5 rfl rfl (zh3 _ _)) (zk5 parts)) rfl))) (yl8 (.hang n parts)) (Nat.le_of_ble_eq_true rfl))))).trans ((za7 (ze8 (kd1 (k := "hang") rfl (by decide)))).trans (s7 (.hang n parts) _ _ _))))⟩
  . have fin : ∀ (r0 : List Pc) (rs : List (List Pc)), ye9 ⟨3, n, full, parts⟩ = r0 :: rs -> ∃ q1 q2 q3 q4 q5, zb3 (zb9 5 (za5 (zh9 (za1 (fC (.str "group")) (za1 (zc0 (f2 dIx (za0 3) (fC (.int 0)))) za3))))) (zb3 (fIf (za8 (fB (f2 dEq (za0 1) (fC (.str "hang"))))) (zb9 5 (za5 (zh9 (za1 (fC (.str "hang")) (za1 (zc0 (za0 2)) (za1 (zc0 (f2 dIx (za0 3) (fC (.int 0)))) za3)))))) zc3)
        (zb3 (fIf (za8 (fB (f2 dEq (za0 1) (fC (.str "either"))))) (zb9 5 (za5 (zh9 (za1 (fC (.str "either")) (za1 (za4 zg8 (za1 (za0 3) za3)) za3))))) zc3) (zc2 (zd1 0 (zh7 0 (zh7 0 zb7 (zk3 (fC (.int 1)))) (fC (.int 3))) (za1 (zc0 (za0 5)) za3) zc8)))) [some (.lst true (zf7 fs ++ [gmD g])), some (.str "either"), some (.int n), some (.lst true (zg3 (r0 :: rs))), some (.lst true (zc5 parts)), none] = some (.nx, [some (.lst true (zf7 fs ++ [gmD (zw5 g (zp1 ⟨3, n, full, parts⟩))])), q1, q2, q3, q4, q5]) := fun r0 rs he => by
      have hs : zp1 ⟨3, n, full, parts⟩ = .either (r0 :: rs) := by rw [<- he]; rfl
      rw [hs]
      exact ⟨_, _, _, _, _, (za7 (s4 _ _ _ r0 rs)).trans ((za7 (ze8 (kd1 rfl (by decide)))).trans ((za7 ((zi1 (kd1 rfl (by decide))).trans (zf6 (yb2 (za9 rfl (za9 (zd8 (za9 rfl rfl) (if_pos (ya7 (r0 :: rs)))) rfl)) (yl8 (.either (r0 :: rs))) (Nat.le_of_ble_eq_true rfl))))).trans (s7 (.either (r0 :: rs)) _ _ _)))⟩
    have lt : ∀ x0 x4, fB (f2 dLt (za4 zd7 (za1 (za0 3) za3)) (fC (.int 2))) [x0, some (.str "either"), some (.int n), some (.lst true (zg3 (full ++ [parts]))), x4, none] = some (decide ((((full ++ [parts]).length : Nat) : Int) < 2)) := fun x0 x4 => by
      refine zq6 (zb5 (zd8 (za9 rfl rfl) rfl) rfl ?_)
      show some (D.bl (decide ((((zg3 (full ++ [parts])).length : Nat) : Int) < 2))) = _
      rw [zu9]
    cases full with
    | nil =>
      have s3 : ∀ x0 x4, fIf (za8 (zf8 (fB (f2 dEq (za0 1) (fC (.str "either")))) (fB (f2 dLt (za4 zd7 (za1 (za0 3) za3)) (fC (.int 2)))))) (zb9 3 (za5 (f2 zc9 (za0 3) (ze2 (za1 (zh9 (za1 (zh9 (za1 (fC (.str "word")) (za1 (fC (.str "or")) za3))) za3)) za3))))) zc3 [x0, some (.str "either"), some (.int n), some (.lst true (zg3 ([] ++ [parts]))), x4, none] = some (.nx, [x0, some (.str "either"), some (.int n), some (.lst true (zg3 [parts, yk1])), x4, none]) := fun x0 x4 =>
        (zi1 (zu5 (kd1 rfl (by decide)) (lt _ _))).trans (zf6 (zb5 rfl (zm3 (za9 (yb2 (za9 (yb2 (za9 rfl (za9 rfl rfl)) rfl (Nat.le_of_ble_eq_true rfl)) rfl) rfl (Nat.le_of_ble_eq_true rfl)) rfl) (Nat.le_of_ble_eq_true rfl)) (xo8 (ya7 [parts]) (ya7 [yk1]) (Nat.le_of_ble_eq_true rfl))))
      show ∃ q1 q2 q3 q4 q5, zb3 _ _ [some (.lst true (zf7 fs ++ [gmD g])), some (.str "either"), some (.int n), some (.lst true (zg3 ([] ++ [parts]))), some (.lst true (zc5 parts)), none] = _
      rw [za7 (s3 _ _)]
      exact fin parts [yk1] rfl
    | cons r rs =>
      have lt' := lt (some (.lst true (zf7 fs ++ [gmD g]))) (some (.lst true (zc5 parts)))
      rw [decide_eq_false (by simp; omega)] at lt'
      show ∃ q1 q2 q3 q4 q5, zb3 _ _ [some (.lst true (zf7 fs ++ [gmD g])), some (.str "either"), some (.int n), some (.lst true (zg3 (r :: rs ++ [parts]))), some (.lst true (zc5 parts)), none] = _
      rw [za7 (ze8 (zu5 (kd1 rfl (by decide)) lt'))]
      exact fin r (rs ++ [parts]) rfl
end My
namespace My
open PySem PySem.Spec PyProof.Rows L2 L3
noncomputable def yo7 (GH GPl : List D -> Option (D × List D)) : PSt -> Option (Fl × PSt) :=
   (fIf (za8 (fT (za4 yf5 (za1 (za0 3) za3))))
   (zc2 (zd1 0 zb7 (zc7 [.im (za0 3), .im (za0 2)]) (zo9 "Setter" "set_holder" GH)))
   (zc2 (zd1 0 zb7 (zc7 [.im (za0 3), .im (za0 2)]) (zo9 "Setter" "set_plain" GPl))))
theorem xg2 {g : List D -> Option (D × List D)} {m : Str} {C : List Int} {u : Nat} {ps : List Str} {d1 d2 N v : D} (hm : zf2 nsS m = none) (h : g [stD C u ps, d1, d2] = some (v, [N, d1, d2])) : zo9 "Setter" m g [d1, d2] (stD C u ps) = some (v, N) := by
  show (if (("Setter" : Str) = "Setter" /\ zf2 nsS m = none) then (g [stD C u ps, d1, d2]).bind _ else none) = _
  rw [if_pos ⟨rfl, hm⟩, h]; rfl
theorem yt4 {GH : List D -> Option (D × List D)} {C : List Int} {u : Nat} {ps : List Str} {p : Pc} {b : Bool} {m : Int} {R : Option D} {N : D} (hp : ys3 p = true) (h : GH [stD C u ps, pcD p, zc4 b m] = some (.non, [N, pcD p, zc4 b m])) :
    yo7 GH zw0 [some (stD C u ps), R, some (zc4 b m), some (pcD p)] = some (.nx, [some N, R, some (zc4 b m), some (pcD p)]) := by
  have q := xp1 p
  rw [hp] at q
  have hm := xg2 (m := "set_holder") (by simp [zc2, zd1, zb7, ze0, ze9, zc7, zc0, za0, za5, fT, zd9, za8, D.imm, D.imms, za1, za3, za4, zf2, ze1]) h
  have i1 := yl8 p
  have i2 := yf1 b m
  unfold yo7
  generalize yf5 = G1 at q |-
  generalize zw0 = G2
  generalize stD C u ps = S at hm |-
  generalize pcD p = d1 at *
  generalize zc4 b m = d2 at *
  refine (yj2 (p' := [some S, R, some d2, some d1]) (by simp [zc2, zd1, zb7, ze0, ze9, zc7, zc0, za0, za5, fT, zd9, za8, D.imm, D.imms, za1, za3, za4, q])).trans ?_
  simp [zc2, zd1, zb7, ze0, ze9, zc7, zc0, za0, za5, fT, zd9, za8, D.imm, D.imms, za1, za3, za4, i1, i2, hm]
theorem wk9 {GH : List D -> Option (D × List D)} {C : List Int} {u : Nat} {ps : List Str} {l : Leaf} {b : Bool} {m : Int} {R : Option D} {N : D} (h : zw0 [stD C u ps, zh8 l, zc4 b m] = some (.non, [N, zh8 l, zc4 b m])) :
    yo7 GH zw0 [some (stD C u ps), R, some (zc4 b m), some (zh8 l)] = some (.nx, [some N, R, some (zc4 b m), some (zh8 l)]) := by
  have q : yf5 [zh8 l] = some (.bl false) := xp1 (.leaf l)
  have hm := xg2 (m := "set_plain") (by simp [zc2, zd1, zb7, ze0, ze9, zc7, zc0, za0, za5, fT, zd9, za8, D.imm, D.imms, za1, za3, za4, zf2, ze1]) h
  have i1 := xo7 l
  have i2 := yf1 b m
  unfold yo7
  generalize yf5 = G1 at q |-
  generalize zw0 = G2 at hm |-
  generalize stD C u ps = S at hm |-
  generalize zh8 l = d1 at *
  generalize zc4 b m = d2 at *
  refine (zt2 (p' := [some S, R, some d2, some d1]) (by simp [zc2, zd1, zb7, ze0, ze9, zc7, zc0, za0, za5, fT, zd9, za8, D.imm, D.imms, za1, za3, za4, q])).trans ?_
  simp [zc2, zd1, zb7, ze0, ze9, zc7, zc0, za0, za5, fT, zd9, za8, D.imm, D.imms, za1, za3, za4, i1, i2, hm]
noncomputable def yh0 : Nat -> List D -> Option (D × List D)
  | 0 => fun _ => none
  | n + 1 => gE 3 1 (zd3 [true, false, false]) (zu3 yf5 (yo6 (yh0 n)) zw0)
noncomputable def yo8 (a l w : Nat) : Prop := a + w <= 900 /\ l + 201 * w <= 1000000
noncomputable def zx1 (a a' l l' w : Nat) : Prop := a' <= a + w /\ l' <= l + 201 * w
theorem yt5 {a l w w' : Nat} (h : yo8 a l w) (hw : w' <= w) : yo8 a l w' := by unfold yo8 at *; omega
theorem yn5 {a a' l l' w w' : Nat} (h : zx1 a a' l l' w) (hw : w <= w') : zx1 a a' l l' w' := by unfold zx1 at *; omega
theorem wf4 {a a' l l' v w : Nat} (h : yo8 a l (v + w)) (g : zx1 a a' l l' v) : yo8 a' l' w := by unfold yo8 zx1 at *; omega
theorem xs3 {a a1 a2 l l1 l2 v w : Nat} (g : zx1 a a1 l l1 v) (h : zx1 a1 a2 l1 l2 w) : zx1 a a2 l l2 (v + w) := by unfold zx1 at *; omega
theorem wf5 {m : Int} {x : Nat} (h : m + 12 * ((x + 1 : Nat) : Int) <= 200) : m + 12 * (x : Int) <= 200 := by omega
theorem xg3 {m : Int} {x y : Nat} (h : m + 12 * (y : Int) <= 200) (hx : x <= y) : m + 12 * (x : Int) <= 200 := by omega
theorem ww9 {m k : Int} {x : Nat} (h : m + 12 * ((x + 1 : Nat) : Int) <= 200) (hk : k <= 12) : m + k + 12 * (x : Int) <= 200 := by omega
theorem wl0 {ps : List Str} {w : Str} (hw : w.length <= 201) : zx1 ps.length (ps ++ [w]).length (cat ps).length (cat (ps ++ [w])).length 1 := by
  rw [yn4, zj4, List.length_append]
  unfold zx1
  show _ + 1 <= _ /\ _
  omega
noncomputable def xz8 (GR : List D -> Option (D × List D)) (r : List Pc) : Prop := ∀ (b : Bool) (m : Int) (C : List Int) (u : Nat) (ps : List Str) (cs' : List Int) (t' : Str), 0 <= m -> m + 12 * zi6 r <= 200 -> zl0 b m r (C.drop u) (cat ps) = some (cs', t') -> u <= C.length ->
  yo8 ps.length (cat ps).length (zf5 r).length ->
  ∃ u' ps', GR [stD C u ps, .tup (zc5 r), zc4 b m] = some (.non, [stD C u' ps', .tup (zc5 r), zc4 b m]) /\ C.drop u' = cs' /\ cat ps' = t' /\ u' <= C.length /\ zx1 ps.length ps'.length (cat ps).length (cat ps').length (zf5 r).length
theorem xi7 {C : List Int} {u : Nat} {c : Int} {cs : List Int} (h : C.drop u = c :: cs) : C[u]? = some c /\ C.drop (u + 1) = cs /\ u + 1 <= C.length := by
  have hu : u < C.length := by
    rcases Nat.lt_or_ge u C.length with h1 | h1
    . exact h1
    . rw [List.drop_eq_nil_of_le h1] at h; cases h
  rw [List.drop_eq_getElem_cons hu] at h
  cases h
  exact ⟨List.getElem?_eq_getElem hu, rfl, hu⟩
theorem yj4 : ∀ {rs : List (List Pc)} {i : Nat} {r : List Pc}, rs[i]? = some r -> zi6 r <= zw9 rs
  | [], i, _, h => by simp [zc2, zd1, zb7, ze0, ze9, zc7, zc0, za0, za5, fT, zd9, za8, D.imm, D.imms, za1, za3, za4] at h
  | q :: rs, 0, _, h => by simp [zc2, zd1, zb7, ze0, ze9, zc7, zc0, za0, za5, fT, zd9, za8, D.imm, D.imms, za1, za3, za4] at h; subst h; rw [zw9]; omega
  | q :: rs, i + 1, _, h => by have := yj4 (rs := rs) (i := i) (by simpa using h); rw [zw9]; omega
theorem yx4 : ∀ {rs : List (List Pc)} {i : Nat} {r : List Pc}, zy5 rs -> rs[i]? = some r -> okR r
  | [], i, _, _, h => by simp [zc2, zd1, zb7, ze0, ze9, zc7, zc0, za0, za5, fT, zd9, za8, D.imm, D.imms, za1, za3, za4] at h
  | q :: rs, 0, _, o, h => by simp [zc2, zd1, zb7, ze0, ze9, zc7, zc0, za0, za5, fT, zd9, za8, D.imm, D.imms, za1, za3, za4] at h; subst h; rw [zy5] at o; exact o.1
  | q :: rs, i + 1, _, o, h => by rw [zy5] at o; exact yx4 (rs := rs) (i := i) o.2 (by simpa using h)
noncomputable def yx7 (GR : List D -> Option (D × List D)) (p : Pc) (b : Bool) (m : Int) (C : List Int) (u : Nat) (ps : List Str) (cs' : List Int) (t' : Str) (R : Option D) : Prop := ∃ u' ps', yo7 (yo6 GR) zw0 [some (stD C u ps), R, some (zc4 b m), some (pcD p)] = some (.nx, [some (stD C u' ps'), R, some (zc4 b m), some (pcD p)]) /\ C.drop u' = cs' /\ cat ps' = t' /\ u' <= C.length /\ zx1 ps.length ps'.length (cat ps).length (cat ps').length (zj2 p).length
theorem wf6 {GR : List D -> Option (D × List D)} {p : Pc} {k : Nat} (hG : ∀ r, zi6 r < k -> okR r -> xz8 GR r) (hd : zp6 p <= k) (ho : okP p) {b : Bool} {m : Int} {C : List Int} {u : Nat} {ps : List Str} {cs' : List Int} {t' : Str} {R : Option D} (h0 : 0 <= m) (h1 : m + 12 * zp6 p <= 200)
    (h : zo6 b m p (C.drop u) (cat ps) = some (cs', t')) (hu : u <= C.length) (hp : yo8 ps.length (cat ps).length (zj2 p).length) : yx7 GR p b m C u ps cs' t' R := by
  cases p with
  | leaf l =>
    rw [zo6] at h
    cases e : wr b m (col (cat ps)) l with
    | none => rw [e] at h; cases h
    | some w =>
      rw [e] at h
      cases h
      have hl : zu7 l := ho
      have h1' : m <= 200 := by rw [zp6] at h1; omega
      obtain ⟨_, hz⟩ := wn4 hl h0 h1' e
      rw [show (zj2 (.leaf l)).length = 1 from rfl] at hp
      have q := wk5 (C := C) (u := u) hl h0 h1' e (by have := hp.1; omega) (by have := hp.2; omega)
      delta yx7
      exact ⟨u, ps ++ [w], wk9 q, rfl, yn4 ps w, hu, (show (zj2 (.leaf l)).length = 1 from rfl) ▸ wl0 hz⟩
  | group r =>
    have ho' : okR r := ho
    rw [zp6] at hd h1
    have hd' : zi6 r < k := hd
    have h1' : m + 12 * zi6 r <= 200 := wf5 h1
    have ht : (zj2 (.group r)).length = (zf5 r).length + 2 := by simp [zc2, zd1, zb7, ze0, ze9, zc7, zc0, za0, za5, fT, zd9, za8, D.imm, D.imms, za1, za3, za4, zj2]
    rw [ht] at hp
    have hp' := yt5 hp (Nat.le_add_right _ 2)
    rw [zo6.eq_def] at h
    simp only at h
    cases b with
    | false =>
      simp only [Bool.false_eq_true, if_false] at h
      obtain ⟨u', ps', q, e1, e2, e3, e4⟩ := hG r hd' ho' false m C u ps cs' t' h0 h1' h hu hp'
      delta yx7
      exact ⟨u', ps' , yt4 rfl (yt3 (i := 0) (x := (r, false, m)) rfl (by simp [zc2, zd1, zb7, ze0, ze9, zc7, zc0, za0, za5, fT, zd9, za8, D.imm, D.imms, za1, za3, za4, xc9]) rfl (.inr ⟨rfl, rfl, rfl⟩) q), e1, e2, e3, ht ▸ yn5 e4 (Nat.le_add_right _ 2)⟩
    | true =>
      cases hC : C.drop u with
      | nil => rw [hC] at h; simp [zc2, zd1, zb7, ze0, ze9, zc7, zc0, za0, za5, fT, zd9, za8, D.imm, D.imms, za1, za3, za4] at h
      | cons c cs =>
        obtain ⟨g1, g2, g3⟩ := xi7 hC
        rw [hC] at h
        simp only [if_true] at h
        have go : ∀ (i : Nat) (bb : Bool), (i : Int) = c -> (yk0 true m (.group r))[i]? = some (r, bb, m) -> zl0 bb m r cs (cat ps) = some (cs', t') -> yx7 GR (.group r) true m C u ps cs' t' R := fun i bb hi hw hs => by
          rw [<- g2] at hs
          obtain ⟨u', ps', q, e1, e2, e3, e4⟩ := hG r hd' ho' bb m C (u + 1) ps cs' t' h0 h1' hs g3 hp'
          delta yx7
          exact ⟨u', ps' , yt4 rfl (yt3 (i := i) (x := (r, bb, m)) rfl (by simp [zc2, zd1, zb7, ze0, ze9, zc7, zc0, za0, za5, fT, zd9, za8, D.imm, D.imms, za1, za3, za4, xc9]) hw (.inl ⟨rfl, by rw [hi]; exact g1, rfl⟩) q), e1, e2, e3, ht ▸ yn5 e4 (Nat.le_add_right _ 2)⟩
        by_cases c0 : c = 0
        . subst c0
          rw [if_pos rfl] at h
          exact go 0 false rfl rfl h
        . rw [if_neg c0] at h
          by_cases c1 : c = 1
          . subst c1
            rw [if_pos rfl] at h
            exact go 1 true rfl rfl h
          . rw [if_neg c1] at h; cases h
  | hang n r =>
    have ho' : (0 <= n /\ n <= 12) /\ okR r := ho
    rw [zp6] at hd h1
    have ht : (zj2 (.hang n r)).length = (zf5 r).length + 2 := by simp [zc2, zd1, zb7, ze0, ze9, zc7, zc0, za0, za5, fT, zd9, za8, D.imm, D.imms, za1, za3, za4, zj2]
    rw [ht] at hp
    rw [zo6] at h
    obtain ⟨u', ps', q, e1, e2, e3, e4⟩ := hG r hd ho'.2 b (m + n) C u ps cs' t' (Int.add_nonneg h0 ho'.1.1) (ww9 h1 ho'.1.2) h hu (yt5 hp (Nat.le_add_right _ 2))
    delta yx7
    exact ⟨u', ps' , yt4 rfl (yt3 (i := 0) (x := (r, b, m + n)) rfl (by simp [zc2, zd1, zb7, ze0, ze9, zc7, zc0, za0, za5, fT, zd9, za8, D.imm, D.imms, za1, za3, za4, xc9]) rfl (.inr ⟨rfl, rfl, rfl⟩) q), e1, e2, e3, ht ▸ yn5 e4 (Nat.le_add_right _ 2)⟩
  | either rs =>
    have ho' : (2 <= rs.length /\ rs.length <= 4) /\ zy5 rs := ho
    rw [zo6.eq_def] at h
    simp only at h
    cases hC : C.drop u with
    | nil => rw [hC] at h; cases h
    | cons c cs =>
      obtain ⟨g1, g2, g3⟩ := xi7 hC
      rw [hC] at h
      simp only at h
      by_cases c0 : 0 <= c
      . rw [if_pos c0] at h
        cases hr : rs[c.toNat]? with
        | none => rw [xa6 hr] at h; cases h
        | some r =>
          rw [yr5 hr, <- g2] at h
          have hdr := yj4 hr
          have hor := yx4 ho'.2 hr
          have htr := yv4 (List.mem_of_getElem? hr)
          have ht : (zj2 (.either rs)).length = (yi3 rs).length + 2 := by simp [zc2, zd1, zb7, ze0, ze9, zc7, zc0, za0, za5, fT, zd9, za8, D.imm, D.imms, za1, za3, za4, zj2]
          rw [zp6] at hd h1
          rw [ht] at hp
          obtain ⟨u', ps', q, e1, e2, e3, e4⟩ := hG r (Nat.lt_of_le_of_lt hdr hd) hor b m C (u + 1) ps cs' t' h0 (xg3 (wf5 h1) hdr) h g3 (yt5 hp (Nat.le_trans htr (Nat.le_add_right _ 2)))
          delta yx7
          refine ⟨u', ps' , yt4 rfl (yt3 (i := c.toNat) (x := (r, b, m)) rfl (Nat.le_trans ho'.1.2 (by decide)) (by show (rs.map _)[c.toNat]? = _; rw [List.getElem?_map, hr]; rfl) (.inl ⟨rfl, by rw [Int.toNat_of_nonneg c0]; exact g1, rfl⟩) q), e1, e2, e3, ht ▸ yn5 e4 (Nat.le_trans htr (Nat.le_add_right _ 2))⟩
      . rw [if_neg c0] at h; cases h
theorem xp4 {GR : List D -> Option (D × List D)} {k : Nat} (hG : ∀ r, zi6 r < k -> okR r -> xz8 GR r) {b : Bool} {m : Int} {C : List Int} {R : Option D} (h0 : 0 <= m) : ∀ (r : List Pc) (u : Nat) (ps : List Str) (cs' : List Int) (t' : Str) (x : Option D), zi6 r <= k -> okR r -> m + 12 * zi6 r <= 200 ->
    zl0 b m r (C.drop u) (cat ps) = some (cs', t') -> u <= C.length -> yo8 ps.length (cat ps).length (zf5 r).length ->
    ∃ u' ps' y, zn3 3 (yo7 (yo6 GR) zw0) (zc5 r) [some (stD C u ps), R, some (zc4 b m), x] = some (.nx, [some (stD C u' ps'), R, some (zc4 b m), y]) /\ C.drop u' = cs' /\ cat ps' = t' /\ u' <= C.length /\ zx1 ps.length ps'.length (cat ps).length (cat ps').length (zf5 r).length
  | [], u, ps, cs', t', x, _, _, _, h, hu, _ => by
    rw [zl0] at h; cases h
    exact ⟨u, ps, x, rfl, rfl, rfl, hu, ⟨Nat.le_refl _, Nat.le_refl _⟩⟩
  | p :: r, u, ps, cs', t', x, hd, ho, h1, h, hu, hp => by
    rw [okR] at ho
    rw [zi6] at hd h1
    have ht : (zf5 (p :: r)).length = (zj2 p).length + (zf5 r).length := by rw [zf5, List.length_append]
    rw [ht] at hp |-
    rw [zl0] at h
    cases e : zo6 b m p (C.drop u) (cat ps) with
    | none => rw [e] at h; cases h
    | some s =>
      obtain ⟨c1, t1⟩ := s
      rw [e] at h
      obtain ⟨u1, ps1, q1, a1, a2, a3, a4⟩ := wf6 (R := R) hG (Nat.le_trans (Nat.le_max_left _ _) hd) ho.1 h0 (xg3 h1 (Nat.le_max_left _ _)) e hu (yt5 hp (Nat.le_add_right _ _))
      have h' : zl0 b m r (C.drop u1) (cat ps1) = some (cs', t') := by rw [a1, a2]; exact h
      obtain ⟨u2, ps2, y, q2, b1, b2, b3, b4⟩ := xp4 hG h0 r u1 ps1 cs' t' (some (pcD p)) (Nat.le_trans (Nat.le_max_right _ _) hd) ho.2 (xg3 h1 (Nat.le_max_right _ _)) h' a3 (wf4 hp a4)
      refine ⟨u2, ps2, y, ?_, b1, b2, b3, xs3 a4 b4⟩
      show zn3 3 _ (pcD p :: zc5 r) _ = _
      rw [zn3]
      show ((yo7 (yo6 GR) zw0 [some (stD C u ps), R, some (zc4 b m), some (pcD p)]).bind _) = _
      rw [q1]; exact q2
theorem xu5 : ∀ (n : Nat) (r : List Pc), zi6 r < n -> okR r -> xz8 (yh0 n) r
  | 0, _, h, _ => absurd h (Nat.not_lt_zero _)
  | n + 1, r, hd, ho => fun b m C u ps cs' t' h0 h1 h hu hp => by
    obtain ⟨u', ps', y, q, e1, e2, e3, e4⟩ := xp4 (GR := yh0 n) (k := n) (R := some (.tup (zc5 r))) (fun s hs hk => xu5 n s hs hk) h0 r u ps cs' t' none (Nat.le_of_lt_succ hd) ho h1 h hu hp
    refine ⟨u', ps', ?_, e1, e2, e3, e4⟩
    show gE 3 1 _ (zu3 yf5 (yo6 (yh0 n)) zw0) _ = _
    unfold gE
    refine (if_pos rfl).trans ?_
    have z : zu3 yf5 (yo6 (yh0 n)) zw0 ([stD C u ps, .tup (zc5 r), zc4 b m].map some ++ List.replicate 1 none) = some (.nx, [some (stD C u' ps'), some (.tup (zc5 r)), some (zc4 b m), y]) := q
    rw [z]; rfl
noncomputable abbrev xd2 : List D -> Option D := gP 1 0 zv8
theorem xp5 : ∀ ps : List Str, (Str.join "" ps) = cat ps
  | [] => by decide +kernel
  | [x] => by show x = x ++ (⟨#[]⟩ : Str); rw [xg0]
  | x :: y :: r => by
    have ih := xp5 (y :: r)
    show (x ++ ("" : Str)) ++ Str.join "" (y :: r) = x ++ cat (y :: r)
    rw [ih, show ("" : Str) = ⟨#[]⟩ from by decide +kernel, xg0]
theorem xu6 : ∀ ps : List Str, (ps.map (·.length)).sum = (cat ps).length
  | [] => rfl
  | x :: ps => by rw [List.map_cons, List.sum_cons, xu6 ps]; show _ = (x ++ cat ps).length; rw [zj4]
theorem yl4 : ∀ ps : List Str, D.strs (zx0 ps) = some ps
  | [] => rfl
  | x :: ps => by show D.strs (.str x :: zx0 ps) = _; rw [D.strs, yl4 ps]; rfl
theorem wl1 {C : List Int} {u : Nat} {ps : List Str} (hu : C.length <= u) (hp : ps.length <= 1000) (hc : (cat ps).length <= 1000000) : xd2 [stD C u ps] = some (.str (cat ps)) := by
  have hl : (zb1 C).length = C.length := List.length_map _
  have g : ¬ ((u : Int) < (C.length : Int)) := by omega
  have e : yt7 (.str "") [.lst true (zx0 ps)] = some (.str (cat ps)) := by
    rw [yt7, yl4, Option.bind_some, if_pos]
    . rw [show Txt.join ("" : Str) ps = Str.join "" ps from StrLaws.glued_eq_join _ _, xp5]
    . rw [xu6]
      exact ⟨by decide +kernel, by omega⟩
  unfold stD
  simp [zc2, zd1, zb7, ze0, ze9, zc7, zc0, za0, za5, fT, zd9, za8, D.imm, D.imms, za1, za3, za4, gP, zv8, zb3, fIf, fB, f2, zi8, zt6, zf2, ze1, dLt, zd7, hl, g, dB, zc3, zd4, fMt, fC, e, yn9]
noncomputable abbrev xd3 : List D -> Option (D × List D) := gE 2 0 (zd3 [true, false]) ye6
theorem wx0 (C : List Int) : xd3 [.obj true "Setter" [] [], .tup (zb1 C)] = some (.non, [stD C 0 [], .tup (zb1 C)]) := by
  have hi := zr3 C
  have e : stD C 0 [] = .obj true "Setter" nsS [.tup (zb1 C), .int 0, .int 0, .lst true []] := rfl
  rw [e]
  simp [zc2, zd1, zb7, ze0, ze9, zc7, zc0, za0, za5, fT, zd9, za8, D.imm, D.imms, za1, za3, za4, gE, ye6, zb3, zh5, zj7, zf2, ze1, hi, fC, ze2, zl9, zd3]
noncomputable abbrev yc7 (n : Nat) : List D -> Option D := gP 2 1 (yk7 xd3 (yh0 n) xc6 xd2)
theorem wf7 {n : Nat} {r : List Pc} {C : List Int} {t : Str} (hd : zi6 r < n) (h8 : zi6 r <= 16) (ho : okR r) (hl : (zf5 r).length <= 800) (h : zl0 true 0 r C ⟨#[]⟩ = some ([], t)) : yc7 n [.tup (zc5 r), .tup (zb1 C)] = some (.str t) := by
  obtain ⟨u', ps', q, e1, e2, e3, e4, e5⟩ := xu5 n r hd ho true 0 C 0 [] [] t (Int.le_refl _) (by omega) h (Nat.zero_le _) ⟨by show 0 + _ <= _; omega, by show 0 + _ <= _; omega⟩
  have e5' : (cat ps').length <= 0 + 201 * (zf5 r).length := e5
  have e4' : ps'.length <= 0 + (zf5 r).length := e4
  have hu : C.length <= u' := by
    have := congrArg List.length e1
    rw [List.length_drop] at this
    simp [zc2, zd1, zb7, ze0, ze9, zc7, zc0, za0, za5, fT, zd9, za8, D.imm, D.imms, za1, za3, za4] at this; omega
  have w := wl1 (C := C) (ps := ps') hu (by omega) (by omega)
  rw [e2] at w
  have i := wx0 C
  have f := wk4
  have hm := xg2 (m := "set_row") (by simp [zc2, zd1, zb7, ze0, ze9, zc7, zc0, za0, za5, fT, zd9, za8, D.imm, D.imms, za1, za3, za4, zf2, ze1]) q
  have p1 := zk5 r
  have p2 := zr3 C
  have p3 := yf1 true 0
  have w' : zn0 "Setter" "whole_text" (za0 2) [some (.tup (zc5 r)), some (.tup (zb1 C)), some (stD C u' ps')] = some (stD C u' ps') := by
    unfold stD
    simp [zc2, zd1, zb7, ze0, ze9, zc7, zc0, za0, za5, fT, zd9, za8, D.imm, D.imms, za1, za3, za4, zn0, zf2, ze1]
  show gP 2 1 (yk7 xd3 (yh0 n) xc6 xd2) _ = _
  generalize xd3 = G1 at i |-
  generalize yh0 n = G2 at hm |-
  generalize xc6 = G3 at f |-
  generalize xd2 = G4 at w |-
  generalize stD C u' ps' = S1 at *
  generalize stD C 0 [] = S0 at *
  generalize zc4 true 0 = pl at *
  have s1 : zb9 2 (za5 (zj9 "Setter" (zc7 [.im (za0 1)]) G1)) [some (.tup (zc5 r)), some (.tup (zb1 C)), none] = some (.nx, [some (.tup (zc5 r)), some (.tup (zb1 C)), some S0]) := by
    refine zf6 ?_
    simp [zc2, zd1, zb7, ze0, ze9, zc7, zc0, za0, za5, fT, zd9, za8, D.imm, D.imms, za1, za3, za4, zj9, p2, i]
  have s2 : zc2 (zd1 2 zb7 (zc7 [.im (za0 0), .im (za4 G3 za3)]) (zo9 "Setter" "set_row" G2)) [some (.tup (zc5 r)), some (.tup (zb1 C)), some S0] = some (.nx, [some (.tup (zc5 r)), some (.tup (zb1 C)), some S1]) := by
    simp [zc2, zd1, zb7, ze0, ze9, zc7, zc0, za0, za5, fT, zd9, za8, D.imm, D.imms, za1, za3, za4, p1, p3, f, hm]
  exact zp4 rfl ((za7 s1).trans ((za7 s2).trans (zi2 (zd8 (za9 w' rfl) w))))
end My
namespace My
open PySem PySem.Spec PyProof.Rows L2 L3
noncomputable def sD (t : Str) (cs : List Int) (n : Nat) : D := .lst true [.str t, .lst true (zb1 cs), .int n]
theorem ka0 : ixN 3 0 = some 0 := by decide
noncomputable abbrev zt4 : List D -> Option (D × List D) := gE 2 0 (zd3 [true, false]) ys2
theorem wr3 {t : Str} {cs : List Int} {n : Nat} {m : Int} (h0 : 0 <= m) (h1 : m <= 100) (ht : t.length <= 1000000) : zt4 [sD t cs n, .int m] = some (.non, [sD (t ++ nlw m) cs n, .int m]) := by
  have q := xk8 m (by omega) (by omega)
  have hs : sizeLine = 16777216 := sizeLine_eq
  have e1 : zc9 (.str t) (.str "\n") = some (.str (t ++ (⟨#[10]⟩ : Str))) := by
    rw [xk6, zc9, if_pos]
    show t.length + 1 <= _; omega
  have e2 : zc9 (.str (t ++ (⟨#[10]⟩ : Str))) (.str (Txt.mul " " m)) = some (.str (t ++ nlw m)) := by
    rw [zc9, if_pos, xu3]; rfl
    rw [zj4, yb3]; show t.length + 1 + _ <= _; omega
  have i0 := ka0
  simp only [gE, ys2, sD]
  simp only [List.length_cons, List.length_nil, if_pos, List.map_cons, List.map_nil, List.cons_append, List.nil_append, List.replicate_zero, zi0, f2, za0, fC, dIx, zh3, Option.bind_some, List.getElem?_cons_zero, List.getElem?_cons_succ, Option.join_some, e1, q, e2]
  simp [gP, gE, zb3, zc3, zb9, za5, fIf, za8, fB, f2, za0, fC, zc0, zd4, zc2, zd1, zb7, ze0, ze9, za1, za3, ze2, fKs, za4, dEq, eqB, dB, dIx, zd7, zc8, D.imm, D.imms, zc9, zl7, fT, zd9, ze1, zh3, zg6, zm5, zh7, zh4, zf8, zc7, zl9, zd3, fMt, yn9, zi0, zm6, xa4, xk5, zd6, zf3, fIO, zi7, fE2, fTE, ya1, dGt, yc3, zk4, i0]
noncomputable abbrev zu2 : List D -> Option D := gP 1 0 yk8
theorem xi8 {t : Str} {cs : List Int} {n : Nat} (ht : t.length <= 1000000) : zu2 [sD t cs n] = some (.int (col t)) := by
  have hs : sizeLine = 16777216 := sizeLine_eq
  have hz : t.length <= sizeLine := by omega
  have e := we8 t
  rw [<- xk6] at e
  simp [gP, gE, zb3, zc3, zb9, za5, fIf, za8, fB, f2, za0, fC, zc0, zd4, zc2, zd1, zb7, ze0, ze9, za1, za3, ze2, fKs, za4, dEq, eqB, dB, dIx, zd7, zc8, D.imm, D.imms, zc9, zl7, fT, zd9, ze1, zh3, zg6, zm5, zh7, zh4, zf8, zc7, zl9, zd3, fMt, yn9, zi0, zm6, xa4, xk5, zd6, zf3, fIO, zi7, fE2, fTE, ya1, dGt, yc3, zk4, yk8, sD, hz, yr9, e]
theorem wl2 (n : Nat) : ∃ s : Int, atI [D.int 1, .int 12, .int 144, .int 1728, .int 20736, .int 248832, .int 2985984, .int 35831808] ((n : Int) % 8) = some (.int s) /\ 0 < s /\ s < 1073741824 := by
  have h0 := Int.emod_nonneg (n : Int) (show (8 : Int) ≠ 0 by decide)
  have h1 := Int.emod_lt_of_pos (n : Int) (show (0 : Int) < 8 by decide)
  obtain ⟨d, hd, e⟩ := yd6 [D.int 1, .int 12, .int 144, .int 1728, .int 20736, .int 248832, .int 2985984, .int 35831808] ((n : Int) % 8) h0 (by simpa using h1)
  simp only [List.mem_cons, List.not_mem_nil, or_false] at hd
  rcases hd with rfl | rfl | rfl | rfl | rfl | rfl | rfl | rfl <;> exact ⟨_, e, by decide, by decide⟩
noncomputable abbrev yc8 (GM GC : List D -> Option D) : List D -> Option (D × List D) := gE 4 2 (zd3 [false, true, false, false]) (yj9 GM GC)
section
variable {GM GC : List D -> Option D} {S : D}
theorem wr4 {t : Str} {cs : List Int} {n many : Nat} {salt : Int} (hM : ∀ j s : Int, 0 <= j -> j < 1000 -> 0 <= s -> s < 1000 -> ∃ a, GM [S, .int j, .int s] = some (.int a) /\ 0 <= a) (hC : ∀ j : Int, 0 <= j -> j < 1000 -> ∃ a, GC [S, .int j] = some (.int a)) (hn : n <= 900) (h0 : 0 <= salt) (h1 : salt < 1000) (hm : 0 < many) (hl : cs.length <= 900) :
    ∃ d : Int, yc8 GM GC [S, sD t cs n, .int salt, .int many] = some (.int d, [S, sD t (cs ++ [d]) (n + 1), .int salt, .int many]) /\ 0 <= d /\ d < many := by
  obtain ⟨a, qa, ha⟩ := hM ((n : Int) + 40) salt (by omega) (by omega) h0 h1
  obtain ⟨b, qb⟩ := hC (40 + (n : Int) / 8) (by omega) (by omega)
  obtain ⟨s, qs, s0, s1⟩ := wl2 n
  have hm' : (0 : Int) < (many : Int) := by omega
  have hz : (zb1 cs).length < sizeLine := by rw [zv0]; exact sz1 (by omega)
  have r := fun x : Int => And.intro (Int.emod_nonneg x (show (many : Int) ≠ 0 by omega)) (Int.emod_lt_of_pos x hm')
  have i1 : ∀ d : Int, zb1 [d] = [.int d] := fun _ => rfl
  have v2 : ∀ x4 x5, f2 dIx (za0 1) (fC (.int 2)) [some S, some (sD t cs n), some (.int salt), some (.int many), x4, x5] = some (.int n) := fun _ _ => zb5 rfl rfl (zm5 _ _ _ _)
  have s1' : zb9 4 (za5 (za4 GM (za1 (za0 0) (za1 (f2 zc9 (f2 dIx (za0 1) (fC (.int 2))) (fC (.int 40))) (za1 (za0 2) za3))))) [some S, some (sD t cs n), some (.int salt), some (.int many), none, none] = some (.nx, [some S, some (sD t cs n), some (.int salt), some (.int many), some (.int a), none]) := zf6 (zd8 (za9 rfl (za9 (zb5 (v2 _ _) rfl rfl) (za9 rfl rfl))) qa)
  have fin : ∀ (x : Int) (x5 : Option D), ∃ q, zb3 (zi0 1 zb7 (fC (.int 2)) (f2 zc9 (f2 dIx (za0 1) (fC (.int 2))) (fC (.int 1)))) (zb3 (zc2 (zd1 1 (zh7 1 zb7 (fC (.int 1))) (za1 (f2 zh1 (za0 4) (za0 3)) za3) zc8)) (zd4 (za5 (f2 zh1 (za0 4) (za0 3))))) [some S, some (sD t cs n), some (.int salt), some (.int many), some (.int x), x5] = some (.ret (.int (x % many)), [some S, some (sD t (cs ++ [x % many]) (n + 1)), some (.int salt), some (.int many), some (.int x), x5]) /\ q = x5 := fun x x5 => by
    have md : ∀ s, f2 zh1 (za0 4) (za0 3) [some S, s, some (.int salt), some (.int many), some (.int x), x5] = some (.int (x % many)) := fun s => zb5 rfl rfl ((zd6 _ _).trans (if_pos hm'))
    have a1 : zi0 1 zb7 (fC (.int 2)) (f2 zc9 (f2 dIx (za0 1) (fC (.int 2))) (fC (.int 1))) [some S, some (sD t cs n), some (.int salt), some (.int many), some (.int x), x5] = some (.nx, [some S, some (sD t cs (n + 1)), some (.int salt), some (.int many), some (.int x), x5]) := by
      unfold zi0
      rw [zb5 (v2 _ _) rfl rfl]
      rfl
    have a2 : zc2 (zd1 1 (zh7 1 zb7 (fC (.int 1))) (za1 (f2 zh1 (za0 4) (za0 3)) za3) zc8) [some S, some (sD t cs (n + 1)), some (.int salt), some (.int many), some (.int x), x5] = some (.nx, [some S, some (sD t (cs ++ [x % many]) (n + 1)), some (.int salt), some (.int many), some (.int x), x5]) := by
      refine yh8 (d := .non) ?_
      unfold zd1
      rw [za9 (md _) rfl]
      show ((ze0 (zc8 [.int (x % many)]) (sD t cs (n + 1)) [.ix 1]).bind _) = _
      have e : ze0 (zc8 [.int (x % many)]) (sD t cs (n + 1)) [.ix 1] = some (.non, sD t (cs ++ [x % many]) (n + 1)) := by
        show ((zc8 [.int (x % many)] (.lst true (zb1 cs))).bind _) = _
        rw [show zc8 [.int (x % many)] (.lst true (zb1 cs)) = some (.non, .lst true (zb1 cs ++ [.int (x % many)])) from if_pos hz]
        unfold sD
        rw [yj3, i1]; rfl
      rw [e]; rfl
    exact ⟨_, (za7 a1).trans ((za7 a2).trans (zi2 (md _))), rfl⟩
  have out : ∀ (d : Int) (p4 p5 : Option D), yj9 GM GC [some S, some (sD t cs n), some (.int salt), some (.int many), none, none] = some (.ret (.int d), [some S, some (sD t (cs ++ [d]) (n + 1)), some (.int salt), some (.int many), p4, p5]) -> yc8 GM GC [S, sD t cs n, .int salt, .int many] = some (.int d, [S, sD t (cs ++ [d]) (n + 1), .int salt, .int many]) := fun d p4 p5 h => by
    unfold yc8 gE
    refine (if_pos rfl).trans ?_
    show (yj9 GM GC [some S, some (sD t cs n), some (.int salt), some (.int many), none, none]).bind _ = _
    rw [h]; rfl
  have t1 : fB (f2 dEq (za0 2) (fC (.int 1))) [some S, some (sD t cs n), some (.int salt), some (.int many), some (.int a), none] = some (decide (salt = 1)) := zq6 (zb5 rfl rfl rfl)
  by_cases c : salt = 1
  . refine ⟨(b / s) % many, out _ (some (.int (b / s))) (some (.int s)) ?_, (r _).1, (r _).2⟩
    rw [decide_eq_true c] at t1
    have s2 : zb9 5 (za5 (f2 dIx (ze2 (fKs [.int 1, .int 12, .int 144, .int 1728, .int 20736, .int 248832, .int 2985984, .int 35831808])) (f2 zh1 (f2 dIx (za0 1) (fC (.int 2))) (fC (.int 8))))) [some S, some (sD t cs n), some (.int salt), some (.int many), some (.int a), none] = some (.nx, [some S, some (sD t cs n), some (.int salt), some (.int many), some (.int a), some (.int s)]) := zf6 (zb5 (zm3 rfl (Nat.le_of_ble_eq_true rfl)) (zb5 (v2 _ _) rfl ((zd6 _ _).trans (if_pos (by decide)))) qs)
    have s3 : zb9 4 (za5 (f2 zl8 (za4 GC (za1 (za0 0) (za1 (f2 zc9 (fC (.int 40)) (f2 zl8 (f2 dIx (za0 1) (fC (.int 2))) (fC (.int 8)))) za3))) (za0 5))) [some S, some (sD t cs n), some (.int salt), some (.int many), some (.int a), some (.int s)] = some (.nx, [some S, some (sD t cs n), some (.int salt), some (.int many), some (.int (b / s)), some (.int s)]) := zf6 (zb5 (zd8 (za9 rfl (za9 (zb5 rfl (zb5 (v2 _ _) rfl ((zf3 _ _).trans (if_pos (by decide)))) rfl) rfl)) qb) rfl ((zf3 _ _).trans (if_pos ⟨s0, s1⟩)))
    obtain ⟨_, f, _⟩ := fin (b / s) (some (.int s))
    exact (za7 s1').trans ((za7 ((zi1 t1).trans ((za7 s2).trans s3))).trans f)
  . refine ⟨a % many, out _ (some (.int a)) none ?_, (r _).1, (r _).2⟩
    rw [decide_eq_false c] at t1
    obtain ⟨_, f, _⟩ := fin a none
    exact (za7 s1').trans ((za7 (ze8 t1)).trans f)
end
noncomputable abbrev kIf (w : String) (F : PSt -> Option (Fl × PSt)) : PSt -> Option (Fl × PSt) := fIf (za8 (kdT 6 w)) F zc3
noncomputable abbrev yx8 (w : String) (c : PSt -> Option Bool) (F : PSt -> Option (Fl × PSt)) : PSt -> Option (Fl × PSt) := fIf (za8 (zf8 (kdT 6 w) c)) F zc3
noncomputable abbrev wrB : PSt -> Option (Fl × PSt) := zi0 4 zb7 (fC (.int 0)) (f2 zc9 (f2 dIx (za0 4) (fC (.int 0))) (f2 dIx (za0 6) (fC (.int 1))))
noncomputable abbrev lnB (GL : List D -> Option (D × List D)) (f : PSt -> Option D) : PSt -> Option (Fl × PSt) := zc2 (fIO [.io 4, .im f] GL)
noncomputable abbrev noB : PSt -> Option (Fl × PSt) := zd4 (za5 (fC (.bl false)))
noncomputable abbrev yu5 (GC : List D -> Option D) : PSt -> Option Bool := fB (f2 dGt (za4 GC (za1 (za0 4) za3)) (f2 dIx (za0 6) (fC (.int 1))))
noncomputable abbrev blB (GC : List D -> Option D) : PSt -> Option (Fl × PSt) := zi0 4 zb7 (fC (.int 0)) (f2 zc9 (f2 dIx (za0 4) (fC (.int 0))) (f2 zq1 (fC (.str " ")) (f2 zl7 (f2 dIx (za0 6) (fC (.int 1))) (za4 GC (za1 (za0 4) za3)))))
noncomputable abbrev xz9 (f1 f2 f3 : PSt -> Option D) (GS : List D -> Option (D × List D)) : PSt -> Option (Fl × PSt) := fIf (ya1 (fTE (fIO [.im (za0 0), .im f1, .im f2, .im f3, .io 4, .im (za0 5)] GS))) noB zc3
noncomputable abbrev grB (GN GS : List D -> Option (D × List D)) : PSt -> Option (Fl × PSt) := zb3 (zb9 7 (za5 (zc0 (za0 2))))
  (zb3 (fIf (za8 (zf8 (zh4 (fT (za0 2))) (fB (f2 dGt (za0 5) (fC (.int 0))))))
   (zb9 7 (fE2 dEq (fIO [.im (za0 0), .io 4, .im (za0 5), .im (fC (.int 2))] GN) (fC (.int 0))))
   (fIf (za8 (zh4 (fT (za0 2)))) (zc2 (zd1 4 (zh7 4 zb7 (fC (.int 1))) (za1 (fC (.int 1)) za3) zc8)) zc3))
  (xz9 (f2 dIx (za0 6) (fC (.int 1))) (za0 7) (za0 3) GS))
noncomputable abbrev haB (GS : List D -> Option (D × List D)) : PSt -> Option (Fl × PSt) := zb3 (zb9 8 (za5 (f2 zc9 (za0 3) (f2 dIx (za0 6) (fC (.int 1)))))) (xz9 (f2 dIx (za0 6) (fC (.int 2))) (za0 2) (za0 8) GS)
noncomputable abbrev eiB (GN GS : List D -> Option (D × List D)) : PSt -> Option (Fl × PSt) := zb3 (zb9 9 (fIO [.im (za0 0), .io 4, .im (f2 zc9 (za0 5) (f2 zq1 (fC (.int 9)) (za4 yc3 (za1 (f2 dEq (za0 5) (fC (.int 0))) za3)))), .im (za4 zd7 (za1 (f2 dIx (za0 6) (fC (.int 1))) za3))] GN))
  (xz9 (f2 dIx (f2 dIx (za0 6) (fC (.int 1))) (za0 9)) (za0 2) (za0 3) GS)
noncomputable def ya2 (GL : List D -> Option (D × List D)) (GC : List D -> Option D) (GN GS : List D -> Option (D × List D)) : PSt -> Option (Fl × PSt) :=
  zb3 (kIf "word" wrB) (zb3 (yx8 "gap" (fT (za0 2)) wrB) (zb3 (yx8 "gap" (zh4 (fT (za0 2))) (lnB GL (za0 3))) (zb3 (kIf "end" (lnB GL (za0 3)))
    (zb3 (kIf "stop" (zb3 (fIf (za8 (zf8 (fT (za0 2)) (yu5 GC))) noB zc3) (zb3 (fIf (za8 (yu5 GC)) (lnB GL (fC (.int 0))) zc3) (blB GC))))
    (zb3 (yx8 "end" (fT (za0 2)) noB) (zb3 (kIf "group" (grB GN GS)) (zb3 (kIf "hang" (haB GS)) (kIf "either" (eiB GN GS)))))))))
section
variable {w k : String} {F : PSt -> Option (Fl × PSt)} {c : PSt -> Option Bool} {p : PSt} {ds : List D}
theorem zj1 (hp : p[6]? = some (some (.tup (.str k :: ds)))) (h : decide (k = w) = false) : kIf w F p = some (.nx, p) := ze8 (yr3 hp h)
theorem zz1 (hp : p[6]? = some (some (.tup (.str k :: ds)))) (h : decide (k = w) = true) : kIf w F p = F p := zi1 (yr3 hp h)
theorem zr5 (hp : p[6]? = some (some (.tup (.str k :: ds)))) (h : decide (k = w) = false) : yx8 w c F p = some (.nx, p) := ze8 (zx6 (yr3 hp h))
theorem yx5 (hp : p[6]? = some (some (.tup (.str k :: ds)))) (h : decide (k = w) = true) (hc : c p = some true) : yx8 w c F p = F p := zi1 (zu5 (yr3 hp h) hc)
theorem yx6 (hp : p[6]? = some (some (.tup (.str k :: ds)))) (h : decide (k = w) = true) (hc : c p = some false) : yx8 w c F p = some (.nx, p) := ze8 (zu5 (yr3 hp h) hc)
theorem wf8 {fe : PSt -> Option D} {y a : D} {l : List D} (h : fe p = some y) (hp : p[4]? = some (some (.lst true (a :: l)))) : zi0 4 zb7 (fC (.int 0)) fe p = some (.nx, p.set 4 (some (.lst true (y :: l)))) := by
  have e : ixN (l.length + 1) 0 = some 0 := yf7 _
  simp [gP, gE, zb3, zc3, zb9, za5, fIf, za8, fB, f2, za0, fC, zc0, zd4, zc2, zd1, zb7, ze0, ze9, za1, za3, ze2, fKs, za4, dEq, eqB, dB, dIx, zd7, zc8, D.imm, D.imms, zc9, zl7, fT, zd9, ze1, zh3, zg6, zm5, zh7, zh4, zf8, zc7, zl9, zd3, fMt, yn9, zi0, zm6, xa4, xk5, zd6, zf3, fIO, zi7, fE2, fTE, ya1, dGt, yc3, zk4, zi0, h, hp, zb7, fC, ze0, zm6, e]
end
section
variable {GL GN GS : List D -> Option (D × List D)} {GC : List D -> Option D} {k : String} {ds : List D} {p : PSt}
theorem xb0 (hp : p[6]? = some (some (.tup (.str k :: ds)))) (h1 : decide (k = "group") = false) (h2 : decide (k = "hang") = false) (h3 : decide (k = "either") = false) : zb3 (kIf "group" (grB GN GS)) (zb3 (kIf "hang" (haB GS)) (kIf "either" (eiB GN GS))) p = some (.nx, p) :=
  (za7 (zj1 hp h1)).trans ((za7 (zj1 hp h2)).trans (zj1 hp h3))
theorem xb1 (hp : p[6]? = some (some (.tup (.str k :: ds)))) (h1 : decide (k = "word") = false) (h2 : decide (k = "gap") = false) (h3 : decide (k = "end") = false) (h4 : decide (k = "stop") = false) : ya2 GL GC GN GS p = zb3 (kIf "group" (grB GN GS)) (zb3 (kIf "hang" (haB GS)) (kIf "either" (eiB GN GS))) p :=
  (za7 (zj1 hp h1)).trans ((za7 (zr5 hp h2)).trans ((za7 (zr5 hp h2)).trans ((za7 (zj1 hp h3)).trans ((za7 (zj1 hp h4)).trans (za7 (zr5 hp h3))))))
end
section
variable {GN GS : List D -> Option (D × List D)} {S : D} {R : Option D}
noncomputable def ys4 (GN GS : List D -> Option (D × List D)) (S : D) (R : Option D) (t : Str) (cs : List Int) (n : Nat) (m salt : Int) (flat : Bool) (l : Leaf) (x7 x8 x9 : Option D) : Prop := ∃ ok t', ya2 zt4 zu2 GN GS [some S, R, some (.bl flat), some (.int m), some (sD t cs n), some (.int salt), some (zh8 l), x7, x8, x9] = some (if ok = true then .nx else .ret (.bl false), [some S, R, some (.bl flat), some (.int m), some (sD t' cs n), some (.int salt), some (zh8 l), x7, x8, x9]) /\
      (ok = true -> ∃ w, wr (!flat) m (col t) l = some w /\ t' = t ++ w) /\ (ok = false -> wr (!flat) m (col t) l = none /\ flat = true) /\ t'.length <= t.length + 101
theorem wl3 {t : Str} {cs : List Int} {n : Nat} {m salt : Int} {flat : Bool} {l : Leaf} (x7 x8 x9 : Option D) (hl : zu7 l) (h0 : 0 <= m) (h1 : m <= 100) (ht : t.length <= 900000) : ys4 GN GS S R t cs n m salt flat l x7 x8 x9 := by
  have hs : sizeLine = 16777216 := sizeLine_eq
  have hnl : ∀ c : Int, 0 <= c -> c <= 100 -> (t ++ nlw c).length <= t.length + 101 := fun c c0 c1 => by
    unfold nlw
    rw [zj4, zj4, yb3]; show _ + (1 + _) <= _; omega
  have add : ∀ x : Str, x.length <= 1000 -> zc9 (.str t) (.str x) = some (.str (t ++ x)) := fun x hx => by rw [zc9, if_pos]; omega
  have line : ∀ (l : Leaf) (f : PSt -> Option D) (c : Int), 0 <= c -> c <= 100 -> f [some S, R, some (.bl flat), some (.int m), some (sD t cs n), some (.int salt), some (zh8 l), x7, x8, x9] = some (.int c) -> lnB zt4 f [some S, R, some (.bl flat), some (.int m), some (sD t cs n), some (.int salt), some (zh8 l), x7, x8, x9] = some (.nx, [some S, R, some (.bl flat), some (.int m), some (sD (t ++ nlw c) cs n), some (.int salt), some (zh8 l), x7, x8, x9]) := fun l f c c0 c1 hf =>
    yh8 (yr4 (ym0 rfl (zp8 hf rfl yd8)) (wr3 c0 c1 (by omega)) rfl)
  have wrote : ∀ (l : Leaf) (x : Str), x.length <= 1000 -> f2 dIx (za0 6) (fC (.int 1)) [some S, R, some (.bl flat), some (.int m), some (sD t cs n), some (.int salt), some (zh8 l), x7, x8, x9] = some (.str x) -> wrB [some S, R, some (.bl flat), some (.int m), some (sD t cs n), some (.int salt), some (zh8 l), x7, x8, x9] = some (.nx, [some S, R, some (.bl flat), some (.int m), some (sD (t ++ x) cs n), some (.int salt), some (zh8 l), x7, x8, x9]) := fun l x hx h =>
    wf8 (zb5 (zb5 rfl rfl (zh3 _ _)) h (add x hx)) rfl
  cases l with
  | word x =>
    have hx : x.length <= 12 := hl.2.1
    delta ys4
    refine ⟨true, t ++ x, ?_, fun _ => ⟨x, rfl, rfl⟩, (nomatch ·), by rw [zj4]; omega⟩
    exact (za7 ((zz1 rfl (by decide)).trans (wrote (.word x) x (by omega) (zb5 rfl rfl (zg6 _ _ _))))).trans ((za7 (zr5 rfl (by decide))).trans ((za7 (zr5 rfl (by decide))).trans ((za7 (zj1 rfl (by decide))).trans ((za7 (zj1 rfl (by decide))).trans ((za7 (zr5 rfl (by decide))).trans (xb0 rfl (by decide) (by decide) (by decide)))))))
  | gap x =>
    have hx : x.length <= 1 := by
      rcases (hl : x = "" \/ x = " ") with rfl | rfl
      . show (0 : Nat) <= 1; decide
      . show (1 : Nat) <= 1; decide
    cases flat with
    | true =>
      delta ys4
      refine ⟨true, t ++ x, ?_, fun _ => ⟨x, rfl, rfl⟩, (nomatch ·), by rw [zj4]; omega⟩
      exact (za7 (zj1 rfl (by decide))).trans ((za7 ((yx5 rfl (by decide) rfl).trans (wrote (.gap x) x (by omega) (zb5 rfl rfl (zg6 _ _ _))))).trans ((za7 (yx6 rfl (by decide) rfl)).trans ((za7 (zj1 rfl (by decide))).trans ((za7 (zj1 rfl (by decide))).trans ((za7 (zr5 rfl (by decide))).trans (xb0 rfl (by decide) (by decide) (by decide)))))))
    | false =>
      delta ys4
      refine ⟨true, t ++ nlw m, ?_, fun _ => ⟨_, rfl, rfl⟩, (nomatch ·), hnl m h0 h1⟩
      exact (za7 (zj1 rfl (by decide))).trans ((za7 (yx6 rfl (by decide) rfl)).trans ((za7 ((yx5 rfl (by decide) rfl).trans (line _ _ m h0 h1 rfl))).trans ((za7 (zj1 rfl (by decide))).trans ((za7 (zj1 rfl (by decide))).trans ((za7 (zr5 rfl (by decide))).trans (xb0 rfl (by decide) (by decide) (by decide)))))))
  | fin =>
    have z : ∀ {Z}, zb3 (yx8 "end" (fT (za0 2)) noB) (zb3 (kIf "group" (grB GN GS)) (zb3 (kIf "hang" (haB GS)) (kIf "either" (eiB GN GS)))) [some S, R, some (.bl flat), some (.int m), some (sD (t ++ nlw m) cs n), some (.int salt), some (zh8 .fin), x7, x8, x9] = Z -> ya2 zt4 zu2 GN GS [some S, R, some (.bl flat), some (.int m), some (sD t cs n), some (.int salt), some (zh8 .fin), x7, x8, x9] = Z := fun h =>
      (za7 (zj1 rfl (by decide))).trans ((za7 (zr5 rfl (by decide))).trans ((za7 (zr5 rfl (by decide))).trans ((za7 ((zz1 rfl (by decide)).trans (line _ _ m h0 h1 rfl))).trans ((za7 (zj1 rfl (by decide))).trans h))))
    delta ys4
    refine ⟨!flat, t ++ nlw m, ?_, fun h => ⟨nlw m, (by cases flat <;> first | rfl | cases h), rfl⟩, fun h => (by cases flat <;> first | exact ⟨rfl, rfl⟩ | cases h), hnl m h0 h1⟩
    cases flat with
    | true => exact z (zi5 (yx5 rfl (by decide) rfl))
    | false => exact z ((za7 (yx6 rfl (by decide) rfl)).trans (xb0 rfl (by decide) (by decide) (by decide)))
  | stop c =>
    have hc : 0 <= c /\ c <= 40 := hl
    have past : ∀ t' : Str, t'.length <= 1000000 -> yu5 zu2 [some S, R, some (.bl flat), some (.int m), some (sD t' cs n), some (.int salt), some (zh8 (.stop c)), x7, x8, x9] = some (decide (c < (col t' : Int))) := fun t' h => zq6 (zb5 (zd8 (za9 rfl rfl) (xi8 h)) (zb5 rfl rfl (zg6 _ _ _)) rfl)
    have bl : ∀ t' : Str, t'.length <= 1000000 -> (col t' : Int) <= c -> blB zu2 [some S, R, some (.bl flat), some (.int m), some (sD t' cs n), some (.int salt), some (zh8 (.stop c)), x7, x8, x9] = some (.nx, [some S, R, some (.bl flat), some (.int m), some (sD (t' ++ Txt.mul " " (c - (col t' : Int))) cs n), some (.int salt), some (zh8 (.stop c)), x7, x8, x9]) := fun t' h hk =>
      wf8 (zb5 (zb5 rfl rfl (zh3 _ _)) (zb5 rfl (zb5 (zb5 rfl rfl (zg6 _ _ _)) (zd8 (za9 rfl rfl) (xi8 h)) rfl) (xk8 _ (by omega) (by omega))) (by rw [zc9, if_pos]; rw [yb3]; omega)) rfl
    have z : ∀ {Z F t'}, F = zb3 (fIf (za8 (zf8 (fT (za0 2)) (yu5 zu2))) noB zc3) (zb3 (fIf (za8 (yu5 zu2)) (lnB zt4 (fC (.int 0))) zc3) (blB zu2)) -> (F [some S, R, some (.bl flat), some (.int m), some (sD t cs n), some (.int salt), some (zh8 (.stop c)), x7, x8, x9] = some (.nx, [some S, R, some (.bl flat), some (.int m), some (sD t' cs n), some (.int salt), some (zh8 (.stop c)), x7, x8, x9]) /\ Z = some (.nx, [some S, R, some (.bl flat), some (.int m), some (sD t' cs n), some (.int salt), some (zh8 (.stop c)), x7, x8, x9])) \/ (∃ d q, F [some S, R, some (.bl flat), some (.int m), some (sD t cs n), some (.int salt), some (zh8 (.stop c)), x7, x8, x9] = some (.ret d, q) /\ Z = some (.ret d, q)) ->
        ya2 zt4 zu2 GN GS [some S, R, some (.bl flat), some (.int m), some (sD t cs n), some (.int salt), some (zh8 (.stop c)), x7, x8, x9] = Z := fun hF h => by
      subst hF
      refine (za7 (zj1 rfl (by decide))).trans ((za7 (zr5 rfl (by decide))).trans ((za7 (zr5 rfl (by decide))).trans ((za7 (zj1 rfl (by decide))).trans ?_)))
      rcases h with ⟨h, rfl⟩ | ⟨d, q, h, rfl⟩
      . exact (za7 ((zz1 rfl (by decide)).trans h)).trans ((za7 (zr5 rfl (by decide))).trans (xb0 rfl (by decide) (by decide) (by decide)))
      . exact zi5 ((zz1 rfl (by decide)).trans h)
    have p0 := past t (by omega)
    by_cases hk : (col t : Int) <= c
    . rw [decide_eq_false (by omega)] at p0
      delta ys4
      refine ⟨true, t ++ Txt.mul " " (c - (col t : Int)), ?_, fun _ => ⟨_, if_pos hk, rfl⟩, (nomatch ·), by rw [zj4, yb3]; omega⟩
      have pa : zf8 (fT (za0 2)) (yu5 zu2) [some S, R, some (.bl flat), some (.int m), some (sD t cs n), some (.int salt), some (zh8 (.stop c)), x7, x8, x9] = some false := by
        cases flat with
        | true => exact zu5 rfl p0
        | false => exact zx6 rfl
      exact z rfl (.inl ⟨(za7 (ze8 pa)).trans ((za7 (ze8 p0)).trans (bl t (by omega) hk)), rfl⟩)
    . rw [decide_eq_true (by omega)] at p0
      cases flat with
      | true =>
        delta ys4
        exact ⟨false, t, z (t' := t) rfl (.inr ⟨_, _, zi5 (zi1 (zu5 rfl p0)), rfl⟩), (nomatch ·), fun _ => ⟨(if_neg hk).trans rfl, rfl⟩, by omega⟩
      | false =>
        have l0 := hnl 0 (by omega) (by omega)
        have c0 : col (t ++ nlw 0) = 0 := by
          unfold nlw
          rw [xp0 (xo9 0), yb3]; rfl
        have q := bl (t ++ nlw 0) (by omega) (by rw [c0]; exact hc.1)
        have e : t ++ nlw c = (t ++ nlw 0) ++ Txt.mul " " (c - ((0 : Nat) : Int)) := by
          refine yd9 ?_
          unfold nlw
          simp only [zj3, yx1]
          simp [gP, gE, zb3, zc3, zb9, za5, fIf, za8, fB, f2, za0, fC, zc0, zd4, zc2, zd1, zb7, ze0, ze9, za1, za3, ze2, fKs, za4, dEq, eqB, dB, dIx, zd7, zc8, D.imm, D.imms, zc9, zl7, fT, zd9, ze1, zh3, zg6, zm5, zh7, zh4, zf8, zc7, zl9, zd3, fMt, yn9, zi0, zm6, xa4, xk5, zd6, zf3, fIO, zi7, fE2, fTE, ya1, dGt, yc3, zk4]
        rw [c0, <- e] at q
        delta ys4
        exact ⟨true, t ++ nlw c, z rfl (.inl ⟨(za7 (ze8 (zx6 rfl))).trans ((za7 ((zi1 p0).trans (line _ _ 0 (Int.le_refl _) (by decide) rfl))).trans q), rfl⟩), fun _ => ⟨nlw c, (if_neg hk).trans rfl, rfl⟩, (nomatch ·), hnl c hc.1 (by omega)⟩
end
end My
namespace My
open PySem PySem.Spec PyProof.Rows L2 L3
section
variable {GM GC : List D -> Option D} {S : D}
noncomputable def Fit (n c l w : Nat) : Prop := n + w <= 900 /\ c + w <= 900 /\ l + 101 * w <= 900000
noncomputable def zw6 (n n' l l' d w : Nat) : Prop := n' <= n + w /\ l' <= l + 101 * w /\ d <= w
theorem xb2 {n c l w w' : Nat} (h : Fit n c l w) (hw : w' <= w) : Fit n c l w' := by unfold Fit at *; omega
theorem yt6 {n n' l l' d w w' : Nat} (h : zw6 n n' l l' d w) (hw : w <= w') : zw6 n n' l l' d w' := by unfold zw6 at *; omega
theorem wr5 {n l w : Nat} {cs : List Int} (h : Fit n cs.length l (w + 2)) (d : Int) : Fit n (cs ++ [d]).length l w := by
  rw [List.length_append]
  unfold Fit at *
  show _ /\ _ + 1 + _ <= _ /\ _
  omega
theorem xp6 {n l w : Nat} {cs : List Int} (h : Fit n cs.length l (w + 2)) (d : Int) : Fit (n + 1) (cs ++ [d]).length l w := by
  rw [List.length_append]
  unfold Fit at *
  show _ /\ _ + 1 + _ <= _ /\ _
  omega
theorem xb3 {n c l w : Nat} (h : Fit n c l w) : n <= 900 /\ c <= 900 := by unfold Fit at h; omega
theorem wl4 {n n' l l' w : Nat} {ds : List Int} (g : zw6 n n' l l' ds.length w) (d : Int) : zw6 n n' l l' (d :: ds).length (w + 2) := by rw [List.length_cons]; unfold zw6 at *; omega
theorem xi9 {n n' l l' w : Nat} {ds : List Int} (g : zw6 (n + 1) n' l l' ds.length w) (d : Int) : zw6 n n' l l' (d :: ds).length (w + 2) := by rw [List.length_cons]; unfold zw6 at *; omega
theorem wl5 {n n1 l l1 a b : Nat} {cs ds : List Int} (h : Fit n cs.length l (a + b)) (g : zw6 n n1 l l1 ds.length a) : Fit n1 (cs ++ ds).length l1 b := by
  rw [List.length_append]
  unfold Fit zw6 at *
  omega
theorem xy7 {n n1 n2 l l1 l2 a b : Nat} {ds es : List Int} (g : zw6 n n1 l l1 ds.length a) (h : zw6 n1 n2 l1 l2 es.length b) : zw6 n n2 l l2 (ds ++ es).length (a + b) := by
  rw [List.length_append]
  unfold zw6 at *
  omega
theorem xk9 {m : Int} {x : Nat} (h : m + 12 * ((x + 1 : Nat) : Int) <= 100) : m + 12 * (x : Int) <= 100 := by omega
theorem xp7 {m : Int} {x y : Nat} (h : m + 12 * (y : Int) <= 100) (hx : x <= y) : m + 12 * (x : Int) <= 100 := by omega
noncomputable def yx9 (S : D) (GS : List D -> Option (D × List D)) (r : List Pc) : Prop := ∀ (flat : Bool) (m : Int) (t : Str) (cs : List Int) (n : Nat) (salt : Int), 0 <= m -> m + 12 * zi6 r <= 100 -> 0 <= salt -> salt <= 900 -> Fit n cs.length t.length (zf5 r).length ->
  ∃ ok t' ds n', GS [S, .tup (zc5 r), .bl flat, .int m, sD t cs n, .int salt] = some (.bl ok, [S, .tup (zc5 r), .bl flat, .int m, sD t' (cs ++ ds) n', .int salt]) /\ (ok = true -> ∀ x, zl0 (!flat) m r (ds ++ x) t = some (x, t')) /\ (ok = false -> ∀ x, zl0 (!flat) m r (ds ++ x) t = none) /\ (salt = 0 -> flat = false -> ok = true) /\ zw6 n n' t.length t'.length ds.length (zf5 r).length
noncomputable def yy0 (S : D) (GN GS : List D -> Option (D × List D)) (p : Pc) (R : Option D) (flat : Bool) (m : Int) (t : Str) (cs : List Int) (n : Nat) (salt : Int) (x7 x8 x9 : Option D) : Prop := ∃ ok t' ds n' y7 y8 y9, ya2 zt4 zu2 GN GS [some S, R, some (.bl flat), some (.int m), some (sD t cs n), some (.int salt), some (pcD p), x7, x8, x9] = some (if ok = true then .nx else .ret (.bl false), [some S, R, some (.bl flat), some (.int m), some (sD t' (cs ++ ds) n'), some (.int salt), some (pcD p), y7, y8, y9]) /\
    (ok = true -> ∀ x, zo6 (!flat) m p (ds ++ x) t = some (x, t')) /\ (ok = false -> ∀ x, zo6 (!flat) m p (ds ++ x) t = none) /\ (salt = 0 -> flat = false -> ok = true) /\ zw6 n n' t.length t'.length ds.length (zj2 p).length
noncomputable def xr2 (S : D) (GN GS : List D -> Option (D × List D)) (p : Pc) : Prop := ∀ (R : Option D) (flat : Bool) (m : Int) (t : Str) (cs : List Int) (n : Nat) (salt : Int) (x7 x8 x9 : Option D), 0 <= m -> m + 12 * zp6 p <= 100 -> 0 <= salt -> salt <= 900 -> Fit n cs.length t.length (zj2 p).length -> yy0 S GN GS p R flat m t cs n salt x7 x8 x9
noncomputable def yu6 (S : D) (GN : List D -> Option (D × List D)) : Prop := ∀ (t : Str) (cs : List Int) (n many : Nat) (salt : Int), n <= 900 -> 0 <= salt -> salt < 1000 -> 0 < many -> cs.length <= 900 -> ∃ d : Int, GN [S, sD t cs n, .int salt, .int many] = some (.int d, [S, sD t (cs ++ [d]) (n + 1), .int salt, .int many]) /\ 0 <= d /\ d < many
theorem xy8 (cs ds : List Int) (d : Int) : cs ++ [d] ++ ds = cs ++ (d :: ds) := by simp
theorem ym1 {GS : List D -> Option (D × List D)} {r : List Pc} {b flat ok : Bool} {m m' salt : Int} {s0 s1 d6 : D} {R x7 x8 x9 : Option D} {f1 f2 f3 : PSt -> Option D} (hS : S.imm = true) (e1 : f1 [some S, R, some (.bl flat), some (.int m), some s0, some (.int salt), some d6, x7, x8, x9] = some (.tup (zc5 r))) (e2 : f2 [some S, R, some (.bl flat), some (.int m), some s0, some (.int salt), some d6, x7, x8, x9] = some (.bl b)) (e3 : f3 [some S, R, some (.bl flat), some (.int m), some s0, some (.int salt), some d6, x7, x8, x9] = some (.int m'))
    (q : GS [S, .tup (zc5 r), .bl b, .int m', s0, .int salt] = some (.bl ok, [S, .tup (zc5 r), .bl b, .int m', s1, .int salt])) :
    xz9 f1 f2 f3 GS [some S, R, some (.bl flat), some (.int m), some s0, some (.int salt), some d6, x7, x8, x9] = some (if ok = true then .nx else .ret (.bl false), [some S, R, some (.bl flat), some (.int m), some s1, some (.int salt), some d6, x7, x8, x9]) := by
  have c := wk1 (ww6 (yr4 (zp8 (f := za0 0) rfl hS (zp8 e1 (zk5 r) (zp8 e2 rfl (zp8 e3 rfl (ym0 (j := 4) rfl (zp8 (f := za0 5) rfl rfl yd8)))))) q rfl))
  cases ok with
  | true => exact (zt2 c).trans rfl
  | false => exact (yj2 c).trans rfl
theorem xb4 {F G : PSt -> Option (Fl × PSt)} {ok : Bool} {p q : PSt} (h : F p = some (if ok = true then .nx else .ret (.bl false), q)) (hG : G q = some (.nx, q)) : zb3 F G p = some (if ok = true then .nx else .ret (.bl false), q) := by
  cases ok with
  | true => exact (za7 h).trans hG
  | false => exact zi5 h
theorem bit {d : Int} (h0 : 0 <= d) (h1 : d < ((2 : Nat) : Int)) : d = 0 \/ d = 1 := by omega
theorem wf9 {GN GS : List D -> Option (D × List D)} {r : List Pc} (hS : S.imm = true) (hN : yu6 S GN) (hr : yx9 S GS r) : xr2 S GN GS (.group r) := by
  intro R flat m t cs n salt x7 x8 x9 h0 h1 hs0 hs1 hft
  have hd : zp6 (.group r) = zi6 r + 1 := by rw [zp6]
  have htk : (zj2 (.group r)).length = (zf5 r).length + 2 := by simp [zj2]
  have pi := zk5 r
  rw [hd] at h1
  rw [htk] at hft
  have set_eq : ∀ cs' t0, zo6 true m (.group r) cs' t0 = (match cs' with | [] => none | c :: cs => if c = 0 then zl0 false m r cs t0 else if c = 1 then zl0 true m r cs t0 else none) := fun cs' t0 => by rw [zo6.eq_def]; cases cs' <;> simp
  cases flat with
  | true =>
    obtain ⟨ok, t', ds, n', q, e1, e2, e3, e4⟩ := hr true m t cs n salt h0 (xk9 h1) hs0 hs1 (xb2 hft (Nat.le_add_right _ 2))
    have se : ∀ cs' t0, zo6 (!true) m (.group r) cs' t0 = zl0 (!true) m r cs' t0 := fun cs' t0 => by rw [zo6.eq_def]; simp
    delta yy0
    rw [htk]
    refine ⟨ok, t', ds, n', some (.bl true), x8, x9, ?_, fun h x => by rw [se]; exact e1 h x, fun h x => by rw [se]; exact e2 h x, fun _ h => (by cases h), yt6 e4 (Nat.le_add_right _ 2)⟩
    refine (xb1 rfl (by decide) (by decide) (by decide) (by decide)).trans (xb4 ((zz1 rfl (by decide)).trans ?_) ((za7 (zj1 rfl (by decide))).trans (zj1 rfl (by decide))))
    exact (za7 (zf6 (zm4 rfl rfl))).trans ((za7 ((zt2 (zx5 (zx6 rfl))).trans (ze8 rfl))).trans (ym1 hS (zb5 rfl rfl (zg6 _ _ _)) rfl rfl q))
  | false =>
    by_cases hz : salt = 0
    . subst hz
      obtain ⟨ok, t', ds, n', q, e1, e2, e3, e4⟩ := hr false m t (cs ++ [1]) n 0 h0 (xk9 h1) hs0 hs1 (wr5 hft 1)
      have hok := e3 rfl rfl
      subst hok
      delta yy0
      rw [htk]
      refine ⟨true, t', 1 :: ds, n', some (.bl false), x8, x9, ?_, fun _ x => by rw [show (!false) = true from rfl, set_eq]; simpa using e1 rfl x, (nomatch ·), fun _ _ => rfl, wl4 e4 1⟩
      rw [xy8] at q
      have hl : (zb1 cs).length < sizeLine := by rw [zv0]; exact sz1 (Nat.le_trans (xb3 hft).2 (by decide))
      have ei : zb1 (cs ++ [1]) = zb1 cs ++ [.int 1] := by rw [yj3]; rfl
      have ap : zc2 (zd1 4 (zh7 4 zb7 (fC (.int 1))) (za1 (fC (.int 1)) za3) zc8) [some S, R, some (.bl false), some (.int m), some (sD t cs n), some (.int 0), some (pcD (.group r)), some (.bl false), x8, x9] = some (.nx, [some S, R, some (.bl false), some (.int m), some (sD t (cs ++ [1]) n), some (.int 0), some (pcD (.group r)), some (.bl false), x8, x9]) := by
        unfold sD
        rw [ei]
        simp [zc2, zd1, zh7, zb7, fC, ze9, xa4, za1, za3, ze0, zc8, hl]
      refine (xb1 rfl (by decide) (by decide) (by decide) (by decide)).trans (xb4 (ok := true) ((zz1 rfl (by decide)).trans ?_) ((za7 (zj1 rfl (by decide))).trans (zj1 rfl (by decide))))
      exact (za7 (zf6 (zm4 rfl rfl))).trans ((za7 ((zt2 (zx5 (zu5 rfl rfl))).trans ((zi1 rfl).trans ap))).trans (ym1 hS (zb5 rfl rfl (zg6 _ _ _)) rfl rfl q))
    . have hp : 0 < salt := by omega
      obtain ⟨d, qd, d0, d1⟩ := hN t cs n 2 salt (xb3 hft).1 hs0 (Int.lt_of_le_of_lt hs1 (by decide)) (by decide) (xb3 hft).2
      obtain ⟨ok, t', ds, n', q, e1, e2, e3, e4⟩ := hr (decide (d = 0)) m t (cs ++ [d]) (n + 1) salt h0 (xk9 h1) hs0 hs1 (xp6 hft d)
      have se : ∀ x, zo6 (!false) m (.group r) (d :: ds ++ x) t = zl0 (!decide (d = 0)) m r (ds ++ x) t := fun x => by
        rw [show (!false) = true from rfl, set_eq]
        rcases (bit d0 d1) with rfl | rfl <;> simp
      delta yy0
      rw [htk]
      refine ⟨ok, t', d :: ds, n', some (.bl (decide (d = 0))), x8, x9, ?_, fun h x => by rw [se]; exact e1 h x, fun h x => by rw [se]; exact e2 h x, fun h => absurd h hz, xi9 e4 d⟩
      rw [xy8] at q
      have qd' : GN [S, sD t cs n, .int salt, .int 2] = some (.int d, [S, sD t (cs ++ [d]) (n + 1), .int salt, .int 2]) := qd
      have dr : zb9 7 (fE2 dEq (fIO [.im (za0 0), .io 4, .im (za0 5), .im (fC (.int 2))] GN) (fC (.int 0))) [some S, R, some (.bl false), some (.int m), some (sD t cs n), some (.int salt), some (pcD (.group r)), some (.bl false), x8, x9] = some (.nx, [some S, R, some (.bl false), some (.int m), some (sD t (cs ++ [d]) (n + 1)), some (.int salt), some (pcD (.group r)), some (.bl (decide (d = 0))), x8, x9]) := by
        unfold zb9 fE2
        rw [yr4 (zp8 (f := za0 0) rfl hS (ym0 (j := 4) rfl (zp8 (f := za0 5) rfl rfl (zp8 (f := fC (.int 2)) rfl rfl yd8)))) qd' rfl]
        rfl
      have gt : zf8 (zh4 (fT (za0 2))) (fB (f2 dGt (za0 5) (fC (.int 0)))) [some S, R, some (.bl false), some (.int m), some (sD t cs n), some (.int salt), some (pcD (.group r)), some (.bl false), x8, x9] = some true := zu5 rfl (zq6 (zb5 rfl rfl (show some (D.bl (decide (0 < salt))) = _ by rw [decide_eq_true hp])))
      refine (xb1 rfl (by decide) (by decide) (by decide) (by decide)).trans (xb4 ((zz1 rfl (by decide)).trans ?_) ((za7 (zj1 rfl (by decide))).trans (zj1 rfl (by decide))))
      exact (za7 (zf6 (zm4 rfl rfl))).trans ((za7 ((zi1 gt).trans dr)).trans (ym1 hS (zb5 rfl rfl (zg6 _ _ _)) rfl rfl q))
theorem ka1 {m k : Int} {x : Nat} (h : m + 12 * ((x + 1 : Nat) : Int) <= 100) (hk : k <= 12) : m + k + 12 * (x : Int) <= 100 := by omega
theorem wl6 {GN GS : List D -> Option (D × List D)} {k : Int} {r : List Pc} (hS : S.imm = true) (hk : 0 <= k /\ k <= 12) (hr : yx9 S GS r) : xr2 S GN GS (.hang k r) := by
  intro R flat m t cs n salt x7 x8 x9 h0 h1 hs0 hs1 hft
  have hd : zp6 (.hang k r) = zi6 r + 1 := by rw [zp6]
  have htk : (zj2 (.hang k r)).length = (zf5 r).length + 2 := by simp [zj2]
  have pi := zk5 r
  rw [hd] at h1
  rw [htk] at hft
  obtain ⟨ok, t', ds, n', q, e1, e2, e3, e4⟩ := hr flat (m + k) t cs n salt (Int.add_nonneg h0 hk.1) (ka1 h1 hk.2) hs0 hs1 (xb2 hft (Nat.le_add_right _ 2))
  have se : ∀ cs' t0, zo6 (!flat) m (.hang k r) cs' t0 = zl0 (!flat) (m + k) r cs' t0 := fun cs' t0 => by rw [zo6]
  delta yy0
  rw [htk]
  refine ⟨ok, t', ds, n', x7, some (.int (m + k)), x9, ?_, fun h x => by rw [se]; exact e1 h x, fun h x => by rw [se]; exact e2 h x, e3, yt6 e4 (Nat.le_add_right _ 2)⟩
  refine (xb1 rfl (by decide) (by decide) (by decide) (by decide)).trans ((za7 (zj1 rfl (by decide))).trans (xb4 ((zz1 rfl (by decide)).trans ?_) (zj1 rfl (by decide))))
  exact (za7 (zf6 (zb5 rfl (zb5 rfl rfl (zg6 _ _ _)) rfl))).trans (ym1 hS (zb5 rfl rfl (zm5 _ _ _ _)) rfl rfl q)
theorem xp8 : ∀ {rs : List (List Pc)} {i : Nat} {r : List Pc}, rs[i]? = some r -> (zg3 rs)[i]? = some (.tup (zc5 r))
  | [], i, _, h => by simp at h
  | q :: rs, 0, _, h => by simp at h; subst h; rfl
  | q :: rs, i + 1, _, h => by show (zg3 rs)[i]? = _; exact xp8 (by simpa using h)
theorem xy9 {GN GS : List D -> Option (D × List D)} {rs : List (List Pc)} (hS : S.imm = true) (hN : yu6 S GN) (hl : 0 < rs.length /\ rs.length <= 4) (hr : ∀ r ∈ rs, yx9 S GS r) : xr2 S GN GS (.either rs) := by
  intro R flat m t cs n salt x7 x8 x9 h0 h1 hs0 hs1 hft
  have hd : zp6 (.either rs) = zw9 rs + 1 := by rw [zp6]
  have htk : (zj2 (.either rs)).length = (yi3 rs).length + 2 := by simp [zj2]
  rw [hd] at h1
  rw [htk] at hft
  obtain ⟨s', hs', hs2, hs3⟩ : ∃ s' : Int, salt + 9 * (if decide (salt = 0) = true then 1 else 0) = s' /\ 0 <= s' /\ s' < 1000 := by
    refine ⟨_, rfl, ?_, ?_⟩ <;> by_cases h : salt = 0 <;> simp [h] <;> omega
  obtain ⟨d, qd, d0, d1⟩ := hN t cs n rs.length s' (xb3 hft).1 hs2 hs3 hl.1 (xb3 hft).2
  obtain ⟨r, hg⟩ : ∃ r, rs[d.toNat]? = some r := ⟨_, List.getElem?_eq_getElem (by omega)⟩
  have hdr := yj4 hg
  have htr := yv4 (List.mem_of_getElem? hg)
  have pi := zk5 r
  obtain ⟨ok, t', ds, n', q, e1, e2, e3, e4⟩ := hr r (List.mem_of_getElem? hg) flat m t (cs ++ [d]) (n + 1) salt h0 (xp7 (xk9 h1) hdr) hs0 hs1 (xb2 (xp6 hft d) htr)
  have se : ∀ x, zo6 (!flat) m (.either rs) (d :: ds ++ x) t = zl0 (!flat) m r (ds ++ x) t := fun x => by
    rw [zo6.eq_def]
    simp only [List.cons_append]
    rw [if_pos d0, yr5 hg]
  delta yy0
  rw [htk]
  refine ⟨ok, t', d :: ds, n', x7, x8, some (.int d), ?_, fun h x => by rw [se]; exact e1 h x, fun h x => by rw [se]; exact e2 h x, e3, xi9 (yt6 e4 htr) d⟩
  rw [xy8] at q
  have qx : atI (zg3 rs) d = some (.tup (zc5 r)) := by
    have := zy7 (xp8 hg)
    rwa [Int.toNat_of_nonneg d0] at this
  have hrl : (zg3 rs).length = rs.length := zu9 rs
  have hmul : yr6 9 (if decide (salt = 0) = true then 1 else 0) = true := by by_cases h : salt = 0 <;> simp [h] <;> decide
  have hmul' : zq1 (.int 9) (.int (if decide (salt = 0) = true then 1 else 0)) = some (.int (9 * (if decide (salt = 0) = true then 1 else 0))) := by rw [zq1, if_pos hmul]
  have hm2 : f2 zc9 (za0 5) (f2 zq1 (fC (.int 9)) (za4 yc3 (za1 (f2 dEq (za0 5) (fC (.int 0))) za3))) [some S, R, some (.bl flat), some (.int m), some (sD t cs n), some (.int salt), some (.tup [.str "either", .tup (zg3 rs)]), x7, x8, x9] = some (.int s') := by
    rw [<- hs']
    refine zb5 rfl (zb5 rfl (d := .int (9 * (if decide (salt = 0) = true then 1 else 0))) ?_ hmul') rfl
    exact zd8 (za9 (zb5 rfl rfl rfl) rfl) rfl
  have ln : za4 zd7 (za1 (f2 dIx (za0 6) (fC (.int 1))) za3) [some S, R, some (.bl flat), some (.int m), some (sD t cs n), some (.int salt), some (.tup [.str "either", .tup (zg3 rs)]), x7, x8, x9] = some (.int rs.length) := by
    rw [<- hrl]
    exact zd8 (za9 (zb5 rfl rfl (zg6 _ _ _)) rfl) rfl
  have dr : zb9 9 (fIO [.im (za0 0), .io 4, .im (f2 zc9 (za0 5) (f2 zq1 (fC (.int 9)) (za4 yc3 (za1 (f2 dEq (za0 5) (fC (.int 0))) za3)))), .im (za4 zd7 (za1 (f2 dIx (za0 6) (fC (.int 1))) za3))] GN) [some S, R, some (.bl flat), some (.int m), some (sD t cs n), some (.int salt), some (.tup [.str "either", .tup (zg3 rs)]), x7, x8, x9] = some (.nx, [some S, R, some (.bl flat), some (.int m), some (sD t (cs ++ [d]) (n + 1)), some (.int salt), some (.tup [.str "either", .tup (zg3 rs)]), x7, x8, some (.int d)]) := by
    unfold zb9
    rw [yr4 (zp8 (f := za0 0) rfl hS (ym0 (j := 4) rfl (zp8 hm2 rfl (zp8 ln rfl yd8)))) qd rfl]
    rfl
  refine (xb1 (ds := [.tup (zg3 rs)]) rfl (by decide) (by decide) (by decide) (by decide)).trans ((za7 (zj1 (ds := [.tup (zg3 rs)]) rfl (by decide))).trans ((za7 (zj1 (ds := [.tup (zg3 rs)]) rfl (by decide))).trans ((zz1 (ds := [.tup (zg3 rs)]) rfl (by decide)).trans ?_)))
  exact (za7 dr).trans (ym1 hS (zb5 (zb5 rfl rfl (zg6 _ _ _)) rfl qx) rfl rfl q)
theorem wg0 {GN GS : List D -> Option (D × List D)} {l : Leaf} (hl : zu7 l) : xr2 S GN GS (.leaf l) := by
  intro R flat m t cs n salt x7 x8 x9 h0 h1 hs0 hs1 hft
  have hd : zp6 (.leaf l) = 0 := by rw [zp6]
  have htk : (zj2 (.leaf l)).length = 1 := by simp [zj2]
  rw [hd] at h1
  rw [htk] at hft
  obtain ⟨ok, t', q, e1, e2, e3⟩ := wl3 (GN := GN) (GS := GS) (S := S) (R := R) (cs := cs) (n := n) (salt := salt) (flat := flat) x7 x8 x9 hl h0 (by omega) (Nat.le_trans (Nat.le_add_right _ _) hft.2.2)
  delta yy0
  rw [htk]
  refine ⟨ok, t', [], n, x7, x8, x9, by rw [List.append_nil]; exact q, fun h x => ?_, fun h x => ?_, fun _ hf => ?_, ⟨Nat.le_add_right _ _, e3, Nat.zero_le _⟩⟩
  . obtain ⟨w, hw, rfl⟩ := e1 h
    rw [zo6, hw]; rfl
  . rw [zo6, (e2 h).1]; rfl
  . cases ok with
    | true => rfl
    | false => have := (e2 rfl).2; rw [hf] at this; cases this
theorem wg1 {GN GS : List D -> Option (D × List D)} {k : Nat} (hS : S.imm = true) (hN : yu6 S GN) (hG : ∀ r, zi6 r < k -> okR r -> yx9 S GS r) {p : Pc} (hd : zp6 p <= k) (ho : okP p) : xr2 S GN GS p := by
  cases p with
  | leaf l => exact wg0 ho
  | group r => rw [zp6] at hd; exact wf9 hS hN (hG r (by omega) ho)
  | hang n r => rw [zp6] at hd; exact wl6 hS ho.1 (hG r (by omega) ho.2)
  | either rs =>
    rw [zp6] at hd
    have ho' : (2 <= rs.length /\ rs.length <= 4) /\ zy5 rs := ho
    refine xy9 hS hN ⟨by omega, ho'.1.2⟩ fun r hr => ?_
    obtain ⟨i, hi⟩ := List.getElem?_of_mem hr
    have := yj4 hi
    exact hG r (by omega) (yx4 ho'.2 hi)
noncomputable def xr3 (S : D) (GN GS : List D -> Option (D × List D)) (R : Option D) (flat : Bool) (m salt : Int) (r : List Pc) (t : Str) (cs : List Int) (n : Nat) (x6 x7 x8 x9 : Option D) : Prop := ∃ ok t' ds n' y6 y7 y8 y9, zn3 6 (ya2 zt4 zu2 GN GS) (zc5 r) [some S, R, some (.bl flat), some (.int m), some (sD t cs n), some (.int salt), x6, x7, x8, x9] = some (if ok = true then .nx else .ret (.bl false), [some S, R, some (.bl flat), some (.int m), some (sD t' (cs ++ ds) n'), some (.int salt), y6, y7, y8, y9]) /\
      (ok = true -> ∀ x, zl0 (!flat) m r (ds ++ x) t = some (x, t')) /\ (ok = false -> ∀ x, zl0 (!flat) m r (ds ++ x) t = none) /\ (salt = 0 -> flat = false -> ok = true) /\ zw6 n n' t.length t'.length ds.length (zf5 r).length
theorem xp9 {GN GS : List D -> Option (D × List D)} {k : Nat} {R : Option D} {flat : Bool} {m salt : Int} (hS : S.imm = true) (hN : yu6 S GN) (hG : ∀ r, zi6 r < k -> okR r -> yx9 S GS r) (h0 : 0 <= m) (hs0 : 0 <= salt) (hs1 : salt <= 900) : ∀ (r : List Pc) (t : Str) (cs : List Int) (n : Nat) (x6 x7 x8 x9 : Option D), zi6 r <= k -> okR r ->
    m + 12 * zi6 r <= 100 -> Fit n cs.length t.length (zf5 r).length -> xr3 S GN GS R flat m salt r t cs n x6 x7 x8 x9
  | [], t, cs, n, x6, x7, x8, x9, _, _, _, _ => show xr3 S GN GS R flat m salt [] t cs n x6 x7 x8 x9 by delta xr3; exact ⟨true, t, [], n, x6, x7, x8, x9, by rw [List.append_nil]; rfl, fun _ x => by rw [zl0]; rfl, (nomatch ·), fun _ _ => rfl, ⟨Nat.le_refl _, Nat.le_refl _, Nat.le_refl _⟩⟩
  | p :: r, t, cs, n, x6, x7, x8, x9, hd, ho, h1, hft => by
    rw [okR] at ho
    rw [zi6] at hd h1
    have htk : (zf5 (p :: r)).length = (zj2 p).length + (zf5 r).length := by rw [zf5, List.length_append]
    rw [htk] at hft
    obtain ⟨ok, t1, d1, n1, y7, y8, y9, q, e1, e2, e3, e4⟩ := wg1 hS hN hG (p := p) (Nat.le_trans (Nat.le_max_left _ _) hd) ho.1 R flat m t cs n salt x7 x8 x9 h0 (xp7 h1 (Nat.le_max_left _ _)) hs0 hs1 (xb2 hft (Nat.le_add_right _ _))
    have st : ∀ (Y : Fl × PSt), ya2 zt4 zu2 GN GS [some S, R, some (.bl flat), some (.int m), some (sD t cs n), some (.int salt), some (pcD p), x7, x8, x9] = some Y -> zn3 6 (ya2 zt4 zu2 GN GS) (zc5 (p :: r)) [some S, R, some (.bl flat), some (.int m), some (sD t cs n), some (.int salt), x6, x7, x8, x9] = (match Y with
        | (.nx, p) => zn3 6 (ya2 zt4 zu2 GN GS) (zc5 r) p
        | (.ct, p) => zn3 6 (ya2 zt4 zu2 GN GS) (zc5 r) p
        | (.bk, p) => some (.nx, p)
        | (.ret d, p) => some (.ret d, p)) := fun Y hY => by
      show zn3 6 _ (pcD p :: zc5 r) _ = _
      rw [zn3]
      show ((ya2 zt4 zu2 GN GS [some S, R, some (.bl flat), some (.int m), some (sD t cs n), some (.int salt), some (pcD p), x7, x8, x9]).bind _) = _
      rw [hY]; rfl
    cases ok with
    | false =>
      delta xr3
      rw [htk]
      refine ⟨false, t1, d1, n1, _, y7, y8, y9, st _ q, (nomatch ·), fun _ x => by rw [zl0, e2 rfl x]; rfl, fun a b => (by have := e3 a b; cases this), yt6 e4 (Nat.le_add_right _ _)⟩
    | true =>
      obtain ⟨ok, t2, d2, n2, z6, z7, z8, z9, q2, f1, f2, f3, f4⟩ := xp9 (R := R) (flat := flat) hS hN hG h0 hs0 hs1 r t1 (cs ++ d1) n1 (some (pcD p)) y7 y8 y9 (Nat.le_trans (Nat.le_max_right _ _) hd) ho.2 (xp7 h1 (Nat.le_max_right _ _)) (wl5 hft e4)
      rw [List.append_assoc] at q2
      delta xr3
      rw [htk]
      refine ⟨ok, t2, d1 ++ d2, n2, z6, z7, z8, z9, (st _ q).trans q2, fun h x => ?_, fun h x => ?_, f3, xy7 e4 f4⟩
      . rw [zl0, List.append_assoc, e1 rfl]; exact f1 h x
      . rw [zl0, List.append_assoc, e1 rfl]; exact f2 h x
noncomputable def zz5 (GN : List D -> Option (D × List D)) : Nat -> List D -> Option (D × List D)
  | 0 => fun _ => none
  | n + 1 => gE 6 4 (zd3 [false, false, false, false, true, false]) (yo4 zt4 zu2 GN (zz5 GN n))
theorem xu7 {GN : List D -> Option (D × List D)} (hS : S.imm = true) (hN : yu6 S GN) : ∀ (k : Nat) (r : List Pc), zi6 r < k -> okR r -> yx9 S (zz5 GN k) r
  | 0, _, h, _ => absurd h (Nat.not_lt_zero _)
  | k + 1, r, hd, ho => fun flat m t cs n salt h0 h1 hs0 hs1 hft => by
    obtain ⟨ok, t', ds, n', y6, y7, y8, y9, q, e⟩ := xp9 (GS := zz5 GN k) (k := k) (R := some (.tup (zc5 r))) (flat := flat) hS hN (fun s hs hk => xu7 hS hN k s hs hk) h0 hs0 hs1 r t cs n none none none none (Nat.le_of_lt_succ hd) ho h1 hft
    refine ⟨ok, t', ds, n', ?_, e⟩
    show gE 6 4 _ (yo4 zt4 zu2 GN (zz5 GN k)) _ = _
    have s1 : zu6 6 (zq7 (za0 1)) (ya2 zt4 zu2 GN (zz5 GN k)) [some S, some (.tup (zc5 r)), some (.bl flat), some (.int m), some (sD t cs n), some (.int salt), none, none, none, none] = _ := q
    have z : yo4 zt4 zu2 GN (zz5 GN k) ([S, .tup (zc5 r), .bl flat, .int m, sD t cs n, .int salt].map some ++ List.replicate 4 none) = some (.ret (.bl ok), [some S, some (.tup (zc5 r)), some (.bl flat), some (.int m), some (sD t' (cs ++ ds) n'), some (.int salt), y6, y7, y8, y9]) := by
      cases ok with
      | true => exact (za7 s1).trans rfl
      | false => exact zi5 s1
    unfold gE
    refine (if_pos rfl).trans ?_
    rw [z]; rfl
end
end My
namespace My
open PySem PySem.Spec PyProof.Rows L2 L3
section
variable {S : D} {GN : List D -> Option (D × List D)}
noncomputable abbrev yi6 (GS : List D -> Option (D × List D)) : List D -> Option D := gP 3 1 (xc3 GS)
theorem wl7 {GS : List D -> Option (D × List D)} {r : List Pc} {salt : Int} (hS : S.imm = true) (hL : yx9 S GS r) (hd : zi6 r <= 8) (hl : (zf5 r).length <= 800) (h0 : 0 <= salt) (h1 : salt <= 900) :
    ∃ C t, yi6 GS [S, .tup (zc5 r), .int salt] = some (.tup [.str t, .tup (zb1 C)]) /\ zl0 true 0 r C ⟨#[]⟩ = some ([], t) /\ C.length <= (zf5 r).length /\ t.length <= 900000 := by
  have pi := zk5 r
  have run : ∀ s : Int, 0 <= s -> s <= 900 -> ∃ ok t' ds n', GS [S, .tup (zc5 r), .bl false, .int 0, sD ⟨#[]⟩ [] 0, .int s] = some (.bl ok, [S, .tup (zc5 r), .bl false, .int 0, sD t' ds n', .int s]) /\ (ok = true -> zl0 true 0 r ds ⟨#[]⟩ = some ([], t')) /\ (s = 0 -> ok = true) /\ ds.length <= (zf5 r).length /\ t'.length <= 900000 := fun s s0 s1 => by
    obtain ⟨ok, t', ds, n', q, e1, e2, e3, _, e5, e6⟩ := hL false 0 ⟨#[]⟩ [] 0 s (Int.le_refl _) (by omega) s0 s1 ⟨by omega, by show 0 + _ <= _; omega, by show 0 + _ <= _; omega⟩
    exact ⟨ok, t', ds, n', q, fun h => by have := e1 h []; rwa [List.append_nil] at this, fun h => e3 h rfl, e6, (by have e5' : t'.length <= 0 + 101 * (zf5 r).length := e5; omega)⟩
  have st0 : ze2 (za1 (fC (.str "")) (za1 (ze2 za3) (za1 (fC (.int 0)) za3))) = fun _ => some (sD ⟨#[]⟩ [] 0) := by
    funext p
    refine zm3 (za9 rfl (za9 (d := .lst true []) rfl (za9 rfl rfl))) (by simp) |>.trans ?_
    rw [wk2]; rfl
  have fin : ∀ (t' : Str) (ds : List Int) (n' : Nat), zd4 (za5 (zh9 (za1 (zc0 (f2 dIx (za0 3) (fC (.int 0)))) (za1 (za4 zg8 (za1 (f2 dIx (za0 3) (fC (.int 1))) za3)) za3)))) [some S, some (.tup (zc5 r)), some (.int salt), some (sD t' ds n')] = some (.ret (.tup [.str t', .tup (zb1 ds)]), [some S, some (.tup (zc5 r)), some (.int salt), some (sD t' ds n')]) := fun t' ds n' => by
    have hi := zr3 ds
    refine zi2 ?_
    simp [zh9, za1, za3, zc0, f2, dIx, za0, fC, sD, zh3, zg6, za4, zg8, hi, D.imm, D.imms]
  have call : ∀ (s : Int) (f5 : PSt -> Option D) (ok : Bool) (t' : Str) (ds : List Int) (n' : Nat), f5 [some S, some (.tup (zc5 r)), some (.int salt), some (sD ⟨#[]⟩ [] 0)] = some (.int s) -> GS [S, .tup (zc5 r), .bl false, .int 0, sD ⟨#[]⟩ [] 0, .int s] = some (.bl ok, [S, .tup (zc5 r), .bl false, .int 0, sD t' ds n', .int s]) ->
      fIO [.im (za0 0), .im (za0 1), .im (fC (.bl false)), .im (fC (.int 0)), .io 3, .im f5] GS [some S, some (.tup (zc5 r)), some (.int salt), some (sD ⟨#[]⟩ [] 0)] = some (.bl ok, [some S, some (.tup (zc5 r)), some (.int salt), some (sD t' ds n')]) := fun s f5 ok t' ds n' h5 q => by
    generalize sD ⟨#[]⟩ [] 0 = s0 at h5 q |-
    generalize sD t' ds n' = s1 at q |-
    simp [fIO, zc7, zc0, za0, fC, hS, pi, D.imm, D.imms, h5, q, zi7]
  obtain ⟨ok, t', ds, n', q, e1, _, e6⟩ := run salt h0 h1
  have s0 : ∀ x, zb9 3 (za5 (ze2 (za1 (fC (.str "")) (za1 (ze2 za3) (za1 (fC (.int 0)) za3))))) [some S, some (.tup (zc5 r)), some (.int salt), x] = some (.nx, [some S, some (.tup (zc5 r)), some (.int salt), some (sD ⟨#[]⟩ [] 0)]) := fun x => by rw [st0]; rfl
  have c1 : fTE (fIO [.im (za0 0), .im (za0 1), .im (fC (.bl false)), .im (fC (.int 0)), .io 3, .im (za0 2)] GS) [some S, some (.tup (zc5 r)), some (.int salt), some (sD ⟨#[]⟩ [] 0)] = some (ok, [some S, some (.tup (zc5 r)), some (.int salt), some (sD t' ds n')]) := by
    unfold fTE
    rw [call salt (za0 2) ok t' ds n' rfl q]; rfl
  cases ok with
  | true => exact ⟨ds, t', zp4 rfl ((za7 (s0 _)).trans (zi5 ((yj2 c1).trans (fin t' ds n')))), e1 rfl, e6⟩
  | false =>
    obtain ⟨ok2, t2, d2, n2, q2, f1, f2, f6⟩ := run 0 (Int.le_refl _) (by decide)
    have hok := f2 rfl
    subst hok
    have c2 : zc2 (fIO [.im (za0 0), .im (za0 1), .im (fC (.bl false)), .im (fC (.int 0)), .io 3, .im (fC (.int 0))] GS) [some S, some (.tup (zc5 r)), some (.int salt), some (sD ⟨#[]⟩ [] 0)] = some (.nx, [some S, some (.tup (zc5 r)), some (.int salt), some (sD t2 d2 n2)]) := by
      unfold zc2
      rw [call 0 (fC (.int 0)) true t2 d2 n2 rfl q2]; rfl
    exact ⟨d2, t2, zp4 rfl ((za7 (s0 _)).trans ((za7 ((zt2 c1).trans rfl)).trans ((za7 (s0 _)).trans ((za7 c2).trans (fin t2 d2 n2))))), f1 rfl, f6⟩
end
end My
namespace My
open PySem PySem.Spec PyProof.Rows L2 L3
theorem xb5 : ∀ C : List Int, D.datas (zb1 C) = some (C.map PyData.int)
  | [] => rfl
  | c :: C => by
    show (D.data (.int c)).bind (fun p => (D.datas (zb1 C)).map (p :: ·)) = _
    rw [xb5 C]; rfl
theorem xq0 : ∀ C : List Int, PyData.canLayAll0 (C.map PyData.int) = true
  | [] => rfl
  | c :: C => by show (PyData.canLay0 (.int c) && PyData.canLayAll0 (C.map PyData.int)) = true; rw [xq0 C]; rfl
theorem xb6 : ∀ C : List Int, PyData.depthAll (C.map PyData.int) = 0
  | [] => rfl
  | c :: C => by show max (PyData.depth (.int c)) (PyData.depthAll (C.map PyData.int)) = 0; rw [xb6 C]; rfl
theorem xq1 : ∀ A B : List Int, PyData.eqvAll (A.map PyData.int) (B.map PyData.int) = decide (A = B)
  | [], [] => rfl
  | [], _ :: _ => rfl
  | _ :: _, [] => rfl
  | a :: A, b :: B => by
    show (PyData.eqv (.int a) (.int b) && PyData.eqvAll (A.map PyData.int) (B.map PyData.int)) = _
    rw [xq1 A B]
    show ((a == b) && decide (A = B)) = _
    rw [Bool.eq_iff_iff]
    simp [za5, za8, fB, f2, za0, fC, zc0, za1, za3, za4, dIx, zd7, fT, zd9, zd6, zf3, dB, zh4, dIs, zl6]
theorem wr6 (A B : List Int) : dEq (.tup (zb1 A)) (.tup (zb1 B)) = some (.bl (decide (A = B))) := by
  have e : ∀ c : List Int, D.data (.tup (zb1 c)) = some (.tuple (c.map PyData.int)) := fun c => by rw [D.data, xb5]; rfl
  have c1 : ∀ c : List Int, PyData.canLay0 (.tuple (c.map PyData.int)) = true := xq0
  have d : PyData.depth (.tuple (A.map PyData.int)) <= 60 := by
    show PyData.depthAll (A.map PyData.int) + 1 <= 60
    rw [xb6]; decide
  have q : PyData.eqv (.tuple (A.map PyData.int)) (.tuple (B.map PyData.int)) = decide (A = B) := xq1 A B
  show (yr8 (.tup (zb1 A)) (.tup (zb1 B))).map D.bl = _
  unfold yr8
  rw [e, e]
  show (if (PyData.canLay0 _ && PyData.canLay0 _ && decide (PyData.depth _ <= 60)) = true then some (PyData.eqv _ _) else none).map D.bl = _
  rw [c1, c1, decide_eq_true d, q]; rfl
theorem kc4 (A B : List Int) : dLt (.tup (zb1 A)) (.tup (zb1 B)) = some (.bl (HT.lexLt A B)) := by rw [dLt, xp2, xp2]; rfl
theorem xq2 : ∀ (a u v : List Int) (x y : Int), x ≠ y -> HT.lexLt (a ++ x :: u) (a ++ y :: v) = decide (x < y)
  | [], u, v, x, y, h => by show (if x = y then _ else _) = _; rw [if_neg h]
  | c :: a, u, v, x, y, h => by show (if c = c then _ else _) = _; rw [if_pos rfl]; exact xq2 a u v x y h
noncomputable abbrev yo9 : List D -> Option D := gP 2 0 ys0
noncomputable abbrev yi7 : List D -> Option D := gP 2 0 (yc5 yo9)
theorem xb7 (A B : List Int) : yo9 [.tup (zb1 A), .tup (zb1 B)] = some (.bl (HT.lexLt A B)) := zp4 rfl (zi2 (zb5 rfl rfl (kc4 A B)))
theorem yn6 {a u v : List Int} {x y : Int} (h : x < y) : yi7 [.tup (zb1 (a ++ x :: u)), .tup (zb1 (a ++ y :: v))] = some (.bl true) := by
  have q1 := xb7 (a ++ x :: u) (a ++ y :: v)
  have q2 := xb7 (a ++ y :: v) (a ++ x :: u)
  rw [xq2 a u v x y (by omega), decide_eq_true h] at q1
  rw [xq2 a v u y x (by omega), decide_eq_false (by omega)] at q2
  show gP 2 0 (yc5 yo9) _ = _
  generalize yo9 = G at q1 q2 |-
  simp [za5, za8, fB, f2, za0, fC, zc0, za1, za3, za4, dIx, zd7, fT, zd9, zd6, zf3, dB, zh4, dIs, zl6, gP, yc5, zd4, yi1, xg6, q1, q2]
noncomputable abbrev ym4 : List D -> Option D := gP 2 1 xc4
theorem xq3 : ∀ A B : List Int, A ≠ B -> (∀ x, B ≠ A ++ x) -> (∀ x, A ≠ B ++ x) -> ∃ a x y u v, A = a ++ x :: u /\ B = a ++ y :: v /\ x ≠ y
  | [], B, h, h1, _ => absurd rfl (h1 B)
  | A, [], h, _, h2 => absurd rfl (h2 A)
  | a :: A, b :: B, h, h1, h2 => by
    by_cases c : a = b
    . subst c
      obtain ⟨l, x, y, u, v, e1, e2, e3⟩ := xq3 A B (fun e => h (by rw [e])) (fun x e => h1 x (by rw [e]; rfl)) (fun x e => h2 x (by rw [e]; rfl))
      exact ⟨a :: l, x, y, u, v, by rw [e1]; rfl, by rw [e2]; rfl, e3⟩
    . exact ⟨[], a, b, A, B, rfl, rfl, c⟩
theorem xl0 {C : List Int} {k : Nat} {c : Int} (h : C[k]? = some c) : dIx (.tup (zb1 C)) (.int k) = some (.int c) := by
  show atI (zb1 C) (k : Int) = _
  exact zy7 (by unfold zb1; rw [List.getElem?_map, h]; rfl)
theorem xq4 {A B : List Int} : ∀ (n k : Nat) (y2 : Option D) (a u v : List Int) (x y : Int), A = a ++ x :: u -> B = a ++ y :: v -> x ≠ y -> k <= a.length -> a.length < k + n ->
    zn3 2 (fIf (za8 (fB (f2 dNe (f2 dIx (za0 0) (za0 2)) (f2 dIx (za0 1) (za0 2))))) (zk4 2) zc3) (zl3 (k : Int) n) [some (.tup (zb1 A)), some (.tup (zb1 B)), y2] = some (.ret (.int a.length), [some (.tup (zb1 A)), some (.tup (zb1 B)), none])
  | 0, k, y2, a, u, v, x, y, _, _, _, h1, h2 => absurd h2 (by omega)
  | n + 1, k, y2, a, u, v, x, y, eA, eB, hxy, h1, h2 => by
    have ed : zl3 (k : Int) (n + 1) = .int k :: zl3 ((k + 1 : Nat) : Int) n := by
      unfold zl3
      rw [List.range_succ_eq_map, List.map_cons, List.map_map]
      congr 1
      . simp [za5, za8, fB, f2, za0, fC, zc0, za1, za3, za4, dIx, zd7, fT, zd9, zd6, zf3, dB, zh4, dIs, zl6]
        intro j _
        omega
    rw [ed, zn3]
    show ((fIf (za8 (fB (f2 dNe (f2 dIx (za0 0) (za0 2)) (f2 dIx (za0 1) (za0 2))))) (zk4 2) zc3 [some (.tup (zb1 A)), some (.tup (zb1 B)), some (.int k)]).bind _) = _
    have step : ∀ p q : Int, A[k]? = some p -> B[k]? = some q -> za8 (fB (f2 dNe (f2 dIx (za0 0) (za0 2)) (f2 dIx (za0 1) (za0 2)))) [some (.tup (zb1 A)), some (.tup (zb1 B)), some (.int k)] = some (!decide (p = q), [some (.tup (zb1 A)), some (.tup (zb1 B)), some (.int k)]) := fun p q hp hq => by
      have e : f2 dNe (f2 dIx (za0 0) (za0 2)) (f2 dIx (za0 1) (za0 2)) [some (.tup (zb1 A)), some (.tup (zb1 B)), some (.int k)] = some (.bl (!decide (p = q))) := zb5 (zb5 rfl rfl (xl0 hp)) (zb5 rfl rfl (xl0 hq)) rfl
      unfold za8 fB
      rw [e]; rfl
    by_cases c : k = a.length
    . subst c
      have s := step x y (by rw [eA]; simp [za5, za8, fB, f2, za0, fC, zc0, za1, za3, za4, dIx, zd7, fT, zd9, zd6, zf3, dB, zh4, dIs, zl6]) (by rw [eB]; simp [za5, za8, fB, f2, za0, fC, zc0, za1, za3, za4, dIx, zd7, fT, zd9, zd6, zf3, dB, zh4, dIs, zl6])
      rw [decide_eq_false hxy] at s
      rw [(yj2 s)]; rfl
    . have hk : k < a.length := by omega
      have s := step a[k] a[k] (by rw [eA, List.getElem?_append_left hk, List.getElem?_eq_getElem hk]) (by rw [eB, List.getElem?_append_left hk, List.getElem?_eq_getElem hk])
      rw [decide_eq_true rfl] at s
      rw [(zt2 s)]
      exact xq4 n (k + 1) _ a u v x y eA eB hxy (by omega) (by omega)
theorem ka2 (m n : Nat) : yj5 [.int m, .int n] = some (.int ((min m n : Nat) : Int)) := by
  unfold yj5
  simp only
  by_cases h : (n : Int) < (m : Int)
  . rw [if_pos h]; congr 2; omega
  . rw [if_neg h]; congr 2; omega
theorem wl8 {a u v : List Int} {x y : Int} (h : x ≠ y) (hl : (a ++ x :: u).length <= 1000) (hl2 : (a ++ y :: v).length <= 1000) : ym4 [.tup (zb1 (a ++ x :: u)), .tup (zb1 (a ++ y :: v))] = some (.int a.length) := by
  have q := xq4 (min (a ++ x :: u).length (a ++ y :: v).length) 0 none a u v x y rfl rfl h (Nat.zero_le _) (by simp only [List.length_append, List.length_cons]; omega)
  generalize hA : a ++ x :: u = A at *
  generalize hB : a ++ y :: v = B at *
  have hi : zt3 (za1 (za4 yj5 (za1 (za4 zd7 (za1 (za0 0) za3)) (za1 (za4 zd7 (za1 (za0 1) za3)) za3))) za3) [some (.tup (zb1 A)), some (.tup (zb1 B)), none] = some (zl3 0 (min A.length B.length)) := by
    have e1 : za4 zd7 (za1 (za0 0) za3) [some (.tup (zb1 A)), some (.tup (zb1 B)), none] = some (.int A.length) := by
      refine zd8 (za9 rfl rfl) ?_
      show some (D.int ((zb1 A).length : Nat)) = _
      rw [zv0]
    have e2 : za4 zd7 (za1 (za0 1) za3) [some (.tup (zb1 A)), some (.tup (zb1 B)), none] = some (.int B.length) := by
      refine zd8 (za9 rfl rfl) ?_
      show some (D.int ((zb1 B).length : Nat)) = _
      rw [zv0]
    have e3 : za1 (za4 yj5 (za1 (za4 zd7 (za1 (za0 0) za3)) (za1 (za4 zd7 (za1 (za0 1) za3)) za3))) za3 [some (.tup (zb1 A)), some (.tup (zb1 B)), none] = some [.int ((min A.length B.length : Nat) : Int)] := za9 (zd8 (za9 e1 (za9 e2 rfl)) (ka2 _ _)) rfl
    unfold zt3
    rw [e3, Option.bind_some, xf7 (by omega) (by omega)]; rfl
  refine zp4 (p := [some (.tup (zb1 A)), some (.tup (zb1 B)), none]) rfl (zi5 ?_)
  unfold zu6
  show (zt3 _ [some (.tup (zb1 A)), some (.tup (zb1 B)), none]).bind _ = _
  rw [hi]; exact q
end My
namespace My
open PySem PySem.Spec PyProof.Rows L2 L3
noncomputable def ifR (GM : List D -> Option D) (GS : List D -> Option (D × List D)) (GL : List D -> Option D) : PSt -> Option (Fl × PSt) :=
  (fIf (za8 (zf8 (fB (f2 dLt (za0 7) (fC (.int 4)))) (fB (f2 dLe (za4 zd7 (za1 (za0 4) za3)) (za0 3)))))
   (zb3 (zb9 9 (za5 (f2 dIx (ze2 (fKs [.str "group", .str "group", .str "hang", .str "either"])) (za0 7))))
  (zc2 (zd1 4 zb7 (za1 (ze2 (za1 (zc0 (za0 9)) (za1 (f2 dIx (ze2 (za1 (fC (.int 1)) (za1 (fC (.int 2)) (za1 (fC (.int 4)) (za1 (f2 zh1 (f2 zl8 (za0 6) (fC (.int 13))) (fC (.int 13))) za3))))) (f2 zh1 (f2 zl8 (za0 6) (fC (.int 169))) (fC (.int 4)))) (za1 (ze2 za3) (za1 (ze2 za3) za3))))) za3) zc8)))
   (fIf (za8 (zf8 (fB (f2 dEq (za0 7) (fC (.int 4)))) (fB (f2 dGt (za4 zd7 (za1 (za0 4) za3)) (fC (.int 1))))))
   (zc2 (fIO [.io 4] GS))
   (fIf (za8 (zf8 (fB (f2 dLt (za0 7) (fC (.int 7)))) (zf8 (fB (f2 dEq (za0 8) (fC (.str "either")))) (fB (f2 dLt (za4 zd7 (za1 (f2 dIx (f2 dIx (za0 4) (zk3 (fC (.int 1)))) (fC (.int 2))) za3)) (fC (.int 3)))))))
   (zb3 (zc2 (zd1 4 (zh7 4 (zh7 4 zb7 (zk3 (fC (.int 1)))) (fC (.int 2))) (za1 (za4 zg8 (za1 (f2 dIx (f2 dIx (za0 4) (zk3 (fC (.int 1)))) (fC (.int 3))) za3)) za3) zc8))
  (zi0 4 (zh7 4 zb7 (zk3 (fC (.int 1)))) (fC (.int 3)) (ze2 za3)))
   (zc2 (zd1 4 (zh7 4 (zh7 4 zb7 (zk3 (fC (.int 1)))) (fC (.int 3))) (za1 (za4 GL (za1 (za4 GM (za1 (za0 0) (za1 (za0 5) (za1 (fC (.int 32)) za3)))) za3)) za3) zc8)))))
noncomputable def yp0 (GM : List D -> Option D) (GS : List D -> Option (D × List D)) (GL : List D -> Option D) : PSt -> Option (Fl × PSt) :=
   (zb3 (zb9 6 (za5 (za4 GM (za1 (za0 0) (za1 (za0 5) (za1 (fC (.int 31)) za3))))))
  (zb3 (zb9 7 (za5 (f2 zh1 (za0 6) (fC (.int 13)))))
  (zb3 (zb9 8 (za5 (zc0 (f2 dIx (f2 dIx (za0 4) (zk3 (fC (.int 1)))) (fC (.int 0))))))
  (ifR GM GS GL))))
section
variable {GM : List D -> Option D} {GS : List D -> Option (D × List D)} {GL : List D -> Option D} {S : D} {x1 x2 x6 x7 x8 x9 : Option D} {nest : Nat} {f : Gm} {fs : List Gm} {i m : Int}
theorem wg2 (hm : GM [S, .int i, .int 31] = some (.int m)) : yp0 GM GS GL [some S, x1, x2, some (.int nest), some (.lst true (zf7 (f :: fs))), some (.int i), x6, x7, x8, x9]
    = ifR GM GS GL [some S, x1, x2, some (.int nest), some (.lst true (zf7 (f :: fs))), some (.int i), some (.int m), some (.int (m % 13)), some (.str (kdS f.kd)), x9] := by
  unfold yp0
  refine (za7 (zf6 (zd8 rfl hm))).trans ?_
  refine (za7 (zf6 (d := .int (m % 13)) (by simp [zb3, zc3, zb9, za5, fIf, za8, fB, f2, za0, fC, zc0, zd4, zc2, zd1, zb7, ze0, ze9, za1, za3, ze2, zh9, fKs, za4, dEq, dNe, eqB, dB, dIx, zd7, zc8, D.imm, D.imms, zg8, zc9, fT, zd9, ze1, zh3, zg6, zm5, zh7, zi0, zm6, zk3, zf8, zk8, zh4, dLt, dLe, dGt, dGe, fIO, zc7, zi7, zd6, zf3, zo2, zo3, yf7, L2.zq0, yc0, yc1, zs4]))).trans ?_
  exact za7 (zf6 (d := .str (kdS f.kd)) (by simp [zb3, zc3, zb9, za5, fIf, za8, fB, f2, za0, fC, zc0, zd4, zc2, zd1, zb7, ze0, ze9, za1, za3, ze2, zh9, fKs, za4, dEq, dNe, eqB, dB, dIx, zd7, zc8, D.imm, D.imms, zg8, zc9, fT, zd9, ze1, zh3, zg6, zm5, zh7, zi0, zm6, zk3, zf8, zk8, zh4, dLt, dLe, dGt, dGe, fIO, zc7, zi7, zd6, zf3, zo2, zo3, yf7, L2.zq0, yc0, yc1, zs4, zf7, gmD]))
theorem wx1 (a k : Int) (ha : 0 <= a /\ a <= 12) : ∃ n : Int, atI [D.int 1, .int 2, .int 4, .int a] (k % 4) = some (.int n) /\ 0 <= n /\ n <= 12 := by
  have h0 := Int.emod_nonneg k (show (4 : Int) ≠ 0 by decide)
  have h1 := Int.emod_lt_of_pos k (show (0 : Int) < 4 by decide)
  obtain ⟨d, hd, e⟩ := yd6 [D.int 1, .int 2, .int 4, .int a] (k % 4) h0 (by simpa using h1)
  simp only [List.mem_cons, List.not_mem_nil, or_false] at hd
  rcases hd with rfl | rfl | rfl | rfl
  . exact ⟨_, e, by decide, by decide⟩
  . exact ⟨_, e, by decide, by decide⟩
  . exact ⟨_, e, by decide, by decide⟩
  . exact ⟨_, e, ha⟩
theorem wr7 (m : Int) (h0 : 0 <= m % 13) (h : m % 13 < 4) : ∃ kd : Nat, atI [D.str (Str.ofString "group"), .str (Str.ofString "group"), .str (Str.ofString "hang"), .str (Str.ofString "either")] (m % 13) = some (.str (kdS kd)) /\ 1 <= kd /\ kd <= 3 := by
  have hn : m % 13 = 0 \/ m % 13 = 1 \/ m % 13 = 2 \/ m % 13 = 3 := by omega
  rcases hn with e | e | e | e <;> rw [e]
  . exact ⟨1, rfl, by decide, by decide⟩
  . exact ⟨1, rfl, by decide, by decide⟩
  . exact ⟨2, rfl, by decide, by decide⟩
  . exact ⟨3, rfl, by decide, by decide⟩
theorem xb8 {a b : Prop} [Decidable a] [Decidable b] (h : ¬ (a /\ b)) : (decide a && decide b) = false := by
  by_cases ha : a
  . rw [decide_eq_false (fun hb => h ⟨ha, hb⟩), Bool.and_false]
  . rw [decide_eq_false ha, Bool.false_and]
theorem xu8 {a b : Prop} [Decidable a] [Decidable b] (ha : a) (hb : b) : (decide a && decide b) = true := by rw [decide_eq_true ha, decide_eq_true hb]; rfl
theorem xb9 {f g : PSt -> Option Bool} {p : PSt} {a b : Bool} (h1 : f p = some a) (h2 : g p = some b) : zf8 f g p = some (a && b) := by
  cases a with
  | true => exact zu5 h1 h2
  | false => exact zx6 h1
theorem xz0 {N : List D} {w : Int} {x0 x5 x6 : Option D} : zf8 (fB (f2 dLt (za0 7) (fC (.int 4)))) (fB (f2 dLe (za4 zd7 (za1 (za0 4) za3)) (za0 3))) [x0, x1, x2, some (.int nest), some (.lst true N), x5, x6, some (.int w), x8, x9] = some (decide (w < 4) && decide ((N.length : Int) <= (nest : Int))) :=
  xb9 (zq6 (zb5 rfl rfl rfl)) (zq6 (zb5 (zd8 (za9 rfl rfl) rfl) rfl rfl))
theorem wn6 {N : List D} {w : Int} {x0 x3 x5 x6 : Option D} : zf8 (fB (f2 dEq (za0 7) (fC (.int 4)))) (fB (f2 dGt (za4 zd7 (za1 (za0 4) za3)) (fC (.int 1)))) [x0, x1, x2, x3, some (.lst true N), x5, x6, some (.int w), x8, x9] = some (decide (w = 4) && decide ((1 : Int) < (N.length : Int))) :=
  xb9 (zq6 (zb5 rfl rfl rfl)) (zq6 (zb5 (zd8 (za9 rfl rfl) rfl) rfl rfl))
theorem xu9 {p : PSt} {j : Nat} {M : List D} {d : D} (hp : p[j]? = some (some (.lst true (M ++ [d])))) : f2 dIx (za0 j) (zk3 (fC (.int 1))) p = some d := zb5 (yl9 hp) rfl (show atI (M ++ [d]) (-1) = _ from L2.zq0 _ _)
theorem wn7 {M R : List D} {w : Int} {k : String} {a b c : D} {x0 x3 x5 x6 : Option D} : zf8 (fB (f2 dLt (za0 7) (fC (.int 7)))) (zf8 (fB (f2 dEq (za0 8) (fC (.str "either")))) (fB (f2 dLt (za4 zd7 (za1 (f2 dIx (f2 dIx (za0 4) (zk3 (fC (.int 1)))) (fC (.int 2))) za3)) (fC (.int 3))))) [x0, x1, x2, x3, some (.lst true (M ++ [.lst true [a, b, .lst true R, c]])), x5, x6, some (.int w), some (.str k), x9] = some (decide (w < 7) && (decide (k = "either") && decide ((R.length : Int) < 3))) := by
  refine xb9 (zq6 (zb5 rfl rfl rfl)) (xb9 (zq6 (zb5 rfl rfl ?_)) (zq6 (zb5 (zd8 (za9 (zb5 (xu9 (j := 4) rfl) rfl (zm5 _ _ _ _)) rfl) rfl) rfl rfl)))
  show some (D.bl (decide ((k : Str) = (("either" : String) : Str)))) = _
  congr 2
  exact decide_eq_decide.mpr (by rw [ze1])
theorem wg3 {p : PSt} {j : Nat} {M : List D} {k n : Nat} {l : List D} (hp : p[j]? = some (some (.lst true (M ++ [.lst true l])))) (hk : ixN l.length (k : Int) = some n) : zh7 j (zh7 j zb7 (zk3 (fC (.int 1)))) (fC (.int (k : Int))) p = some [.ix M.length, .ix n] := by
  have e1 : ixN (M ++ [D.lst true l]).length (-1) = some M.length := by rw [List.length_append]; exact zo2 _
  have e2 : (M ++ [D.lst true l])[M.length]? = some (.lst true l) := by simp [zb3, zc3, zb9, za5, fIf, za8, fB, f2, za0, fC, zc0, zd4, zc2, zd1, zb7, ze0, ze9, za1, za3, ze2, zh9, fKs, za4, dEq, dNe, eqB, dB, dIx, zd7, zc8, D.imm, D.imms, zg8, zc9, fT, zd9, ze1, zh3, zg6, zm5, zh7, zi0, zm6, zk3, zf8, zk8, zh4, dLt, dLe, dGt, dGe, fIO, zc7, zi7, zd6, zf3, zo2, zo3, yf7, L2.zq0, yc0, yc1, zs4]
  simp [zb3, zc3, zb9, za5, fIf, za8, fB, f2, za0, fC, zc0, zd4, zc2, zd1, zb7, ze0, ze9, za1, za3, ze2, zh9, fKs, za4, dEq, dNe, eqB, dB, dIx, zd7, zc8, D.imm, D.imms, zg8, zc9, fT, zd9, ze1, zh3, zg6, zm5, zh7, zi0, zm6, zk3, zf8, zk8, zh4, dLt, dLe, dGt, dGe, fIO, zc7, zi7, zd6, zf3, zo2, zo3, yf7, L2.zq0, yc0, yc1, zs4, zh7, zb7, hp, ze9, e1, e2, hk, zk3, fC]
theorem wl9 {α : Type} {h : D -> Option (α × D)} {M l : List D} {n : Nat} {d d' : D} {r : α} (hl : l[n]? = some d) (e : h d = some (r, d')) : ze0 h (.lst true (M ++ [.lst true l])) [.ix M.length, .ix n] = some (r, .lst true (M ++ [.lst true (l.set n d')])) := by
  have e2 : (M ++ [D.lst true l])[M.length]? = some (.lst true l) := by simp [zb3, zc3, zb9, za5, fIf, za8, fB, f2, za0, fC, zc0, zd4, zc2, zd1, zb7, ze0, ze9, za1, za3, ze2, zh9, fKs, za4, dEq, dNe, eqB, dB, dIx, zd7, zc8, D.imm, D.imms, zg8, zc9, fT, zd9, ze1, zh3, zg6, zm5, zh7, zi0, zm6, zk3, zf8, zk8, zh4, dLt, dLe, dGt, dGe, fIO, zc7, zi7, zd6, zf3, zo2, zo3, yf7, L2.zq0, yc0, yc1, zs4]
  show (((M ++ [D.lst true l])[M.length]?).bind _) = _
  rw [e2, Option.bind_some]
  show (((l[n]?).bind _).bind _) = _
  rw [hl, Option.bind_some]
  show (((h d).bind _).bind _) = _
  rw [e]
  show some (r, D.lst true ((M ++ [D.lst true l]).set M.length _)) = _
  rw [zo3]
theorem xq5 {p : PSt} {j k n : Nat} {M l xs : List D} {fe : PSt -> Option D} {y : D} (hp : p[j]? = some (some (.lst true (M ++ [.lst true l])))) (hk : ixN l.length (k : Int) = some n) (hl : l[n]? = some (.lst true xs)) (h : fe p = some y) (hz : xs.length < sizeLine) : zc2 (zd1 j (zh7 j (zh7 j zb7 (zk3 (fC (.int 1)))) (fC (.int (k : Int)))) (za1 fe za3) zc8) p = some (.nx, p.set j (some (.lst true (M ++ [.lst true (l.set n (.lst true (xs ++ [y])))])))) := by
  refine yh8 (d := .non) ?_
  unfold zd1
  rw [hp, Option.join_some, Option.bind_some, wg3 hp hk, Option.bind_some, za9 h rfl, Option.bind_some, wl9 hl (show zc8 [y] (.lst true xs) = _ from if_pos hz)]
  rfl
theorem xz1 {p : PSt} {j k n : Nat} {M l : List D} {fe : PSt -> Option D} {y : D} (hp : p[j]? = some (some (.lst true (M ++ [.lst true l])))) (hk : ixN l.length (k : Int) = some n) (h : fe p = some y) : zi0 j (zh7 j zb7 (zk3 (fC (.int 1)))) (fC (.int (k : Int))) fe p = some (.nx, p.set j (some (.lst true (M ++ [.lst true (l.set n y)])))) := by
  have e1 : ixN (M ++ [D.lst true l]).length (-1) = some M.length := by rw [List.length_append]; exact zo2 _
  have e2 : (M ++ [D.lst true l])[M.length]? = some (.lst true l) := by simp [zb3, zc3, zb9, za5, fIf, za8, fB, f2, za0, fC, zc0, zd4, zc2, zd1, zb7, ze0, ze9, za1, za3, ze2, zh9, fKs, za4, dEq, dNe, eqB, dB, dIx, zd7, zc8, D.imm, D.imms, zg8, zc9, fT, zd9, ze1, zh3, zg6, zm5, zh7, zi0, zm6, zk3, zf8, zk8, zh4, dLt, dLe, dGt, dGe, fIO, zc7, zi7, zd6, zf3, zo2, zo3, yf7, L2.zq0, yc0, yc1, zs4]
  have ep : zh7 j zb7 (zk3 (fC (.int 1))) p = some [.ix M.length] := by simp [zb3, zc3, zb9, za5, fIf, za8, fB, f2, za0, fC, zc0, zd4, zc2, zd1, zb7, ze0, ze9, za1, za3, ze2, zh9, fKs, za4, dEq, dNe, eqB, dB, dIx, zd7, zc8, D.imm, D.imms, zg8, zc9, fT, zd9, ze1, zh3, zg6, zm5, zh7, zi0, zm6, zk3, zf8, zk8, zh4, dLt, dLe, dGt, dGe, fIO, zc7, zi7, zd6, zf3, zo2, zo3, yf7, L2.zq0, yc0, yc1, zs4, zh7, zb7, hp, ze9, e1, zk3, fC]
  unfold zi0
  rw [h, Option.bind_some, hp, Option.join_some, Option.bind_some, ep, Option.bind_some]
  show ((ze0 (zm6 (.int (k : Int)) y) (.lst true (M ++ [.lst true l])) [.ix M.length]).bind _) = _
  have em : ze0 (zm6 (.int (k : Int)) y) (.lst true (M ++ [.lst true l])) [.ix M.length] = some ((), .lst true (M ++ [.lst true (l.set n y)])) := by
    show (((M ++ [D.lst true l])[M.length]?).bind _) = _
    rw [e2, Option.bind_some]
    show (((ixN l.length (k : Int)).bind _).bind _) = _
    rw [hk]
    show some ((), D.lst true ((M ++ [D.lst true l]).set M.length _)) = _
    rw [zo3]
  rw [em]; rfl
theorem wg4 (hw : m % 13 < 4) (hl : (f :: fs).length <= nest) (hz : (f :: fs).length <= 900) : ∃ kd n y9, ifR GM GS GL [some S, x1, x2, some (.int nest), some (.lst true (zf7 (f :: fs))), some (.int i), some (.int m), some (.int (m % 13)), x8, x9]
    = some (.nx, [some S, x1, x2, some (.int nest), some (.lst true (zf7 (⟨kd, n, [], []⟩ :: f :: fs))), some (.int i), some (.int m), some (.int (m % 13)), x8, y9]) /\ (1 <= kd /\ kd <= 3) /\ 0 <= n /\ n <= 12 := by
  have h0 := Int.emod_nonneg m (show (13 : Int) ≠ 0 by decide)
  have d0 := Int.emod_nonneg (m / 13) (show (13 : Int) ≠ 0 by decide)
  have d1 := Int.emod_lt_of_pos (m / 13) (show (0 : Int) < 13 by decide)
  obtain ⟨kd, q1, hk1, hk2⟩ := wr7 m h0 hw
  obtain ⟨n, q2, hn1, hn2⟩ := wx1 (m / 13 % 13) (m / 169) ⟨d0, Int.le_of_lt_add_one d1⟩
  have hz' : (zf7 (f :: fs)).length < sizeLine := by rw [ye0]; exact sz1 (by omega)
  have hl' : ((zf7 (f :: fs)).length : Int) <= (nest : Int) := by rw [ye0]; exact Int.ofNat_le.mpr hl
  refine ⟨kd, n, some (.str (kdS kd)), ?_, ⟨hk1, hk2⟩, hn1, hn2⟩
  have e : zf7 (⟨kd, n, [], []⟩ :: f :: fs) = zf7 (f :: fs) ++ [.lst true [.str (kdS kd), .int n, .lst true [], .lst true []]] := rfl
  rw [e]
  generalize zf7 (f :: fs) = N at hz' hl' |-
  unfold ifR
  refine (zi1 (xz0.trans (by rw [xu8 hw hl']))).trans ((za7 (zf6 (zb5 (zm3 rfl (Nat.le_of_ble_eq_true rfl)) rfl q1))).trans ?_)
  refine yh8 (d := .non) ?_
  unfold zd1
  rw [za9 (zm3 (za9 (zm4 (d := .str (kdS kd)) rfl rfl) (za9 (zb5 (zm3 (za9 rfl (za9 rfl (za9 rfl (za9 (zb5 (zb5 rfl rfl ((zf3 _ _).trans (if_pos (by decide)))) rfl ((zd6 _ _).trans (if_pos (by decide)))) rfl)))) (Nat.le_of_ble_eq_true rfl)) (zb5 (zb5 rfl rfl ((zf3 _ _).trans (if_pos (by decide)))) rfl ((zd6 _ _).trans (if_pos (by decide)))) q2) (za9 (zm3 rfl (Nat.le_of_ble_eq_true rfl)) (za9 (zm3 rfl (Nat.le_of_ble_eq_true rfl)) rfl)))) (Nat.le_of_ble_eq_true rfl)) rfl]
  show ((zc8 [.lst true [.str (kdS kd), .int n, .lst true [], .lst true []]] (.lst true N)).bind _) = _
  rw [show zc8 [.lst true [.str (kdS kd), .int n, .lst true [], .lst true []]] (.lst true N) = _ from if_pos hz']
  rfl
theorem wg5 {g : Gm} (q : GS [.lst true (zf7 (f :: g :: fs))] = some (.non, [.lst true (zf7 (zw5 g (zp1 f) :: fs))])) (hw : m % 13 = 4) :
    ifR GM GS GL [some S, x1, x2, some (.int nest), some (.lst true (zf7 (f :: g :: fs))), some (.int i), some (.int m), some (.int (m % 13)), x8, x9]
    = some (.nx, [some S, x1, x2, some (.int nest), some (.lst true (zf7 (zw5 g (zp1 f) :: fs))), some (.int i), some (.int m), some (.int (m % 13)), x8, x9]) := by
  have hl : (1 : Int) < ((zf7 (f :: g :: fs)).length : Int) := by rw [ye0]; simp; omega
  unfold ifR
  exact (zt2 (zx5 (xz0.trans (by rw [xb8 (fun z => by omega)])))).trans ((zi1 (wn6.trans (by rw [xu8 hw hl]))).trans (yh8 (yr4 (ym0 rfl yd8) q rfl)))
theorem xv0 (hw : ¬ (m % 13 < 4 /\ (f :: fs).length <= nest)) (hw4 : ¬ (m % 13 = 4 /\ fs ≠ [])) {F1 F2 F3 : PSt -> Option (Fl × PSt)} : fIf (za8 (zf8 (fB (f2 dLt (za0 7) (fC (.int 4)))) (fB (f2 dLe (za4 zd7 (za1 (za0 4) za3)) (za0 3))))) F1 (fIf (za8 (zf8 (fB (f2 dEq (za0 7) (fC (.int 4)))) (fB (f2 dGt (za4 zd7 (za1 (za0 4) za3)) (fC (.int 1)))))) F2 F3) [some S, x1, x2, some (.int nest), some (.lst true (zf7 (f :: fs))), some (.int i), some (.int m), some (.int (m % 13)), x8, x9]
    = F3 [some S, x1, x2, some (.int nest), some (.lst true (zf7 (f :: fs))), some (.int i), some (.int m), some (.int (m % 13)), x8, x9] := by
  have hl : (zf7 (f :: fs)).length = (f :: fs).length := ye0 _
  have hn : ¬ (m % 13 = 4 /\ (1 : Int) < ((f :: fs).length : Int)) := fun z => hw4 ⟨z.1, fun e => by rw [e] at z; exact absurd z.2 (Int.lt_irrefl 1)⟩
  exact (zt2 (zx5 (xz0.trans (by rw [hl, xb8 (fun z => hw ⟨z.1, Int.ofNat_le.mp z.2⟩)])))).trans (zt2 (zx5 (wn6.trans (by rw [hl, xb8 hn]))))
theorem wr8 (hw : ¬ (m % 13 < 4 /\ (f :: fs).length <= nest)) (hw4 : ¬ (m % 13 = 4 /\ fs ≠ [])) (hw7 : m % 13 < 7) (hk : f.kd = 3) (hf : f.full.length < 3) :
    ifR GM GS GL [some S, x1, x2, some (.int nest), some (.lst true (zf7 (f :: fs))), some (.int i), some (.int m), some (.int (m % 13)), some (.str (kdS f.kd)), x9]
    = some (.nx, [some S, x1, x2, some (.int nest), some (.lst true (zf7 ({ f with full := f.full ++ [f.parts], parts := [] } :: fs))), some (.int i), some (.int m), some (.int (m % 13)), some (.str (kdS f.kd)), x9]) := by
  unfold ifR
  refine (xv0 hw hw4).trans ?_
  obtain ⟨kd, n, full, parts⟩ := f
  have hk' : kd = 3 := hk
  subst hk'
  have hz : (zg3 full).length < sizeLine := by rw [zu9]; exact sz1 (by have : full.length < 3 := hf; omega)
  have hf' : ((zg3 full).length : Int) < 3 := by rw [zu9]; exact Int.ofNat_lt.mpr hf
  have er : zg3 (full ++ [parts]) = zg3 full ++ [.tup (zc5 parts)] := by rw [yr2]; rfl
  have b3 : (decide (m % 13 < 7) && (decide (kdS 3 = "either") && decide (((zg3 full).length : Int) < 3))) = true := by rw [decide_eq_true hw7, decide_eq_true hf']; rfl
  have s1 := xq5 (p := [some S, x1, x2, some (.int nest), some (.lst true (zf7 (⟨3, n, full, parts⟩ :: fs))), some (.int i), some (.int m), some (.int (m % 13)), some (.str (kdS 3)), x9]) (j := 4) (k := 2) (n := 2) (M := zf7 fs) (fe := za4 zg8 (za1 (f2 dIx (f2 dIx (za0 4) (zk3 (fC (.int 1)))) (fC (.int 3))) za3)) rfl rfl rfl (zd8 (za9 (zb5 (xu9 (M := zf7 fs) rfl) rfl (kc2 _ _ _ _)) rfl) (if_pos (zk5 parts))) hz
  rw [<- er] at s1
  have s2 := xz1 (p := [some S, x1, x2, some (.int nest), some (.lst true (zf7 fs ++ [.lst true [.str (kdS 3), .int n, .lst true (zg3 (full ++ [parts])), .lst true (zc5 parts)]])), some (.int i), some (.int m), some (.int (m % 13)), some (.str (kdS 3)), x9]) (j := 4) (k := 3) (n := 3) (M := zf7 fs) (fe := ze2 za3) (y := .lst true []) rfl rfl (zm3 rfl (Nat.le_of_ble_eq_true rfl))
  exact (zi1 (wn7.trans (congrArg some b3))).trans ((za7 s1).trans s2)
theorem wg6 {l : Leaf} {m2 : Int} (hm2 : GM [S, .int i, .int 32] = some (.int m2)) (hL : GL [.int m2] = some (zh8 l)) (hz : f.parts.length <= 900)
    (hw : ¬ (m % 13 < 4 /\ (f :: fs).length <= nest)) (hw4 : ¬ (m % 13 = 4 /\ fs ≠ [])) (h3 : ¬ (m % 13 < 7 /\ f.kd = 3 /\ f.full.length < 3)) (hkd : f.kd <= 3) :
    ifR GM GS GL [some S, x1, x2, some (.int nest), some (.lst true (zf7 (f :: fs))), some (.int i), some (.int m), some (.int (m % 13)), some (.str (kdS f.kd)), x9]
    = some (.nx, [some S, x1, x2, some (.int nest), some (.lst true (zf7 (zw5 f (.leaf l) :: fs))), some (.int i), some (.int m), some (.int (m % 13)), some (.str (kdS f.kd)), x9]) := by
  have hz' : (zc5 f.parts).length < sizeLine := by rw [yx0]; exact sz1 (by omega)
  have ep : zc5 (f.parts ++ [.leaf l]) = zc5 f.parts ++ [zh8 l] := by rw [yw9]; rfl
  have b3 : (decide (m % 13 < 7) && (decide (kdS f.kd = "either") && decide (((zg3 f.full).length : Int) < 3))) = false := by
    by_cases a1 : m % 13 < 7
    . rw [xb8, Bool.and_false]
      intro ⟨z1, z2⟩
      rw [zu9] at z2
      have hk : f.kd = 0 \/ f.kd = 1 \/ f.kd = 2 \/ f.kd = 3 := by omega
      rcases hk with e | e | e | e
      . rw [e] at z1; exact absurd z1 (by decide)
      . rw [e] at z1; exact absurd z1 (by decide)
      . rw [e] at z1; exact absurd z1 (by decide)
      . exact h3 ⟨a1, e, Int.ofNat_lt.mp z2⟩
    . rw [decide_eq_false a1, Bool.false_and]
  unfold ifR
  refine (xv0 hw hw4).trans ((zt2 (zx5 (wn7.trans (by rw [b3])))).trans ?_)
  have e : zf7 (zw5 f (.leaf l) :: fs) = zf7 fs ++ [.lst true [.str (kdS f.kd), .int f.n, .lst true (zg3 f.full), .lst true (zc5 f.parts ++ [zh8 l])]] := by rw [<- ep]; rfl
  rw [e]
  have s1 := xq5 (p := [some S, x1, x2, some (.int nest), some (.lst true (zf7 (f :: fs))), some (.int i), some (.int m), some (.int (m % 13)), some (.str (kdS f.kd)), x9]) (j := 4) (k := 3) (n := 3) (M := zf7 fs) (fe := za4 GL (za1 (za4 GM (za1 (za0 0) (za1 (za0 5) (za1 (fC (.int 32)) za3)))) za3)) rfl rfl rfl (zd8 (za9 (zd8 (za9 rfl (za9 rfl (za9 rfl rfl))) hm2) rfl) hL) hz'
  exact s1
end
end My
namespace My
open PySem PySem.Spec PyProof.Rows L2 L3
section
variable {GM : List D -> Option D} {GS : List D -> Option (D × List D)} {GL : List D -> Option D} {S : D} {x1 x2 x6 x7 x8 x9 : Option D} {nest k : Nat} {fs : List Gm} {i : Int}
theorem xz2 {f : Gm} {fs : List Gm} (h : xr1 (f :: fs)) : f.kd <= 3 := by
  cases fs with
  | nil => have : f.kd = 0 := h; omega
  | cons g fs => exact h.1.2
theorem wr9 (hS : ∀ (f g : Gm) (fs : List Gm), (1 <= f.kd /\ f.kd <= 3) -> (f.kd ≠ 3 -> f.full = []) -> f.full.length <= 3 -> g.parts.length <= 900 -> GS [.lst true (zf7 (f :: g :: fs))] = some (.non, [.lst true (zf7 (zw5 g (zp1 f) :: fs))]))
    (hL : ∀ m, 0 <= m -> ∃ l, GL [.int m] = some (zh8 l) /\ zu7 l) (hM : ∀ s : Int, s = 31 \/ s = 32 -> ∃ m, GM [S, .int i, .int s] = some (.int m) /\ 0 <= m) (h : GInv nest k fs) (hk : 4 * k + 4 <= 800) (hn : nest <= 100) :
    ∃ fs' y6 y7 y8 y9, yp0 GM GS GL [some S, x1, x2, some (.int nest), some (.lst true (zf7 fs)), some (.int i), x6, x7, x8, x9] = some (.nx, [some S, x1, x2, some (.int nest), some (.lst true (zf7 fs')), some (.int i), y6, y7, y8, y9]) /\ GInv nest (k + 1) fs' := by
  obtain ⟨m, hm, hm0⟩ := hM 31 (.inl rfl)
  obtain ⟨m2, hm2, hm20⟩ := hM 32 (.inr rfl)
  have hln := h.len
  cases fs with
  | nil => exact h.kinds.elim
  | cons f fs =>
    have hd := wg2 (GS := GS) (GL := GL) (x1 := x1) (x2 := x2) (x6 := x6) (x7 := x7) (x8 := x8) (x9 := x9) (nest := nest) (f := f) (fs := fs) hm
    by_cases c1 : m % 13 < 4 /\ (f :: fs).length <= nest
    . obtain ⟨kd, n, y9, q, h1, h2⟩ := wg4 (GM := GM) (GS := GS) (GL := GL) (S := S) (x1 := x1) (x2 := x2) (x8 := some (.str (kdS f.kd))) (x9 := x9) (i := i) c1.1 c1.2 (by omega)
      exact ⟨_, _, _, _, y9, hd.trans q, h.opener h1 h2 c1.2⟩
    . by_cases c2 : m % 13 = 4 /\ fs ≠ []
      . cases fs with
        | nil => exact absurd rfl c2.2
        | cons g fs =>
          have hf := h.each f List.mem_cons_self
          have hg := h.parts (f := g) (List.mem_cons_of_mem _ List.mem_cons_self)
          have q := wg5 (GM := GM) (GL := GL) (S := S) (x1 := x1) (x2 := x2) (x8 := some (.str (kdS f.kd))) (x9 := x9) (nest := nest) (i := i) (hS f g fs h.kinds.1 hf.2.2.2.1 hf.2.2.1 (by omega)) c2.1
          exact ⟨_, _, _, _, _, hd.trans q, h.shut.more (by omega)⟩
      . by_cases c3 : m % 13 < 7 /\ f.kd = 3 /\ f.full.length < 3
        . have q := wr8 (GM := GM) (GS := GS) (GL := GL) (S := S) (x1 := x1) (x2 := x2) (x9 := x9) (i := i) c1 c2 c3.1 c3.2.1 c3.2.2
          exact ⟨_, _, _, _, _, hd.trans q, h.orr c3.2.2 c3.2.1⟩
        . obtain ⟨l, hl, hlk⟩ := hL m2 hm20
          have q := wg6 (GM := GM) (GS := GS) (GL := GL) (S := S) (x1 := x1) (x2 := x2) (x9 := x9) (i := i) hm2 hl (by have := h.parts (f := f) List.mem_cons_self; omega) c1 c2 c3 (xz2 h.kinds)
          exact ⟨_, _, _, _, _, hd.trans q, h.leaf hlk⟩
theorem xv1 (hS : ∀ (f g : Gm) (fs : List Gm), (1 <= f.kd /\ f.kd <= 3) -> (f.kd ≠ 3 -> f.full = []) -> f.full.length <= 3 -> g.parts.length <= 900 -> GS [.lst true (zf7 (f :: g :: fs))] = some (.non, [.lst true (zf7 (zw5 g (zp1 f) :: fs))]))
    (hL : ∀ m, 0 <= m -> ∃ l, GL [.int m] = some (zh8 l) /\ zu7 l) (hn : nest <= 100) : ∀ (l : List Int) (fs : List Gm) (k : Nat) (x5 x6 x7 x8 x9 : Option D), (∀ j ∈ l, ∀ s : Int, s = 31 \/ s = 32 -> ∃ m, GM [S, .int j, .int s] = some (.int m) /\ 0 <= m) -> GInv nest k fs -> 4 * (k + l.length) + 4 <= 800 ->
    ∃ fs' y5 y6 y7 y8 y9, zn3 5 (yp0 GM GS GL) (l.map .int) [some S, x1, x2, some (.int nest), some (.lst true (zf7 fs)), x5, x6, x7, x8, x9] = some (.nx, [some S, x1, x2, some (.int nest), some (.lst true (zf7 fs')), y5, y6, y7, y8, y9]) /\ GInv nest (k + l.length) fs'
  | [], fs, k, x5, x6, x7, x8, x9, _, h, _ => ⟨fs, x5, x6, x7, x8, x9, by simp [zb3, zc3, zb9, za5, fIf, za8, fB, f2, za0, fC, zc0, zd4, zc2, za1, za3, ze2, za4, dB, dIx, zd7, dGt, D.imm, D.imms, zg8, zc9, fT, zd9, zh3, zg6, zm5, fIO, zc7, zi7, zs4, zn3], h⟩
  | j :: l, fs, k, x5, x6, x7, x8, x9, hM, h, hk => by
    rw [List.length_cons] at hk
    obtain ⟨fs1, y6, y7, y8, y9, q, h1⟩ := wr9 (x1 := x1) (x2 := x2) (x6 := x6) (x7 := x7) (x8 := x8) (x9 := x9) hS hL (hM j List.mem_cons_self) h (by omega) hn
    obtain ⟨fs2, z5, z6, z7, z8, z9, q2, h2⟩ := xv1 hS hL hn l fs1 (k + 1) (some (.int j)) y6 y7 y8 y9 (fun i hi => hM i (List.mem_cons_of_mem _ hi)) h1 (by omega)
    refine ⟨fs2, z5, z6, z7, z8, z9, ?_, (show k + 1 + l.length = k + (j :: l).length by rw [List.length_cons]; omega) ▸ h2⟩
    rw [<- q2]
    show (yp0 GM GS GL [some S, x1, x2, some (.int nest), some (.lst true (zf7 fs)), some (.int j), x6, x7, x8, x9]).bind _ = _
    rw [q]; rfl
noncomputable def xd4 (GS : List D -> Option (D × List D)) (n : Nat) : PSt -> Option (Fl × PSt) := zv9 (za8 (fB (f2 dGt (za4 zd7 (za1 (za0 4) za3)) (fC (.int 1))))) (zc2 (fIO [.io 4] GS)) n
theorem xv2 {x0 x3 x5 : Option D} (hS : ∀ (f g : Gm) (fs : List Gm), (1 <= f.kd /\ f.kd <= 3) -> (f.kd ≠ 3 -> f.full = []) -> f.full.length <= 3 -> g.parts.length <= 900 -> GS [.lst true (zf7 (f :: g :: fs))] = some (.non, [.lst true (zf7 (zw5 g (zp1 f) :: fs))])) (hk : 4 * k + 4 <= 800) :
    ∀ (n : Nat) (fs : List Gm), fs.length <= n -> GInv nest k fs -> ∃ f, xd4 GS n [x0, x1, x2, x3, some (.lst true (zf7 fs)), x5, x6, x7, x8, x9] = some (.nx, [x0, x1, x2, x3, some (.lst true (zf7 [f])), x5, x6, x7, x8, x9]) /\ GInv nest k [f]
  | 0, [], _, h => h.kinds.elim
  | 0, _ :: _, hl, _ => by simp [zb3, zc3, zb9, za5, fIf, za8, fB, f2, za0, fC, zc0, zd4, zc2, za1, za3, ze2, za4, dB, dIx, zd7, dGt, D.imm, D.imms, zg8, zc9, fT, zd9, zh3, zg6, zm5, fIO, zc7, zi7, zs4] at hl
  | n + 1, [], _, h => h.kinds.elim
  | n + 1, [f], _, h => by
    refine ⟨f, ?_, h⟩
    unfold xd4
    rw [zv9]
    have hl : (zf7 [f]).length = 1 := rfl
    generalize zf7 [f] = N at hl |-
    simp [zb3, zc3, zb9, za5, fIf, za8, fB, f2, za0, fC, zc0, zd4, zc2, za1, za3, ze2, za4, dB, dIx, zd7, dGt, D.imm, D.imms, zg8, zc9, fT, zd9, zh3, zg6, zm5, fIO, zc7, zi7, zs4, hl]
  | n + 1, f :: g :: fs, hl, h => by
    have hf := h.each f List.mem_cons_self
    have hg := h.parts (f := g) (List.mem_cons_of_mem _ List.mem_cons_self)
    have q := hS f g fs h.kinds.1 hf.2.2.2.1 hf.2.2.1 (by omega)
    obtain ⟨f', w, h'⟩ := xv2 (x0 := x0) (x3 := x3) (x5 := x5) hS hk n (zw5 g (zp1 f) :: fs) (by simp [zb3, zc3, zb9, za5, fIf, za8, fB, f2, za0, fC, zc0, zd4, zc2, za1, za3, ze2, za4, dB, dIx, zd7, dGt, D.imm, D.imms, zg8, zc9, fT, zd9, zh3, zg6, zm5, fIO, zc7, zi7, zs4] at hl |-; omega) h.shut
    refine ⟨f', ?_, h'⟩
    rw [<- w]
    have hl2 : (zf7 (f :: g :: fs)).length = fs.length + 1 + 1 := by rw [ye0]; rfl
    have hpos : (1 : Int) < ((fs.length : Int) + 1 + 1) := by omega
    show zv9 _ _ (n + 1) _ = _
    rw [zv9]
    generalize zf7 (f :: g :: fs) = N at q hl2 |-
    generalize zf7 (zw5 g (zp1 f) :: fs) = M at q |-
    simp [zb3, zc3, zb9, za5, fIf, za8, fB, f2, za0, fC, zc0, zd4, zc2, za1, za3, ze2, za4, dB, dIx, zd7, dGt, D.imm, D.imms, zg8, zc9, fT, zd9, zh3, zg6, zm5, fIO, zc7, zi7, zs4, hl2, hpos, q, xd4]
noncomputable def kg0 (n : Nat) (GM : List D -> Option D) (GS : List D -> Option (D × List D)) (GL : List D -> Option D) : PSt -> Option (Fl × PSt) :=
  zb3 (zb9 4 (za5 (ze2 (za1 (ze2 (za1 (fC (.str "top")) (za1 (fC (.int 0)) (za1 (ze2 za3) (za1 (ze2 za3) za3))))) za3)))) (zb3 (zu6 5 (yu0 (za1 (za0 1) (za1 (f2 zc9 (za0 1) (za0 2)) za3))) (yp0 GM GS GL)) (zb3 (xd4 GS n) (zd4 (za5 (za4 zg8 (za1 (f2 dIx (f2 dIx (za0 4) (fC (.int 0))) (fC (.int 3))) za3))))))
structure RowOk (nest w : Nat) (r : List Pc) : Prop where
  ok : okR r
  dep : zi6 r <= nest
  len : (zf5 r).length <= w
theorem ka3 {a many n : Nat} (hS : ∀ (f g : Gm) (fs : List Gm), (1 <= f.kd /\ f.kd <= 3) -> (f.kd ≠ 3 -> f.full = []) -> f.full.length <= 3 -> g.parts.length <= 900 -> GS [.lst true (zf7 (f :: g :: fs))] = some (.non, [.lst true (zf7 (zw5 g (zp1 f) :: fs))]))
    (hL : ∀ m, 0 <= m -> ∃ l, GL [.int m] = some (zh8 l) /\ zu7 l) (hM : ∀ j s : Int, (a : Int) <= j /\ j < a + many -> s = 31 \/ s = 32 -> ∃ m, GM [S, .int j, .int s] = some (.int m) /\ 0 <= m) (hn : nest <= 100) (hmany : many <= 90) (ha : a <= 1000) (hnn : nest < n) :
    ∃ r, gP 4 6 (kg0 n GM GS GL) [S, .int a, .int many, .int nest] = some (.tup (zc5 r)) /\ RowOk nest (4 * many) r := by
  have i0 : GInv nest 0 [⟨0, 0, [], []⟩] := ⟨by simp [zb3, zc3, zb9, za5, fIf, za8, fB, f2, za0, fC, zc0, zd4, zc2, za1, za3, ze2, za4, dB, dIx, zd7, dGt, D.imm, D.imms, zg8, zc9, fT, zd9, zh3, zg6, zm5, fIO, zc7, zi7, zs4], by decide, fun f hf => by rw [List.mem_singleton.mp hf]; exact ⟨trivial, trivial, Nat.zero_le _, fun _ => rfl, Int.le_refl _, by decide⟩, rfl, ⟨Nat.zero_le _, Nat.zero_le _, trivial⟩⟩
  obtain ⟨fs1, y5, y6, y7, y8, y9, q, h1⟩ := xv1 (GM := GM) (GS := GS) (GL := GL) (S := S) (x1 := some (.int a)) (x2 := some (.int many)) hS hL hn ((List.range many).map fun (k : Nat) => (a : Int) + (k : Int)) [⟨0, 0, [], []⟩] 0 none none none none none
    (fun j hj s hs => by obtain ⟨k, hk, rfl⟩ := List.mem_map.mp hj; have := List.mem_range.mp hk; exact hM _ s (by omega) hs) i0 (by simp; omega)
  rw [<- ww4] at q
  rw [List.length_map, List.length_range, Nat.zero_add] at h1
  have hln := h1.len
  obtain ⟨f, w, h2⟩ := xv2 (GS := GS) (x0 := some S) (x1 := some (.int a)) (x2 := some (.int many)) (x3 := some (.int nest)) (x5 := y5) (x6 := y6) (x7 := y7) (x8 := y8) (x9 := y9) hS (by omega) n fs1 (by omega) h1
  have hf := h2.each f List.mem_cons_self
  have hd := h2.deep.1
  have hwt : wF f + 0 <= 4 * many + 4 := h2.wt
  refine ⟨f.parts, ?_, hf.2.1, by simpa using hd, by unfold wF at hwt; omega⟩
  have e : ((a : Int) + (many : Int) - (a : Int)).toNat = many := by omega
  have s0 : zb9 4 (za5 (ze2 (za1 (ze2 (za1 (fC (.str "top")) (za1 (fC (.int 0)) (za1 (ze2 za3) (za1 (ze2 za3) za3))))) za3))) [some S, some (.int a), some (.int many), some (.int nest), none, none, none, none, none, none] = some (.nx, [some S, some (.int a), some (.int many), some (.int nest), some (.lst true (zf7 [⟨0, 0, [], []⟩])), none, none, none, none, none]) := zf6 rfl
  have s1 : zu6 5 (yu0 (za1 (za0 1) (za1 (f2 zc9 (za0 1) (za0 2)) za3))) (yp0 GM GS GL) [some S, some (.int a), some (.int many), some (.int nest), some (.lst true (zf7 [⟨0, 0, [], []⟩])), none, none, none, none, none] = some (.nx, [some S, some (.int a), some (.int many), some (.int nest), some (.lst true (zf7 fs1)), y5, y6, y7, y8, y9]) := by
    have e1 : za1 (za0 1) (za1 (f2 zc9 (za0 1) (za0 2)) za3) [some S, some (.int a), some (.int many), some (.int nest), some (.lst true (zf7 [⟨0, 0, [], []⟩])), none, none, none, none, none] = some [.int a, .int ((a : Int) + (many : Int))] := rfl
    unfold zu6 yu0
    rw [e1, Option.bind_some, wq8 (by omega) (by omega) (by omega) (by omega), e]
    exact q
  have s3 : za4 zg8 (za1 (f2 dIx (f2 dIx (za0 4) (fC (.int 0))) (fC (.int 3))) za3) [some S, some (.int a), some (.int many), some (.int nest), some (.lst true (zf7 [f])), y5, y6, y7, y8, y9] = some (.tup (zc5 f.parts)) := by
    show za4 zg8 (za1 (f2 dIx (f2 dIx (za0 4) (fC (.int 0))) (fC (.int 3))) za3) [some S, some (.int a), some (.int many), some (.int nest), some (.lst true [.lst true [.str (kdS f.kd), .int f.n, .lst true (zg3 f.full), .lst true (zc5 f.parts)]]), y5, y6, y7, y8, y9] = _
    simp [zb3, zc3, zb9, za5, fIf, za8, fB, f2, za0, fC, zc0, zd4, zc2, za1, za3, ze2, za4, dB, dIx, zd7, dGt, D.imm, D.imms, zg8, zc9, fT, zd9, zh3, zg6, zm5, fIO, zc7, zi7, zs4, zk5]
  have z := (za7 s0).trans ((za7 s1).trans ((za7 w).trans (zi2 s3)))
  exact zp4 rfl z
end
noncomputable abbrev xg7 (GM GL : List D -> Option D) : List D -> Option D := gP 4 6 (xr0 GM xd1 GL)
theorem wx2 {GM GL : List D -> Option D} {S : D} {nest a many : Nat} (hL : ∀ m, 0 <= m -> ∃ l, GL [.int m] = some (zh8 l) /\ zu7 l) (hM : ∀ j s : Int, (a : Int) <= j /\ j < a + many -> s = 31 \/ s = 32 -> ∃ m, GM [S, .int j, .int s] = some (.int m) /\ 0 <= m) (hn : nest <= 100) (hmany : many <= 90) (ha : a <= 1000) :
    ∃ r, xg7 GM GL [S, .int a, .int many, .int nest] = some (.tup (zc5 r)) /\ RowOk nest (4 * many) r := by
  obtain ⟨r, h1, h2⟩ := ka3 (n := 400) (GS := xd1) (fun f g fs h1 h2 h3 h4 => wk8 h1 h2 h3 h4) hL hM hn hmany ha (Nat.lt_of_le_of_lt hn (by decide))
  exact ⟨r, h1, h2⟩
end My
namespace My
open PySem PySem.Spec PyProof.Rows L2 L3
theorem wg7 {j k : Int} (h0 : 0 <= j) (h1 : j < 100) : zq1 (.int j) (.int k) = some (.int (j * k)) := by
  rw [zq1, if_pos]
  unfold yr6
  rw [decide_eq_true (by omega), decide_eq_true (by omega)]; rfl
theorem kc5 {k : Int} {c : Nat} (h : atI sg.cps.toList k = some c) : dIx (.str sg) (.int k) = some (.str ⟨#[c]⟩) := by
  rw [dIx, if_pos wq5, h]; rfl
theorem xq6 {m : Int} : ∀ (l : List Int) (w : Str) (x2 x4 x5 : Option D), (∀ j ∈ l, 0 <= j /\ j < 100) -> w.length + l.length <= 100 -> w.cps.toList.all yu2 = true ->
    ∃ w' x4' x5', zn3 4 (zb3 (zb9 5 (za5 (f2 zc9 (f2 zl8 (za0 0) (fC (.int 12))) (f2 zq1 (za0 4) (f2 zh1 (f2 zl8 (za0 0) (fC (.int 9000))) (fC (.int 93))))))) (zb9 3 (za5 (f2 zc9 (za0 3) (f2 dIx (za0 1) (f2 zh1 (za0 5) (fC (.int 93)))))))) (l.map .int) [some (.int m), some (.str sg), x2, some (.str w), x4, x5]
      = some (.nx, [some (.int m), some (.str sg), x2, some (.str w'), x4', x5']) /\ w'.length = w.length + l.length /\ w'.cps.toList.all yu2 = true
  | [], w, x2, x4, x5, _, _, hw => ⟨w, x4, x5, rfl, rfl, hw⟩
  | j :: l, w, x2, x4, x5, hj, hl, hw => by
    rw [List.length_cons] at hl
    have hj0 := hj j List.mem_cons_self
    obtain ⟨c, hc, hg⟩ := wz9 ((m / 12 + j * (m / 9000 % 93)) % 93) (Int.emod_nonneg _ (by decide)) (Int.emod_lt_of_pos _ (by decide))
    have hw1 : (w ++ (⟨#[c]⟩ : Str)).length = w.length + 1 := by rw [zj4]; rfl
    obtain ⟨w', x4', x5', q1, q2, q3⟩ := xq6 (m := m) l (w ++ ⟨#[c]⟩) x2 (some (.int j)) (some (.int (m / 12 + j * (m / 9000 % 93)))) (fun i hi => hj i (List.mem_cons_of_mem _ hi)) (by rw [hw1]; omega) (by rw [zj3, List.all_append, hw]; simp [gP, zb3, zc3, zb9, za5, fIf, za8, fB, f2, za0, fC, zc0, zd4, zk4, za1, za3, ze2, zh9, fKs, za4, dEq, dNe, eqB, dB, dIx, zd7, zu6, yg1, D.imm, D.imms, zg8, zc9, zq1, fT, zd9, ze1, zh3, zg6, zm5, dLt, dLe, dGt, dGe, zd6, zf3, zt3, yt9, D.flat, yr6, hg])
    refine ⟨w', x4', x5', ?_, by rw [q2, hw1, List.length_cons]; omega, q3⟩
    rw [<- q1]
    have hz : w.length + (⟨#[c]⟩ : Str).length <= sizeLine := sz (by show w.length + 1 <= 1000; omega)
    have s1 : zb9 5 (za5 (f2 zc9 (f2 zl8 (za0 0) (fC (.int 12))) (f2 zq1 (za0 4) (f2 zh1 (f2 zl8 (za0 0) (fC (.int 9000))) (fC (.int 93)))))) [some (.int m), some (.str sg), x2, some (.str w), some (.int j), x5] = some (.nx, [some (.int m), some (.str sg), x2, some (.str w), some (.int j), some (.int (m / 12 + j * (m / 9000 % 93)))]) :=
      zf6 (zb5 (zb5 rfl rfl ((zf3 _ _).trans (if_pos (by decide)))) (zb5 rfl (zb5 (zb5 rfl rfl ((zf3 _ _).trans (if_pos (by decide)))) rfl ((zd6 _ _).trans (if_pos (by decide)))) (wg7 hj0.1 hj0.2)) rfl)
    have s2 : zb9 3 (za5 (f2 zc9 (za0 3) (f2 dIx (za0 1) (f2 zh1 (za0 5) (fC (.int 93)))))) [some (.int m), some (.str sg), x2, some (.str w), some (.int j), some (.int (m / 12 + j * (m / 9000 % 93)))] = some (.nx, [some (.int m), some (.str sg), x2, some (.str (w ++ ⟨#[c]⟩)), some (.int j), some (.int (m / 12 + j * (m / 9000 % 93)))]) := by
      refine zf6 (zb5 rfl (zb5 rfl (zb5 rfl rfl ((zd6 _ _).trans (if_pos (by decide)))) (kc5 hc)) ?_)
      show (if w.length + (⟨#[c]⟩ : Str).length <= sizeLine then some (D.str (w ++ ⟨#[c]⟩)) else none) = _
      exact if_pos hz
    show ((zb3 _ _ [some (.int m), some (.str sg), x2, some (.str w), some (.int j), x5]).bind _) = _
    rw [(za7 s1).trans s2]; rfl
noncomputable abbrev wa0 : List D -> Option D := gP 1 5 xj3
theorem ws0 {m : Int} (hm : 0 <= m) : ∃ z, wa0 [.int m] = some (.str z) /\ xq8 z := by
  obtain ⟨s, hs, h1, h2⟩ := wq6 m
  obtain ⟨w, x4, x5, q1, q2, q3⟩ := xq6 (m := m) ((List.range s.toNat).map fun (k : Nat) => (k : Int)) "" (some (.int s)) none none
    (fun j hj => by obtain ⟨k, hk, rfl⟩ := List.mem_map.mp hj; have := List.mem_range.mp hk; omega) (by rw [List.length_map, List.length_range]; show 0 + _ <= 100; omega) (by decide +kernel)
  rw [<- ww2] at q1
  rw [List.length_map, List.length_range] at q2
  have q2' : w.length = s.toNat := by rw [q2]; show 0 + _ = _; omega
  refine ⟨w, ?_, by omega, by omega, q3⟩
  have hz : (Str.ofString "abcdefghijklmnopqrstuvwxyzABCDEFGHIJKLMNOPQRSTUVWXYZ0123456789").length + (Str.ofString "!\"#$&'()*+,-./:;<=>?\x40[\\]^_`{|}~").length <= sizeLine := by decide +kernel
  have e1 : Str.ofString "abcdefghijklmnopqrstuvwxyzABCDEFGHIJKLMNOPQRSTUVWXYZ0123456789" ++ Str.ofString "!\"#$&'()*+,-./:;<=>?\x40[\\]^_`{|}~" = sg := rfl
  have s2 : zb9 1 (za5 (f2 zc9 (za0 1) (fC (.str "!\"#$&'()*+,-./:;<=>?\x40[\\]^_`{|}~")))) [some (.int m), some (.str "abcdefghijklmnopqrstuvwxyzABCDEFGHIJKLMNOPQRSTUVWXYZ0123456789"), none, none, none, none] = some (.nx, [some (.int m), some (.str sg), none, none, none, none]) := by
    refine zf6 (zb5 rfl rfl ?_)
    rw [<- e1]
    exact if_pos (e := none) hz
  have s3 : zb9 2 (za5 (f2 dIx (ze2 (fKs [.int 1, .int 2, .int 3, .int 4, .int 5, .int 6, .int 7, .int 8, .int 10, .int 11, .int 9, .int 12])) (f2 zh1 (za0 0) (fC (.int 12))))) [some (.int m), some (.str sg), none, none, none, none] = some (.nx, [some (.int m), some (.str sg), some (.int s), none, none, none]) := zf6 (zb5 (zm3 rfl (Nat.le_of_ble_eq_true rfl)) (zb5 rfl rfl ((zd6 _ _).trans (if_pos (by decide)))) hs)
  have s5 : zu6 4 (zt3 (za1 (za0 2) za3)) (zb3 (zb9 5 (za5 (f2 zc9 (f2 zl8 (za0 0) (fC (.int 12))) (f2 zq1 (za0 4) (f2 zh1 (f2 zl8 (za0 0) (fC (.int 9000))) (fC (.int 93))))))) (zb9 3 (za5 (f2 zc9 (za0 3) (f2 dIx (za0 1) (f2 zh1 (za0 5) (fC (.int 93)))))))) [some (.int m), some (.str sg), some (.int s), some (.str ""), none, none] = some (.nx, [some (.int m), some (.str sg), some (.int s), some (.str w), x4, x5]) := by
    have er : zt3 (za1 (za0 2) za3) [some (.int m), some (.str sg), some (.int s), some (.str ""), none, none] = some (zl3 0 s.toNat) := xf7 (by omega) (by omega)
    unfold zu6
    rw [er]; exact q1
  exact zp4 rfl ((za7 (zf6 rfl)).trans ((za7 s2).trans ((za7 s3).trans ((za7 (zf6 rfl)).trans ((za7 s5).trans rfl)))))
noncomputable abbrev yk2 : List D -> Option D := gP 1 1 (ys1 wa0)
theorem ws1 {m : Int} (hm : 0 <= m) : ∃ l, yk2 [.int m] = some (zh8 l) /\ zu7 l := by
  have hd : 0 <= m / 16 := Int.ediv_nonneg hm (by decide)
  have s1 : zb9 1 (za5 (f2 zl8 (za0 0) (fC (.int 16)))) [some (.int m), none] = some (.nx, [some (.int m), some (.int (m / 16))]) := zf6 (zb5 rfl rfl ((zf3 _ _).trans (if_pos (by decide))))
  have md : f2 zh1 (za0 0) (fC (.int 16)) [some (.int m), some (.int (m / 16))] = some (.int (m % 16)) := zb5 rfl rfl ((zd6 _ _).trans (if_pos (by decide)))
  have t : ∀ c : Int, fB (f2 dLt (f2 zh1 (za0 0) (fC (.int 16))) (fC (.int c))) [some (.int m), some (.int (m / 16))] = some (decide (m % 16 < c)) := fun c => zq6 (zb5 md rfl rfl)
  have out : ∀ {p : PSt} (l : Leaf), ys1 wa0 [some (.int m), none] = some (.ret (zh8 l), p) -> yk2 [.int m] = some (zh8 l) := fun l h => zp4 rfl h
  have t8 := t 8
  have t13 := t 13
  by_cases c1 : m % 16 < 8
  . obtain ⟨z, q, hz⟩ := ws0 hd
    rw [decide_eq_true c1] at t8
    exact ⟨.word z, out (.word z) ((za7 s1).trans (zi5 ((zi1 t8).trans (zi2 (yb2 (za9 rfl (za9 (zd8 (za9 rfl rfl) q) rfl)) rfl (Nat.le_of_ble_eq_true rfl)))))), hz⟩
  . rw [decide_eq_false c1] at t8
    by_cases c2 : m % 16 < 13
    . obtain ⟨x, q, hx⟩ := ww3 (m / 16)
      rw [decide_eq_true c2] at t13
      exact ⟨.gap x, out (.gap x) ((za7 s1).trans ((za7 (ze8 t8)).trans (zi5 ((zi1 t13).trans (zi2 (yb2 (za9 rfl (za9 (zb5 (zm3 rfl (Nat.le_of_ble_eq_true rfl)) (zb5 rfl rfl ((zd6 _ _).trans (if_pos (by decide)))) q) rfl)) rfl (Nat.le_of_ble_eq_true rfl))))))), hx⟩
    . rw [decide_eq_false c2] at t13
      have te : fB (f2 dEq (f2 zh1 (za0 0) (fC (.int 16))) (fC (.int 13))) [some (.int m), some (.int (m / 16))] = some (decide (m % 16 = 13)) := zq6 (zb5 md rfl rfl)
      by_cases c3 : m % 16 = 13
      . rw [decide_eq_true c3] at te
        exact ⟨.fin, out .fin ((za7 s1).trans ((za7 (ze8 t8)).trans ((za7 (ze8 t13)).trans (zi5 ((zi1 te).trans (zi2 rfl)))))), trivial⟩
      . rw [decide_eq_false c3] at te
        have ha := Int.emod_nonneg (m / 16 / 2) (show (10 : Int) ≠ 0 by decide)
        have hb := Int.emod_lt_of_pos (m / 16 / 2) (show (0 : Int) < 10 by decide)
        have hc := Int.emod_nonneg (m / 16 / 2) (show (41 : Int) ≠ 0 by decide)
        have he := Int.emod_lt_of_pos (m / 16 / 2) (show (0 : Int) < 41 by decide)
        obtain ⟨c, q, h1, h2⟩ := wq7 (m / 16 / 2 % 10) (m / 16 / 2 % 41) (m / 16) ⟨ha, Int.le_trans (Int.le_of_lt hb) (by decide)⟩ ⟨hc, Int.le_of_lt_add_one he⟩
        have dv : f2 zl8 (za0 1) (fC (.int 2)) [some (.int m), some (.int (m / 16))] = some (.int (m / 16 / 2)) := zb5 rfl rfl ((zf3 _ _).trans (if_pos (by decide)))
        exact ⟨.stop c, out (.stop c) ((za7 s1).trans ((za7 (ze8 t8)).trans ((za7 (ze8 t13)).trans ((za7 (ze8 te)).trans (zi2 (yb2 (za9 rfl (za9 (zb5 (zm3 (za9 (zb5 dv rfl ((zd6 _ _).trans (if_pos (by decide)))) (za9 (zb5 dv rfl ((zd6 _ _).trans (if_pos (by decide)))) rfl)) (Nat.le_of_ble_eq_true rfl)) (zb5 rfl rfl ((zd6 _ _).trans (if_pos (by decide)))) q) rfl)) rfl (Nat.le_of_ble_eq_true rfl))))))), h1, h2⟩
end My
namespace My
open PySem PySem.Spec PyProof.Rows L2 L3
theorem wg8 {GM GC : List D -> Option D} {S : D} {k1 k2 nest a many : Nat} (h1 : nest < k1) (h2 : nest < k2) (hn : nest <= 8) (hmany : many <= 90) (ha : a + many <= 1000) (hS : S.imm = true) (hM : ∀ j s : Int, 0 <= j -> j < 1000 -> 0 <= s -> s < 1000 -> ∃ a, GM [S, .int j, .int s] = some (.int a) /\ 0 <= a) (hC : ∀ j : Int, 0 <= j -> j < 1000 -> ∃ a, GC [S, .int j] = some (.int a)) :
    ∃ r, xg7 GM yk2 [S, .int a, .int many, .int nest] = some (.tup (zc5 r)) /\ RowOk nest (4 * many) r /\ ∀ salt : Int, 0 <= salt -> salt <= 900 ->
      ∃ C t, yi6 (zz5 (yc8 GM GC) k1) [S, .tup (zc5 r), .int salt] = some (.tup [.str t, .tup (zb1 C)]) /\ zl0 true 0 r C ⟨#[]⟩ = some ([], t) /\ C.length <= 360 /\ yc7 k2 [.tup (zc5 r), .tup (zb1 C)] = some (.str t) /\ t.length <= 900000 := by
  obtain ⟨r, qr, hr⟩ := wx2 (GM := GM) (GL := yk2) (S := S) (nest := nest) (a := a) (many := many) (fun m hm => ws1 hm) (fun j s hj hs => hM j s (by omega) (by omega) (by omega) (by omega)) (Nat.le_trans hn (by decide)) hmany (by omega)
  have hdr : yu6 S (yc8 GM GC) := fun t cs n many salt h1 h2 h3 h4 h5 => wr4 hM hC h1 h2 h3 h4 h5
  have hLR := xu7 hS hdr k1 r (Nat.lt_of_le_of_lt hr.dep h1) hr.ok
  have h8 := Nat.le_trans hr.dep hn
  have hl : (zf5 r).length <= 360 := Nat.le_trans hr.len (by omega)
  have hl8 : (zf5 r).length <= 800 := Nat.le_trans hl (by decide)
  refine ⟨r, qr, hr, fun salt s0 s1 => ?_⟩
  obtain ⟨C, t, d, g, len, ht⟩ := wl7 (S := S) hS hLR h8 hl8 s0 s1
  exact ⟨C, t, d, g, Nat.le_trans len hl, wf7 (n := k2) (Nat.lt_of_le_of_lt hr.dep h2) (Nat.le_trans h8 (by decide)) hr.ok hl8 g, ht⟩
end My
namespace My
open PySem PySem.Spec PyProof.Rows L2 L3
theorem xz3 : yr7 (.int 10) (.int 30) = some (.int 1000000000000000000000000000000) := by simp [za5, za8, fB, f2, za0, fC, zc0, za1, za3, za4, dIx, fT, zd9, zd6, zf3, dB, yr7, dII]
section
variable {GM GC : List D -> Option D} {S : D}
noncomputable abbrev zz6 (GM GC : List D -> Option D) : List D -> Option D := gP 3 1 (yv5 GM GC)
theorem wg9 (hM : ∀ j s : Int, 0 <= j -> j < 1000 -> 0 <= s -> s < 1000 -> ∃ a, GM [S, .int j, .int s] = some (.int a) /\ 0 <= a) (hC : ∀ j : Int, 0 <= j -> j < 1000 -> ∃ a, GC [S, .int j] = some (.int a)) (k s : Int) (h0 : 0 <= k) (h1 : k < 1000) (h2 : 0 <= s) (h3 : s < 1000) : ∃ v, zz6 GM GC [S, .int k, .int s] = some (.int v) := by
  obtain ⟨a, qa, _⟩ := hM k s h0 h1 h2 h3
  obtain ⟨c, qc⟩ := hC k h0 h1
  have s1 : zb9 3 (za5 (za4 GM (za1 (za0 0) (za1 (za0 1) (za1 (za0 2) za3))))) [some S, some (.int k), some (.int s), none] = some (.nx, [some S, some (.int k), some (.int s), some (.int a)]) := zf6 (zd8 (za9 rfl (za9 rfl (za9 rfl rfl))) qa)
  have te : fB (f2 dEq (f2 zh1 (za0 3) (fC (.int 2))) (fC (.int 0))) [some S, some (.int k), some (.int s), some (.int a)] = some (decide (a % 2 = 0)) := zq6 (zb5 (zb5 rfl rfl ((zd6 _ _).trans (if_pos (by decide)))) rfl rfl)
  by_cases h : a % 2 = 0
  . rw [decide_eq_true h] at te
    exact ⟨a / 2 % 4, zp4 rfl ((za7 s1).trans (zi5 ((zi1 te).trans (zi2 (zb5 (zb5 rfl rfl ((zf3 _ _).trans (if_pos (by decide)))) rfl ((zd6 _ _).trans (if_pos (by decide))))))))⟩
  . rw [decide_eq_false h] at te
    have hm : zq1 (.int 2) (.int 1000000000000000000000000000000) = some (.int 2000000000000000000000000000000) := wg7 (by decide) (by decide)
    exact ⟨(c + a) % 2000000000000000000000000000001 - 1000000000000000000000000000000, zp4 rfl ((za7 s1).trans ((za7 (ze8 te)).trans (zi2 (zb5 (zb5 (zb5 (zd8 (za9 rfl (za9 rfl rfl)) qc) rfl rfl) (zb5 (zb5 rfl (zb5 rfl rfl xz3) hm) rfl rfl) ((zd6 _ _).trans (if_pos (by decide)))) (zb5 rfl rfl xz3) rfl))))⟩
theorem xj0 {GN : List D -> Option D} (h : ∀ k : Int, 0 <= k -> k < 1000 -> ∃ v, GN [S, .int k, .int 61] = some (.int v)) (x : Option D) : ∀ n k : Nat, k + n <= 1000 -> ∃ ns : List Int, zv5 [x, some S] yg3 (za4 GN (za1 (za0 1) (za1 (za0 0) (za1 (fC (.int 61)) za3)))) (zl3 (k : Int) n) = some (zb1 ns) /\ ns.length = n
  | 0, k, _ => ⟨[], rfl, rfl⟩
  | n + 1, k, hk => by
    obtain ⟨ns, q, hl⟩ := xj0 h x n (k + 1) (by omega)
    obtain ⟨v, hv⟩ := h k (by omega) (by omega)
    refine ⟨v :: ns, ?_, by simp [za5, za8, fB, f2, za0, fC, zc0, za1, za3, za4, dIx, fT, zd9, zd6, zf3, dB, hl]⟩
    rw [xa5, zv5]
    show ((za4 GN (za1 (za0 1) (za1 (za0 0) (za1 (fC (.int 61)) za3))) [some (.int k), some S]).bind _) = _
    rw [zd8 (za9 rfl (za9 rfl (za9 rfl rfl))) hv, Option.bind_some, q]; rfl
theorem xj1 {GN : List D -> Option D} {x1 x2 x3 x4 x7 x8 x9 x10 : Option D} (h : ∀ k : Int, 0 <= k -> k < 1000 -> ∃ v, GN [S, .int k, .int 62] = some (.int v)) : ∀ (n k : Nat) (o : List Int) (x6 : Option D), k + n <= 100 -> o.length + n <= 900 ->
    ∃ more y6, zn3 6 (zc2 (zd1 5 zb7 (za1 (za4 GN (za1 (za0 0) (za1 (za0 6) (za1 (fC (.int 62)) za3)))) za3) zc8)) (zl3 (k : Int) n) [some S, x1, x2, x3, x4, some (.lst true (zb1 o)), x6, x7, x8, x9, x10] = some (.nx, [some S, x1, x2, x3, x4, some (.lst true (zb1 (o ++ more))), y6, x7, x8, x9, x10]) /\ more.length = n
  | 0, k, o, x6, _, _ => ⟨[], x6, by rw [List.append_nil]; rfl, rfl⟩
  | n + 1, k, o, x6, hk, ho => by
    obtain ⟨v, hv⟩ := h k (by omega) (by omega)
    obtain ⟨more, y6, q, hl⟩ := xj1 h n (k + 1) (o ++ [v]) (some (.int k)) (by omega) (by simp; omega)
    refine ⟨v :: more, y6, ?_, by simp [za5, za8, fB, f2, za0, fC, zc0, za1, za3, za4, dIx, fT, zd9, zd6, zf3, dB, hl]⟩
    rw [xy8] at q
    rw [xa5, zn3]
    have e : zb1 (o ++ [v]) = zb1 o ++ [.int v] := by rw [yj3]; rfl
    have hz : (zb1 o).length < sizeLine := by rw [zv0]; exact sz1 (by omega)
    have s : zc2 (zd1 5 zb7 (za1 (za4 GN (za1 (za0 0) (za1 (za0 6) (za1 (fC (.int 62)) za3)))) za3) zc8) [some S, x1, x2, x3, x4, some (.lst true (zb1 o)), some (.int k), x7, x8, x9, x10] = some (.nx, [some S, x1, x2, x3, x4, some (.lst true (zb1 (o ++ [v]))), some (.int k), x7, x8, x9, x10]) := by
      rw [e]
      simp [za5, za8, fB, f2, za0, fC, zc0, za1, za3, za4, dIx, fT, zd9, zd6, zf3, dB, zc2, zd1, zb7, ze0, zc8, hv, hz]
    show ((zc2 (zd1 5 zb7 (za1 (za4 GN (za1 (za0 0) (za1 (za0 6) (za1 (fC (.int 62)) za3)))) za3) zc8) [some S, x1, x2, x3, x4, some (.lst true (zb1 o)), some (.int k), x7, x8, x9, x10]).bind _) = _
    rw [s]; exact q
theorem ws2 (a b : Int) (hb : 0 <= b) : ∃ s : Int, atI [D.int 1, .int 2, .int 3, .int (1 + b)] (a % 4) = some (.int s) /\ 1 <= s := by
  have h0 := Int.emod_nonneg a (show (4 : Int) ≠ 0 by decide)
  have h1 := Int.emod_lt_of_pos a (show (0 : Int) < 4 by decide)
  obtain ⟨d, hd, e⟩ := yd6 [D.int 1, .int 2, .int 3, .int (1 + b)] (a % 4) h0 (by simpa using h1)
  simp only [List.mem_cons, List.not_mem_nil, or_false] at hd
  rcases hd with rfl | rfl | rfl | rfl
  . exact ⟨_, e, by decide⟩
  . exact ⟨_, e, by decide⟩
  . exact ⟨_, e, by decide⟩
  . exact ⟨_, e, by omega⟩
theorem ka4 (C : List Int) (k : Nat) (h : k <= C.length) : dSl (.lst true (zb1 C)) none (some (k : Int)) = some (.lst true (zb1 (C.take k))) := by
  rw [dSl, if_pos (zr3 C)]
  unfold L2.xz7
  rw [HT.sIx_none, HT.sIx_nat, zv0, Nat.min_eq_left h]
  simp [za5, za8, fB, f2, za0, fC, zc0, za1, za3, za4, dIx, fT, zd9, zd6, zf3, dB, zb1, List.map_take]
noncomputable abbrev wz0 (k1 k2 : Nat) (GM GC : List D -> Option D) : List D -> Option D := gP 1 10 (xc5 GM (zz6 GM GC) GC yi7 (xg7 GM yk2) (yi6 (zz5 (yc8 GM GC) k1)) (yc7 k2) ym4)
theorem wx3 {GN : List D -> Option D} (hN : ∀ k : Int, 0 <= k -> k < 1000 -> ∃ v, GN [S, .int k, .int 61] = some (.int v)) (a : Int) : ∃ (n : Nat) (one : List Int) (at_ : Nat) (v : Int), 1 + a % 40 = (n : Int) /\ n <= 1000 /\ zv5 [none, some S] yg3 (za4 GN (za1 (za0 1) (za1 (za0 0) (za1 (fC (.int 61)) za3)))) (zl3 ((0 : Nat) : Int) n) = some (zb1 one) /\ (0 : Int) < ((one.length : Nat) : Int) /\ a / 40 % ((one.length : Nat) : Int) = (at_ : Int) /\ at_ < one.length /\ at_ <= 40 /\ one[at_]? = some v /\ one = one.take at_ ++ v :: one.drop (at_ + 1) := by
  obtain ⟨n, hn, n1⟩ := yt2 a 1 40 (by decide)
  obtain ⟨one, q1, l1⟩ := xj0 (S := S) hN none n 0 (by omega)
  have m := Int.emod_nonneg a (show (40 : Int) ≠ 0 by decide)
  have hn' : 1 + a % 40 = (n : Int) := hn
  have l2 : 0 < one.length := by omega
  have l3 : one.length <= 40 := by omega
  clear m hn n1
  obtain ⟨at_, hat, ha⟩ := yt2 (a / 40) 0 one.length l2
  have e0 : a / 40 % ((one.length : Nat) : Int) = (at_ : Int) := (Int.zero_add _).symm.trans hat
  rw [Nat.zero_add] at ha
  have e := List.getElem?_eq_getElem ha
  refine ⟨n, one, at_, one[at_], hn', by omega, ?_, by omega, e0, ha, by omega, e, ?_⟩
  . assumption
  . rw [<- List.drop_eq_getElem_cons ha, List.take_append_drop]
theorem wn8 (one : List Int) (x : Int) {k m : Nat} (hk : k <= 40) (hm : m <= 40) : (one.take k ++ [x]).length + m <= 900 := by
  rw [List.length_append, List.length_take]
  show min k one.length + 1 + m <= 900
  omega
theorem xz4 {k1 k2 : Nat} (hk1 : 4 < k1) (hk2 : 4 < k2) (hS : S.imm = true) (hM : ∀ j s : Int, 0 <= j -> j < 1000 -> 0 <= s -> s < 1000 -> ∃ a, GM [S, .int j, .int s] = some (.int a) /\ 0 <= a) (hC : ∀ j : Int, 0 <= j -> j < 1000 -> ∃ a, GC [S, .int j] = some (.int a)) : wz0 k1 k2 GM GC [S] = some (.bl true) := by
  obtain ⟨a, qa, ha⟩ := hM 0 60 (by decide) (by decide) (by decide) (by decide)
  obtain ⟨b, qb, hb⟩ := hM 0 40 (by decide) (by decide) (by decide) (by decide)
  obtain ⟨c, qc⟩ := hC 1 (by decide) (by decide)
  have hN := wg9 hM hC
  obtain ⟨n, one, at_, v, hn, hn1, q1, hne, hat, hlt, hat40, hv, hone⟩ := wx3 (S := S) (GN := zz6 GM GC) (fun k h0 h1 => hN k 61 h0 h1 (by decide) (by decide)) a
  have mc := Int.emod_nonneg c (show (1000000000000000000000000000000 : Int) ≠ 0 by decide)
  obtain ⟨st, qst, hst⟩ := ws2 (a / 1600) (c % 1000000000000000000000000000000) mc
  obtain ⟨nm, hnm0, nm1⟩ := yt2 (a / 6400) 0 10 (by decide)
  have hnm : a / 6400 % 10 = (nm : Int) := (Int.zero_add _).symm.trans hnm0
  obtain ⟨mr, hmr0, mr1⟩ := yt2 b 3 28 (by decide)
  have hmr : 3 + b % 28 = (mr : Int) := hmr0
  obtain ⟨r, qr, hok, hdr⟩ := wg8 (k1 := k1) (k2 := k2) (nest := 4) (a := 3) (many := mr) hk1 hk2 (by decide) (Nat.le_trans (Nat.le_of_lt mr1) (by decide)) (Nat.le_trans (Nat.add_le_add_left (Nat.le_of_lt mr1) 3) (by decide)) hS hM hC
  obtain ⟨C1, t1, d1, g1, len1, b1, _⟩ := hdr 1 (by decide) (by decide)
  obtain ⟨C2, t2, d2, g2, len2, b2, _⟩ := hdr 51 (by decide) (by decide)
  show gP 1 10 (xc5 GM (zz6 GM GC) GC yi7 (xg7 GM yk2) (yi6 (zz5 (yc8 GM GC) k1)) (yc7 k2) ym4) _ = _
  obtain ⟨more, y6, q6, _⟩ := xj1 (S := S) (GN := zz6 GM GC) (x1 := some (.int a)) (x2 := some (.lst true (zb1 one))) (x3 := some (.int at_)) (x4 := some (.int st)) (x7 := none) (x8 := none) (x9 := none) (x10 := none) (fun k h0 h1 => hN k 62 h0 h1 (by decide) (by decide)) nm 0 (one.take at_ ++ [v + st]) none (Nat.le_trans (Nat.le_of_lt ((Nat.zero_add nm).symm ▸ nm1)) (by decide)) (wn8 one _ hat40 (Nat.le_trans (Nat.le_of_lt nm1) (by decide)))
  rw [List.append_assoc, List.singleton_append] at q6
  have qo := yn6 (a := one.take at_) (u := one.drop (at_ + 1)) (v := more) (Int.lt_add_of_pos_right v (Int.lt_of_lt_of_le (by decide) hst))
  rw [<- hone] at qo
  generalize hoth : one.take at_ ++ (v + st) :: more = oth at q6 qo
  have o1 := zr3 one
  have o2 := zr3 oth
  have lone : za4 zd7 (za1 (za0 2) za3) [some S, some (.int a), some (.lst true (zb1 one)), none, none, none, none, none, none, none, none] = some (.int one.length) := by
    refine zd8 (za9 rfl rfl) ?_
    show some (D.int ((zb1 one).length : Nat)) = _
    rw [zv0]
  have s1 : zb9 1 (za5 (za4 GM (za1 (za0 0) (za1 (fC (.int 0)) (za1 (fC (.int 60)) za3))))) [some S, none, none, none, none, none, none, none, none, none, none] = some (.nx, [some S, some (.int a), none, none, none, none, none, none, none, none, none]) := zf6 (zd8 (za9 rfl (za9 rfl (za9 rfl rfl))) qa)
  have s2 : zb9 2 (za5 (ye8 [none, some 0] (zt3 (za1 (f2 zc9 (fC (.int 1)) (f2 zh1 (za0 1) (fC (.int 40)))) za3)) yg3 (za4 (zz6 GM GC) (za1 (za0 1) (za1 (za0 0) (za1 (fC (.int 61)) za3)))))) [some S, some (.int a), none, none, none, none, none, none, none, none, none] = some (.nx, [some S, some (.int a), some (.lst true (zb1 one)), none, none, none, none, none, none, none, none]) := by
    refine zf6 ?_
    have e : zt3 (za1 (f2 zc9 (fC (.int 1)) (f2 zh1 (za0 1) (fC (.int 40)))) za3) [some S, some (.int a), none, none, none, none, none, none, none, none, none] = some (zl3 ((0 : Nat) : Int) n) := by
      have e1 : za1 (f2 zc9 (fC (.int 1)) (f2 zh1 (za0 1) (fC (.int 40)))) za3 [some S, some (.int a), none, none, none, none, none, none, none, none, none] = some [.int (n : Int)] := by
        refine za9 (zb5 rfl (zb5 rfl rfl (zd6 _ _)) ?_) rfl
        rw [<- hn]; rfl
      unfold zt3
      rw [e1, Option.bind_some, ww5 hn1]
    unfold ye8
    rw [e, Option.bind_some, if_pos (by unfold zl3; rw [List.length_map, List.length_range]; exact sz hn1)]
    have e4 : zv5 (yg2 [none, some 0] [some S, some (.int a), none, none, none, none, none, none, none, none, none]) yg3 (za4 (zz6 GM GC) (za1 (za0 1) (za1 (za0 0) (za1 (fC (.int 61)) za3)))) (zl3 ((0 : Nat) : Int) n) = some (zb1 one) := q1
    rw [e4]; rfl
  have s3 : zb9 3 (za5 (f2 zh1 (f2 zl8 (za0 1) (fC (.int 40))) (za4 zd7 (za1 (za0 2) za3)))) [some S, some (.int a), some (.lst true (zb1 one)), none, none, none, none, none, none, none, none] = some (.nx, [some S, some (.int a), some (.lst true (zb1 one)), some (.int at_), none, none, none, none, none, none, none]) := by
    refine zf6 (zb5 (zb5 rfl rfl (zf3 _ _)) lone ?_)
    rw [<- hat]
    exact (zd6 _ _).trans (if_pos hne)
  have s4 : zb9 4 (za5 (f2 dIx (ze2 (za1 (fC (.int 1)) (za1 (fC (.int 2)) (za1 (fC (.int 3)) (za1 (f2 zc9 (fC (.int 1)) (f2 zh1 (za4 GC (za1 (za0 0) (za1 (fC (.int 1)) za3))) (f2 yr7 (fC (.int 10)) (fC (.int 30))))) za3))))) (f2 zh1 (f2 zl8 (za0 1) (fC (.int 1600))) (fC (.int 4))))) [some S, some (.int a), some (.lst true (zb1 one)), some (.int at_), none, none, none, none, none, none, none] = some (.nx, [some S, some (.int a), some (.lst true (zb1 one)), some (.int at_), some (.int st), none, none, none, none, none, none]) := by
    refine zf6 (zb5 (zm3 (za9 rfl (za9 rfl (za9 rfl (za9 (zb5 rfl (zb5 (zd8 (za9 rfl (za9 rfl rfl)) qc) (zb5 rfl rfl xz3) ((zd6 _ _).trans (if_pos (by decide)))) rfl) rfl)))) (by simp [za5, za8, fB, f2, za0, fC, zc0, za1, za3, za4, dIx, fT, zd9, zd6, zf3, dB])) (zb5 (zb5 rfl rfl ((zf3 _ _).trans (if_pos (by decide)))) rfl ((zd6 _ _).trans (if_pos (by decide)))) ?_)
    exact qst
  have s5 : zb9 5 (za5 (f2 zc9 (fSl (za0 2) zw3 (ye7 (za0 3))) (ze2 (za1 (f2 zc9 (f2 dIx (za0 2) (za0 3)) (za0 4)) za3)))) [some S, some (.int a), some (.lst true (zb1 one)), some (.int at_), some (.int st), none, none, none, none, none, none] = some (.nx, [some S, some (.int a), some (.lst true (zb1 one)), some (.int at_), some (.int st), some (.lst true (zb1 (one.take at_ ++ [v + st]))), none, none, none, none, none]) := by
    have e1 : fSl (za0 2) zw3 (ye7 (za0 3)) [some S, some (.int a), some (.lst true (zb1 one)), some (.int at_), some (.int st), none, none, none, none, none, none] = some (.lst true (zb1 (one.take at_))) := by
      have := ka4 one at_ (Nat.le_of_lt hlt)
      simp [za5, za8, fB, f2, za0, fC, zc0, za1, za3, za4, dIx, fT, zd9, zd6, zf3, dB, fSl, zw3, ye7, this]
    have e2 : f2 dIx (za0 2) (za0 3) [some S, some (.int a), some (.lst true (zb1 one)), some (.int at_), some (.int st), none, none, none, none, none, none] = some (.int v) := by
      refine zb5 rfl rfl ?_
      show atI (zb1 one) (at_ : Int) = _
      exact zy7 (by unfold zb1; rw [List.getElem?_map, hv]; rfl)
    refine zf6 (zb5 e1 (zm3 (za9 (zb5 e2 rfl rfl) rfl) (by simp [za5, za8, fB, f2, za0, fC, zc0, za1, za3, za4, dIx, fT, zd9, zd6, zf3, dB])) ?_)
    rw [yj3]
    refine xo8 (zr3 _) (zr3 [v + st]) ?_
    rw [zv0]
    exact Nat.le_trans (Nat.le_of_eq (List.length_append (as := one.take at_) (bs := [v + st])).symm) (Nat.le_trans (wn8 one (v + st) (m := 0) hat40 (by decide)) (by decide))
  have s6 : zu6 6 (zt3 (za1 (f2 zh1 (f2 zl8 (za0 1) (fC (.int 6400))) (fC (.int 10))) za3)) (zc2 (zd1 5 zb7 (za1 (za4 (zz6 GM GC) (za1 (za0 0) (za1 (za0 6) (za1 (fC (.int 62)) za3)))) za3) zc8)) [some S, some (.int a), some (.lst true (zb1 one)), some (.int at_), some (.int st), some (.lst true (zb1 (one.take at_ ++ [v + st]))), none, none, none, none, none] = some (.nx, [some S, some (.int a), some (.lst true (zb1 one)), some (.int at_), some (.int st), some (.lst true (zb1 oth)), y6, none, none, none, none]) := by
    have e1 : za1 (f2 zh1 (f2 zl8 (za0 1) (fC (.int 6400))) (fC (.int 10))) za3 [some S, some (.int a), some (.lst true (zb1 one)), some (.int at_), some (.int st), some (.lst true (zb1 (one.take at_ ++ [v + st]))), none, none, none, none, none] = some [.int (nm : Int)] := by
      refine za9 (zb5 (zb5 rfl rfl ((zf3 _ _).trans (if_pos (by decide)))) rfl ?_) rfl
      rw [<- hnm]
      exact (zd6 _ _).trans (if_pos (by decide))
    unfold zu6 zt3
    rw [e1, Option.bind_some, ww5 (Nat.le_trans (Nat.le_of_lt nm1) (by decide))]
    exact q6
  have tt : ∀ {f : PSt -> Option Bool} {p : PSt} {b : Bool}, f p = some b -> za8 f p = some (b, p) := fun h => by unfold za8; rw [h]; rfl
  have tnot : ∀ {f : PSt -> Option D} {p : PSt}, f p = some (.bl true) -> za8 (zh4 (fT f)) p = some (false, p) := fun h => tt (by unfold zh4 fT; rw [h]; rfl)
  have s7 : ∀ F, fIf (za8 (zh4 (fT (za4 yi7 (za1 (za4 zg8 (za1 (za0 2) za3)) (za1 (za4 zg8 (za1 (za0 5) za3)) za3)))))) F zc3 [some S, some (.int a), some (.lst true (zb1 one)), some (.int at_), some (.int st), some (.lst true (zb1 oth)), y6, none, none, none, none] = some (.nx, [some S, some (.int a), some (.lst true (zb1 one)), some (.int at_), some (.int st), some (.lst true (zb1 oth)), y6, none, none, none, none]) := fun F =>
    (zt2 (tnot (zd8 (za9 (zd8 (za9 rfl rfl) (if_pos o1)) (za9 (zd8 (za9 rfl rfl) (if_pos o2)) rfl)) qo))).trans rfl
  generalize some (D.int a) = x1 at *
  generalize some (D.lst true (zb1 one)) = x2 at *
  generalize some (D.int (at_ : Int)) = x3 at *
  generalize some (D.int st) = x4 at *
  generalize some (D.lst true (zb1 oth)) = x5 at *
  have s8 : zb9 7 (za5 (za4 (xg7 GM yk2) (za1 (za0 0) (za1 (fC (.int 3)) (za1 (f2 zc9 (fC (.int 3)) (f2 zh1 (za4 GM (za1 (za0 0) (za1 (fC (.int 0)) (za1 (fC (.int 40)) za3)))) (fC (.int 28)))) (za1 (fC (.int 4)) za3)))))) [some S, x1, x2, x3, x4, x5, y6, none, none, none, none] = some (.nx, [some S, x1, x2, x3, x4, x5, y6, some (.tup (zc5 r)), none, none, none]) := by
    refine zf6 (zd8 (ds := [S, .int ((3 : Nat) : Int), .int (mr : Int), .int ((4 : Nat) : Int)]) (za9 rfl (za9 rfl (za9 ?_ (za9 rfl rfl)))) qr)
    refine zb5 rfl (zb5 (zd8 (za9 rfl (za9 rfl (za9 rfl rfl))) qb) rfl ((zd6 _ _).trans (if_pos (by decide)))) ?_
    rw [<- hmr]; rfl
  have s9 : zb9 8 (za5 (za4 (yi6 (zz5 (yc8 GM GC) k1)) (za1 (za0 0) (za1 (za0 7) (za1 (fC (.int 1)) za3))))) [some S, x1, x2, x3, x4, x5, y6, some (.tup (zc5 r)), none, none, none] = some (.nx, [some S, x1, x2, x3, x4, x5, y6, some (.tup (zc5 r)), some (.tup [.str t1, .tup (zb1 C1)]), none, none]) := zf6 (zd8 (za9 rfl (za9 rfl (za9 rfl rfl))) d1)
  have s10 : zb9 9 (za5 (za4 (yi6 (zz5 (yc8 GM GC) k1)) (za1 (za0 0) (za1 (za0 7) (za1 (fC (.int 51)) za3))))) [some S, x1, x2, x3, x4, x5, y6, some (.tup (zc5 r)), some (.tup [.str t1, .tup (zb1 C1)]), none, none] = some (.nx, [some S, x1, x2, x3, x4, x5, y6, some (.tup (zc5 r)), some (.tup [.str t1, .tup (zb1 C1)]), some (.tup [.str t2, .tup (zb1 C2)]), none]) := zf6 (zd8 (za9 rfl (za9 rfl (za9 rfl rfl))) d2)
  have v8 : ∀ x10, f2 dIx (za0 8) (fC (.int 1)) [some S, x1, x2, x3, x4, x5, y6, some (.tup (zc5 r)), some (.tup [.str t1, .tup (zb1 C1)]), some (.tup [.str t2, .tup (zb1 C2)]), x10] = some (.tup (zb1 C1)) := fun _ => zb5 rfl rfl (zg6 _ _ _)
  have v9 : ∀ x10, f2 dIx (za0 9) (fC (.int 1)) [some S, x1, x2, x3, x4, x5, y6, some (.tup (zc5 r)), some (.tup [.str t1, .tup (zb1 C1)]), some (.tup [.str t2, .tup (zb1 C2)]), x10] = some (.tup (zb1 C2)) := fun _ => zb5 rfl rfl (zg6 _ _ _)
  have u8 : f2 dIx (za0 8) (fC (.int 0)) [some S, x1, x2, x3, x4, x5, y6, some (.tup (zc5 r)), some (.tup [.str t1, .tup (zb1 C1)]), some (.tup [.str t2, .tup (zb1 C2)]), none] = some (.str t1) := zb5 rfl rfl (zh3 _ _)
  have u9 : f2 dIx (za0 9) (fC (.int 0)) [some S, x1, x2, x3, x4, x5, y6, some (.tup (zc5 r)), some (.tup [.str t1, .tup (zb1 C1)]), some (.tup [.str t2, .tup (zb1 C2)]), none] = some (.str t2) := zb5 rfl rfl (zh3 _ _)
  have ne0 : ∀ t : Str, dNe (.str t) (.str t) = some (.bl false) := fun t => by show some (D.bl (!decide (t = t))) = _; rw [decide_eq_true rfl]; rfl
  have s11 : ∀ F, fIf (za8 (zk8 (fB (f2 dNe (za4 (yc7 k2) (za1 (za0 7) (za1 (f2 dIx (za0 8) (fC (.int 1))) za3))) (f2 dIx (za0 8) (fC (.int 0))))) (fB (f2 dNe (za4 (yc7 k2) (za1 (za0 7) (za1 (f2 dIx (za0 9) (fC (.int 1))) za3))) (f2 dIx (za0 9) (fC (.int 0))))))) F zc3 [some S, x1, x2, x3, x4, x5, y6, some (.tup (zc5 r)), some (.tup [.str t1, .tup (zb1 C1)]), some (.tup [.str t2, .tup (zb1 C2)]), none] = some (.nx, [some S, x1, x2, x3, x4, x5, y6, some (.tup (zc5 r)), some (.tup [.str t1, .tup (zb1 C1)]), some (.tup [.str t2, .tup (zb1 C2)]), none]) := fun F => by
    refine (zt2 (tt ?_)).trans rfl
    have w1 : f2 dNe (za4 (yc7 k2) (za1 (za0 7) (za1 (f2 dIx (za0 8) (fC (.int 1))) za3))) (f2 dIx (za0 8) (fC (.int 0))) [some S, x1, x2, x3, x4, x5, y6, some (.tup (zc5 r)), some (.tup [.str t1, .tup (zb1 C1)]), some (.tup [.str t2, .tup (zb1 C2)]), none] = some (.bl false) := zb5 (zd8 (za9 rfl (za9 (v8 none) rfl)) b1) u8 (ne0 t1)
    have w2 : f2 dNe (za4 (yc7 k2) (za1 (za0 7) (za1 (f2 dIx (za0 9) (fC (.int 1))) za3))) (f2 dIx (za0 9) (fC (.int 0))) [some S, x1, x2, x3, x4, x5, y6, some (.tup (zc5 r)), some (.tup [.str t1, .tup (zb1 C1)]), some (.tup [.str t2, .tup (zb1 C2)]), none] = some (.bl false) := zb5 (zd8 (za9 rfl (za9 (v9 none) rfl)) b2) u9 (ne0 t2)
    unfold zk8 fB
    rw [w1, w2]; rfl
  have teq : za8 (fB (f2 dEq (f2 dIx (za0 8) (fC (.int 1))) (f2 dIx (za0 9) (fC (.int 1))))) [some S, x1, x2, x3, x4, x5, y6, some (.tup (zc5 r)), some (.tup [.str t1, .tup (zb1 C1)]), some (.tup [.str t2, .tup (zb1 C2)]), none] = some (decide (C1 = C2), [some S, x1, x2, x3, x4, x5, y6, some (.tup (zc5 r)), some (.tup [.str t1, .tup (zb1 C1)]), some (.tup [.str t2, .tup (zb1 C2)]), none]) := tt (by unfold fB; rw [zb5 (v8 none) (v9 none) (wr6 C1 C2)]; rfl)
  suffices h : ∃ p, xc5 GM (zz6 GM GC) GC yi7 (xg7 GM yk2) (yi6 (zz5 (yc8 GM GC) k1)) (yc7 k2) ym4 [some S, none, none, none, none, none, none, none, none, none, none] = some (.ret (.bl true), p) from by
    obtain ⟨p, hp⟩ := h
    exact zp4 rfl hp
  refine zt1 s1 (zt1 s2 (zt1 s3 (zt1 s4 (zt1 s5 (zt1 s6 (zt1 (s7 _) (zt1 s8 (zt1 s9 (zt1 s10 (zt1 (s11 _) ?_))))))))))
  by_cases hcc : C1 = C2
  . rw [decide_eq_true hcc] at teq
    exact ⟨_, zi5 ((yj2 teq).trans (zi2 rfl))⟩
  . rw [decide_eq_false hcc] at teq
    obtain ⟨l, x, y, u, w, e1, e2, hxy⟩ := xq3 C1 C2 hcc (fun z e => hcc (by rw [e] at g2; rw [xa8 g1 g2] at e; rw [e, List.append_nil])) (fun z e => hcc (by rw [e] at g1; rw [xa8 g2 g1] at e; rw [e, List.append_nil]))
    have qp := wl8 hxy (e1 ▸ Nat.le_trans len1 (by decide)) (e2 ▸ Nat.le_trans len2 (by decide))
    rw [<- e1, <- e2] at qp
    have s12 : ∀ F, fIf (za8 (fB (f2 dEq (f2 dIx (za0 8) (fC (.int 1))) (f2 dIx (za0 9) (fC (.int 1)))))) F zc3 [some S, x1, x2, x3, x4, x5, y6, some (.tup (zc5 r)), some (.tup [.str t1, .tup (zb1 C1)]), some (.tup [.str t2, .tup (zb1 C2)]), none] = some (.nx, [some S, x1, x2, x3, x4, x5, y6, some (.tup (zc5 r)), some (.tup [.str t1, .tup (zb1 C1)]), some (.tup [.str t2, .tup (zb1 C2)]), none]) := fun F => (zt2 teq).trans rfl
    have s13 : zb9 10 (za5 (za4 ym4 (za1 (f2 dIx (za0 8) (fC (.int 1))) (za1 (f2 dIx (za0 9) (fC (.int 1))) za3)))) [some S, x1, x2, x3, x4, x5, y6, some (.tup (zc5 r)), some (.tup [.str t1, .tup (zb1 C1)]), some (.tup [.str t2, .tup (zb1 C2)]), none] = some (.nx, [some S, x1, x2, x3, x4, x5, y6, some (.tup (zc5 r)), some (.tup [.str t1, .tup (zb1 C1)]), some (.tup [.str t2, .tup (zb1 C2)]), some (.int l.length)]) := zf6 (zd8 (za9 (v8 _) (za9 (v9 _) rfl)) qp)
    have s14 : ∀ F, fIf (za8 (fB (f2 dIs (za0 10) (fC .non)))) F zc3 [some S, x1, x2, x3, x4, x5, y6, some (.tup (zc5 r)), some (.tup [.str t1, .tup (zb1 C1)]), some (.tup [.str t2, .tup (zb1 C2)]), some (.int l.length)] = some (.nx, [some S, x1, x2, x3, x4, x5, y6, some (.tup (zc5 r)), some (.tup [.str t1, .tup (zb1 C1)]), some (.tup [.str t2, .tup (zb1 C2)]), some (.int l.length)]) := fun F => (zt2 (tt rfl)).trans rfl
    refine zt1 (s12 _) (zt1 s13 (zt1 (s14 _) ?_))
    have k1 : f2 dIx (f2 dIx (za0 8) (fC (.int 1))) (za0 10) [some S, x1, x2, x3, x4, x5, y6, some (.tup (zc5 r)), some (.tup [.str t1, .tup (zb1 C1)]), some (.tup [.str t2, .tup (zb1 C2)]), some (.int l.length)] = some (.int x) := zb5 (v8 _) rfl (xl0 (by rw [e1]; simp [za5, za8, fB, f2, za0, fC, zc0, za1, za3, za4, dIx, fT, zd9, zd6, zf3, dB]))
    have k2 : f2 dIx (f2 dIx (za0 9) (fC (.int 1))) (za0 10) [some S, x1, x2, x3, x4, x5, y6, some (.tup (zc5 r)), some (.tup [.str t1, .tup (zb1 C1)]), some (.tup [.str t2, .tup (zb1 C2)]), some (.int l.length)] = some (.int y) := zb5 (v9 _) rfl (xl0 (by rw [e2]; simp [za5, za8, fB, f2, za0, fC, zc0, za1, za3, za4, dIx, fT, zd9, zd6, zf3, dB]))
    have tlt : za8 (fB (f2 dLt (f2 dIx (f2 dIx (za0 8) (fC (.int 1))) (za0 10)) (f2 dIx (f2 dIx (za0 9) (fC (.int 1))) (za0 10)))) [some S, x1, x2, x3, x4, x5, y6, some (.tup (zc5 r)), some (.tup [.str t1, .tup (zb1 C1)]), some (.tup [.str t2, .tup (zb1 C2)]), some (.int l.length)] = some (decide (x < y), [some S, x1, x2, x3, x4, x5, y6, some (.tup (zc5 r)), some (.tup [.str t1, .tup (zb1 C1)]), some (.tup [.str t2, .tup (zb1 C2)]), some (.int l.length)]) := tt (by unfold fB; rw [zb5 k1 k2 rfl]; rfl)
    by_cases hlt2 : x < y
    . rw [decide_eq_true hlt2] at tlt
      have qo2 := yn6 (a := l) (u := u) (v := w) hlt2
      rw [<- e1, <- e2] at qo2
      exact ⟨_, zi5 ((yj2 tlt).trans (zi2 (zd8 (za9 (v8 _) (za9 (v9 _) rfl)) qo2)))⟩
    . rw [decide_eq_false hlt2] at tlt
      have qo2 := yn6 (a := l) (u := w) (v := u) (Int.lt_iff_le_and_ne.mpr ⟨Int.not_lt.mp hlt2, Ne.symm hxy⟩)
      rw [<- e1, <- e2] at qo2
      have s15 : ∀ F, fIf (za8 (fB (f2 dLt (f2 dIx (f2 dIx (za0 8) (fC (.int 1))) (za0 10)) (f2 dIx (f2 dIx (za0 9) (fC (.int 1))) (za0 10))))) F zc3 [some S, x1, x2, x3, x4, x5, y6, some (.tup (zc5 r)), some (.tup [.str t1, .tup (zb1 C1)]), some (.tup [.str t2, .tup (zb1 C2)]), some (.int l.length)] = some (.nx, [some S, x1, x2, x3, x4, x5, y6, some (.tup (zc5 r)), some (.tup [.str t1, .tup (zb1 C1)]), some (.tup [.str t2, .tup (zb1 C2)]), some (.int l.length)]) := fun F => (zt2 tlt).trans rfl
      exact ⟨_, (za7 (s15 _)).trans (zi2 (zd8 (za9 (v9 _) (za9 (v8 _) rfl)) qo2))⟩
end
end My
namespace My
open PySem PySem.Spec PyProof.Rows L2 L3
variable {P : Program} {w : World} {K : PySem.W.Frag} {mg : Str -> Option Value} {base : Heap} {κ : Str -> Addr}
noncomputable abbrev ys5 : List D -> Option (List Int) := D.ints
theorem yn7 : ∀ ns : List Int, ys5 (ns.map .int) = some ns
  | [] => rfl
  | n :: ns => by show (D.ints (ns.map .int)).map (n :: ·) = _; rw [show D.ints (ns.map .int) = some ns from yn7 ns]; rfl
noncomputable def wa1 : List D -> Option D
  | [.con xs, .int k, .int s] => match ys5 xs with
    | some ns => if ns.length <= 63 /\ (0 <= k /\ k < 1000000) /\ (0 <= s /\ s < 1000000) then some (.int (yo3 ns k s)) else none
    | none => none
  | _ => none
theorem wm0 {ns : List Int} (h : ns.length <= 63) (k s : Int) (hk : 0 <= k) (hk1 : k < 1000) (hs : 0 <= s) (hs1 : s < 1000) : ∃ m, wa1 [.con (ns.map .int), .int k, .int s] = some (.int m) /\ 0 <= m := by
  refine ⟨yo3 ns k s, ?_, (xr7 ns k s).1⟩
  show (match ys5 (ns.map .int) with | some ns => if ns.length <= 63 /\ (0 <= k /\ k < 1000000) /\ (0 <= s /\ s < 1000000) then some (D.int (yo3 ns k s)) else none | none => none) = _
  rw [yn7]
  exact if_pos ⟨h, ⟨hk, by omega⟩, hs, by omega⟩
theorem kc6 {k : Nat} {f : Addr} {fd : FuncData} {ps : List Str} (F : FnOk P w K mg base CX0 k f fd ps (xv3 K)) : FnOk P w K mg base CX0 k f fd ps (SpP 3 K κ wa1) := by
  refine F.imp fun vs H Q E ⟨_, ds, fp, d, r, e, q⟩ => ?_
  unfold wa1 at e
  split at e
  . rename_i xs k s
    split at e
    . rename_i ns hns
      obtain ⟨hc, e⟩ := zg9 e
      cases e
      obtain ⟨v1, us, f, g, rfl, r1, r2, rfl⟩ := r.split
      obtain ⟨v2, us2, f2, g2, rfl, r3, r4, rfl⟩ := r2.split
      obtain ⟨v3, rfl, r5⟩ := r4.one_inv
      rw [r3.is_int, r5.is_int]
      obtain ⟨a, vs, rfl, hS, hs⟩ := r1.con_inv
      rw [yl3 hs hns] at hS
      exact ⟨a, ns, k, s, rfl, hS.l, hc.1, hc.2.1, hc.2.2, q _ H [] (SameK.refl H) (fun _ ha => absurd ha (by simp)) List.nodup_nil (.int _)⟩
    . cases e
  . cases e
noncomputable def xl3 (K : PySem.W.Frag) : Sp := fun vs H Q _ => ∃ (a : Addr) (ns : List Int), vs = [.ref a] /\ SqF K H a (ns.map V.int) /\ ns.length <= 63 /\ ∀ H', Q (.bl true) H'
theorem xj2 {H : Hp} : ∀ ns : List Int, Reps K κ H (ns.map V.int) (ns.map .int) []
  | [] => .nil
  | n :: ns => .cons (f := []) (g := []) (.int n) (xj2 ns)
theorem kc7 {k : Nat} {f : Addr} {fd : FuncData} {ps : List Str} {g : List D -> Option D} (F : FnOk P w K mg base CX0 k f fd ps (SpP 1 K κ g)) (h : ∀ ns : List Int, ns.length <= 63 -> g [.con (ns.map .int)] = some (.bl true)) : FnOk P w K mg base CX0 k f fd ps (xl3 K) :=
  F.imp fun vs H Q E ⟨a, ns, e, hS, hl, q⟩ => e ▸ ⟨rfl, [.con (ns.map .int)], [], .bl true, .cons (f := []) (g := []) (.con hS (xj2 ns)) .nil, h ns hl, fun v H' fv _ _ _ r => by cases r; exact q H'⟩
noncomputable def Cur : Nat -> (List Value -> Prop) -> Prop
  | 0, P => P []
  | n + 1, P => ∀ a, Cur n fun us => P (a :: us)
theorem zh2 {n : Nat} : ∀ {P : List Value -> Prop}, Cur n P -> ∀ us : List Value, us.length = n -> P us := by
  induction n with
  | zero => intro P h us hl; cases List.eq_nil_of_length_eq_zero hl; exact h
  | succ n ih =>
    intro P h us hl
    cases us with
    | nil => cases hl
    | cons a us => exact ih (h a) us (Nat.succ.inj hl)
theorem zm9 {h : Heap} (X : K.In h) (G : h.Ns mainGlobals mg) {x : Str} {st : Stmt} {f : Addr} {od an : Option Addr} {sl : Array (Option Value)} {oc kV dc pm cd ct : Value} {ps : List Str}
    (a : PySem.W.nsIn K mainGlobals x = some (some (.ref f))) (l : K.lookup f = some ⟨oc, od, .func (PySem.W.fnOf x x (zg2 st) (ze7 st) (zb4 st) .none kV dc pm an cd ct), sl⟩) (c : PySem.W.codeIn K cd x = true) (k : PySem.W.keepIn K (.ref f) = true)
    (hb : ∀ (kV doc pm : Value) (an : Option Addr) (cdv ct : Value) (us : List Value), us.length = ps.length -> bindArgs (PySem.W.fnOf x x (zg2 st) (ze7 st) (zb4 st) .none kV doc pm an cdv ct) ⟨us, []⟩ = pure (ps.zip us)) :
    Dn K mg x st ps f (PySem.W.fnOf x x (zg2 st) (ze7 st) (zb4 st) .none kV dc pm an cd ct) :=
  ⟨zq3 l c k, (zq3 l c k).binds hb, PySem.W.mg_of X G a⟩
theorem kc8 {l : PySem.W.OpenLaw} {q : Program} {loose : List Str} {XP : (Str -> Option Value) -> Heap -> Prop} {YP : World -> Heap -> Prop} {d : DefRec} {K : Params -> PySem.W.Frag} {lev : Nat} (hn : l.most = some 63) (hdf : d.params.defaults = []) (hr : Room lev callerA)
    (hY : ∀ (w : World) (h : Heap), YP w h -> (K w.params).In h)
    (F : ∀ (w : World) (mg : Str -> Option Value) (fa : Addr) (h : Heap), (K w.params).In h -> h.Ns mainGlobals mg -> mg d.name = some (.ref fa) ->
      ∃ fd : FuncData, (∀ (s : Shared) (u : Value), BindsTo s fd ⟨[u], []⟩ [("_law_script", u)]) /\ ∀ base : Heap, (K w.params).In base -> base.Ns mainGlobals mg -> FnOk l.prog w (K w.params) mg base CX0 lev fa fd ["_law_script"] (xl3 (K w.params))) :
    PySem.W.WalkO q loose XP YP l.row.toRowW d [] (fun f vs => PySem.call f vs) :=
  L2.wp4 (n := 63) (k := lev) (x := "_law_script") (CX := fun _ => CX0) (sp := fun w => xl3 (K w.params)) hn (by decide) hdf hr hY F (fun _ H a ns hl hO hS => ⟨a, ns, rfl, by
    rcases hS with (h | h) | h
    . rcases hO a with z | ⟨o, xs, z⟩ <;> rw [h] at z <;> cases z
    . exact .inl h
    . exact .inr h, hl, fun _ => rfl⟩) fun _ _ _ _ _ z => z
end My
namespace My
open PySem PySem.Spec PyProof.Rows L2 L3
variable {P : Program} {w : World} {K : PySem.W.Frag} {mg : Str -> Option Value} {base : Heap} {κ : Str -> Addr}
noncomputable def xl4 : List D -> Option D
  | [.con xs, .int k] => match ys5 xs with
    | some ns => some (.int (yf3 ns k))
    | none => none
  | _ => none
theorem wh0 (ns : List Int) (k : Int) : xl4 [.con (ns.map .int), .int k] = some (.int (yf3 ns k)) := by
  show (match ys5 (ns.map .int) with | some ns => some (D.int (yf3 ns k)) | none => none) = _
  rw [yn7]
theorem ka5 {k : Nat} {f : Addr} {fd : FuncData} {ps : List Str} (F : FnOk P w K mg base CX0 k f fd ps (xq9 K)) : FnOk P w K mg base CX0 k f fd ps (SpP 2 K κ xl4) := by
  refine F.imp fun vs H Q E ⟨_, ds, fp, d, r, e, q⟩ => ?_
  unfold xl4 at e
  split at e
  . rename_i xs k
    split at e
    . rename_i ns hns
      cases e
      obtain ⟨v1, us, f, g, rfl, r1, r2, rfl⟩ := r.split
      obtain ⟨v3, rfl, r5⟩ := r2.one_inv
      rw [r5.is_int]
      obtain ⟨a, vs, rfl, hS, hs⟩ := r1.con_inv
      rw [yl3 hs hns] at hS
      exact ⟨a, ns, k, rfl, hS.l, q _ H [] (SameK.refl H) (fun _ ha => absurd ha (by simp)) List.nodup_nil (.int _)⟩
    . cases e
  . cases e
end My
namespace My
open PySem PySem.Spec PyProof.Rows L2 L3
theorem wx4 {l : PySem.W.OpenLaw} {w : World} {K : PySem.W.Frag} {h : Heap} {mg : Str -> Option Value} {fa f0 f1 f2 f3 f4 f5 f6 f7 f8 f9 f10 f11 f12 f13 f14 f15 f16 f17 f18 f19 f20 f21 f22 f23 f24 : Addr} (X : K.In h) (G : h.Ns mainGlobals mg) (hfa : mg "law" = some (.ref fa))
    {od0 an0 od1 an1 od2 an2 od3 an3 od4 an4 od5 an5 od6 an6 od7 an7 od8 an8 od9 an9 od10 an10 od11 an11 od12 an12 od13 an13 od14 an14 od15 an15 od16 an16 od17 an17 od18 an18 od19 an19 od20 an20 od21 an21 od22 an22 od23 an23 od24 an24 : Option Addr} {sl0 sl1 sl2 sl3 sl4 sl5 sl6 sl7 sl8 sl9 sl10 sl11 sl12 sl13 sl14 sl15 sl16 sl17 sl18 sl19 sl20 sl21 sl22 sl23 sl24 : Array (Option Value)} {oc0 kV0 dc0 pm0 cd0 ct0 oc1 kV1 dc1 pm1 cd1 ct1 oc2 kV2 dc2 pm2 cd2 ct2 oc3 kV3 dc3 pm3 cd3 ct3 oc4 kV4 dc4 pm4 cd4 ct4 oc5 kV5 dc5 pm5 cd5 ct5 oc6 kV6 dc6 pm6 cd6 ct6 oc7 kV7 dc7 pm7 cd7 ct7 oc8 kV8 dc8 pm8 cd8 ct8 oc9 kV9 dc9 pm9 cd9 ct9 oc10 kV10 dc10 pm10 cd10 ct10 oc11 kV11 dc11 pm11 cd11 ct11 oc12 kV12 dc12 pm12 cd12 ct12 oc13 kV13 dc13 pm13 cd13 ct13 oc14 kV14 dc14 pm14 cd14 ct14 oc15 kV15 dc15 pm15 cd15 ct15 oc16 kV16 dc16 pm16 cd16 ct16 oc17 kV17 dc17 pm17 cd17 ct17 oc18 kV18 dc18 pm18 cd18 ct18 oc19 kV19 dc19 pm19 cd19 ct19 oc20 kV20 dc20 pm20 cd20 ct20 oc21 kV21 dc21 pm21 cd21 ct21 oc22 kV22 dc22 pm22 cd22 ct22 oc23 kV23 dc23 pm23 cd23 ct23 oc24 kV24 dc24 pm24 cd24 ct24 : Value}
    (a0 : PySem.W.nsIn K mainGlobals "first_place" = some (some (.ref f0))) (l0 : K.lookup f0 = some ⟨oc0, od0, .func (PySem.W.fnOf "first_place" "first_place" (zg2 zn1) (ze7 zn1) (zb4 zn1) .none kV0 dc0 pm0 an0 cd0 ct0), sl0⟩) (c0 : PySem.W.codeIn K cd0 "first_place" = true) (k0 : PySem.W.keepIn K (.ref f0) = true)
    (a1 : PySem.W.nsIn K mainGlobals "holds_rows" = some (some (.ref f1))) (l1 : K.lookup f1 = some ⟨oc1, od1, .func (PySem.W.fnOf "holds_rows" "holds_rows" (zg2 zn7) (ze7 zn7) (zb4 zn7) .none kV1 dc1 pm1 an1 cd1 ct1), sl1⟩) (c1 : PySem.W.codeIn K cd1 "holds_rows" = true) (k1 : PySem.W.keepIn K (.ref f1) = true)
    (a2 : PySem.W.nsIn K mainGlobals "takes_choice" = some (some (.ref f2))) (l2 : K.lookup f2 = some ⟨oc2, od2, .func (PySem.W.fnOf "takes_choice" "takes_choice" (zg2 zm0) (ze7 zm0) (zb4 zm0) .none kV2 dc2 pm2 an2 cd2 ct2), sl2⟩) (c2 : PySem.W.codeIn K cd2 "takes_choice" = true) (k2 : PySem.W.keepIn K (.ref f2) = true)
    (a3 : PySem.W.nsIn K mainGlobals "ways" = some (some (.ref f3))) (l3 : K.lookup f3 = some ⟨oc3, od3, .func (PySem.W.fnOf "ways" "ways" (zg2 zv1) (ze7 zv1) (zb4 zv1) .none kV3 dc3 pm3 an3 cd3 ct3), sl3⟩) (c3 : PySem.W.codeIn K cd3 "ways" = true) (k3 : PySem.W.keepIn K (.ref f3) = true)
    (a4 : PySem.W.nsIn K mainGlobals "new_line" = some (some (.ref f4))) (l4 : K.lookup f4 = some ⟨oc4, od4, .func (PySem.W.fnOf "new_line" "new_line" (zg2 zq2) (ze7 zq2) (zb4 zq2) .none kV4 dc4 pm4 an4 cd4 ct4), sl4⟩) (c4 : PySem.W.codeIn K cd4 "new_line" = true) (k4 : PySem.W.keepIn K (.ref f4) = true)
    (a5 : PySem.W.nsIn K mainGlobals "writing" = some (some (.ref f5))) (l5 : K.lookup f5 = some ⟨oc5, od5, .func (PySem.W.fnOf "writing" "writing" (zg2 zr9) (ze7 zr9) (zb4 zr9) .none kV5 dc5 pm5 an5 cd5 ct5), sl5⟩) (c5 : PySem.W.codeIn K cd5 "writing" = true) (k5 : PySem.W.keepIn K (.ref f5) = true)
    (a6 : PySem.W.nsIn K mainGlobals "ends_line" = some (some (.ref f6))) (l6 : K.lookup f6 = some ⟨oc6, od6, .func (PySem.W.fnOf "ends_line" "ends_line" (zg2 zo4) (ze7 zo4) (zb4 zo4) .none kV6 dc6 pm6 an6 cd6 ct6), sl6⟩) (c6 : PySem.W.codeIn K cd6 "ends_line" = true) (k6 : PySem.W.keepIn K (.ref f6) = true)
    (a7 : PySem.W.nsIn K mainGlobals "column_behind" = some (some (.ref f7))) (l7 : K.lookup f7 = some ⟨oc7, od7, .func (PySem.W.fnOf "column_behind" "column_behind" (zg2 zl4) (ze7 zl4) (zb4 zl4) .none kV7 dc7 pm7 an7 cd7 ct7), sl7⟩) (c7 : PySem.W.codeIn K cd7 "column_behind" = true) (k7 : PySem.W.keepIn K (.ref f7) = true)
    (a8 : PySem.W.nsIn K mainGlobals "set_by" = some (some (.ref f8))) (l8 : K.lookup f8 = some ⟨oc8, od8, .func (PySem.W.fnOf "set_by" "set_by" (zg2 zt7) (ze7 zt7) (zb4 zt7) .none kV8 dc8 pm8 an8 cd8 ct8), sl8⟩) (c8 : PySem.W.codeIn K cd8 "set_by" = true) (k8 : PySem.W.keepIn K (.ref f8) = true)
    (a9 : PySem.W.nsIn K mainGlobals "earlier" = some (some (.ref f9))) (l9 : K.lookup f9 = some ⟨oc9, od9, .func (PySem.W.fnOf "earlier" "earlier" (zg2 zs0) (ze7 zs0) (zb4 zs0) .none kV9 dc9 pm9 an9 cd9 ct9), sl9⟩) (c9 : PySem.W.codeIn K cd9 "earlier" = true) (k9 : PySem.W.keepIn K (.ref f9) = true)
    (a10 : PySem.W.nsIn K mainGlobals "_law_cell_at" = some (some (.ref f10))) (l10 : K.lookup f10 = some ⟨oc10, od10, .func (PySem.W.fnOf "_law_cell_at" "_law_cell_at" (zg2 zm7) (ze7 zm7) (zb4 zm7) .none kV10 dc10 pm10 an10 cd10 ct10), sl10⟩) (c10 : PySem.W.codeIn K cd10 "_law_cell_at" = true) (k10 : PySem.W.keepIn K (.ref f10) = true)
    (a11 : PySem.W.nsIn K mainGlobals "_law_mixed" = some (some (.ref f11))) (l11 : K.lookup f11 = some ⟨oc11, od11, .func (PySem.W.fnOf "_law_mixed" "_law_mixed" (zg2 zp0) (ze7 zp0) (zb4 zp0) .none kV11 dc11 pm11 an11 cd11 ct11), sl11⟩) (c11 : PySem.W.codeIn K cd11 "_law_mixed" = true) (k11 : PySem.W.keepIn K (.ref f11) = true)
    (a12 : PySem.W.nsIn K mainGlobals "_law_word" = some (some (.ref f12))) (l12 : K.lookup f12 = some ⟨oc12, od12, .func (PySem.W.fnOf "_law_word" "_law_word" (zg2 zy0) (ze7 zy0) (zb4 zy0) .none kV12 dc12 pm12 an12 cd12 ct12), sl12⟩) (c12 : PySem.W.codeIn K cd12 "_law_word" = true) (k12 : PySem.W.keepIn K (.ref f12) = true)
    (a13 : PySem.W.nsIn K mainGlobals "_law_leaf" = some (some (.ref f13))) (l13 : K.lookup f13 = some ⟨oc13, od13, .func (PySem.W.fnOf "_law_leaf" "_law_leaf" (zg2 zy1) (ze7 zy1) (zb4 zy1) .none kV13 dc13 pm13 an13 cd13 ct13), sl13⟩) (c13 : PySem.W.codeIn K cd13 "_law_leaf" = true) (k13 : PySem.W.keepIn K (.ref f13) = true)
    (a14 : PySem.W.nsIn K mainGlobals "_law_shut" = some (some (.ref f14))) (l14 : K.lookup f14 = some ⟨oc14, od14, .func (PySem.W.fnOf "_law_shut" "_law_shut" (zg2 zy2) (ze7 zy2) (zb4 zy2) .none kV14 dc14 pm14 an14 cd14 ct14), sl14⟩) (c14 : PySem.W.codeIn K cd14 "_law_shut" = true) (k14 : PySem.W.keepIn K (.ref f14) = true)
    (a15 : PySem.W.nsIn K mainGlobals "_law_row" = some (some (.ref f15))) (l15 : K.lookup f15 = some ⟨oc15, od15, .func (PySem.W.fnOf "_law_row" "_law_row" (zg2 ya9) (ze7 ya9) (zb4 ya9) .none kV15 dc15 pm15 an15 cd15 ct15), sl15⟩) (c15 : PySem.W.codeIn K cd15 "_law_row" = true) (k15 : PySem.W.keepIn K (.ref f15) = true)
    (a16 : PySem.W.nsIn K mainGlobals "_law_next" = some (some (.ref f16))) (l16 : K.lookup f16 = some ⟨oc16, od16, .func (PySem.W.fnOf "_law_next" "_law_next" (zg2 zy3) (ze7 zy3) (zb4 zy3) .none kV16 dc16 pm16 an16 cd16 ct16), sl16⟩) (c16 : PySem.W.codeIn K cd16 "_law_next" = true) (k16 : PySem.W.keepIn K (.ref f16) = true)
    (a17 : PySem.W.nsIn K mainGlobals "_law_line" = some (some (.ref f17))) (l17 : K.lookup f17 = some ⟨oc17, od17, .func (PySem.W.fnOf "_law_line" "_law_line" (zg2 zy4) (ze7 zy4) (zb4 zy4) .none kV17 dc17 pm17 an17 cd17 ct17), sl17⟩) (c17 : PySem.W.codeIn K cd17 "_law_line" = true) (k17 : PySem.W.keepIn K (.ref f17) = true)
    (a18 : PySem.W.nsIn K mainGlobals "_law_column" = some (some (.ref f18))) (l18 : K.lookup f18 = some ⟨oc18, od18, .func (PySem.W.fnOf "_law_column" "_law_column" (zg2 zt8) (ze7 zt8) (zb4 zt8) .none kV18 dc18 pm18 an18 cd18 ct18), sl18⟩) (c18 : PySem.W.codeIn K cd18 "_law_column" = true) (k18 : PySem.W.keepIn K (.ref f18) = true)
    (a19 : PySem.W.nsIn K mainGlobals "_law_set" = some (some (.ref f19))) (l19 : K.lookup f19 = some ⟨oc19, od19, .func (PySem.W.fnOf "_law_set" "_law_set" (zg2 yb0) (ze7 yb0) (zb4 yb0) .none kV19 dc19 pm19 an19 cd19 ct19), sl19⟩) (c19 : PySem.W.codeIn K cd19 "_law_set" = true) (k19 : PySem.W.keepIn K (.ref f19) = true)
    (a20 : PySem.W.nsIn K mainGlobals "_law_drawn" = some (some (.ref f20))) (l20 : K.lookup f20 = some ⟨oc20, od20, .func (PySem.W.fnOf "_law_drawn" "_law_drawn" (zg2 zv6) (ze7 zv6) (zb4 zv6) .none kV20 dc20 pm20 an20 cd20 ct20), sl20⟩) (c20 : PySem.W.codeIn K cd20 "_law_drawn" = true) (k20 : PySem.W.keepIn K (.ref f20) = true)
    (a21 : PySem.W.nsIn K mainGlobals "_law_number" = some (some (.ref f21))) (l21 : K.lookup f21 = some ⟨oc21, od21, .func (PySem.W.fnOf "_law_number" "_law_number" (zg2 zt9) (ze7 zt9) (zb4 zt9) .none kV21 dc21 pm21 an21 cd21 ct21), sl21⟩) (c21 : PySem.W.codeIn K cd21 "_law_number" = true) (k21 : PySem.W.keepIn K (.ref f21) = true)
    (a22 : PySem.W.nsIn K mainGlobals "_law_place" = some (some (.ref f22))) (l22 : K.lookup f22 = some ⟨oc22, od22, .func (PySem.W.fnOf "_law_place" "_law_place" (zg2 zv7) (ze7 zv7) (zb4 zv7) .none kV22 dc22 pm22 an22 cd22 ct22), sl22⟩) (c22 : PySem.W.codeIn K cd22 "_law_place" = true) (k22 : PySem.W.keepIn K (.ref f22) = true)
    (a23 : PySem.W.nsIn K mainGlobals "_law_ordered" = some (some (.ref f23))) (l23 : K.lookup f23 = some ⟨oc23, od23, .func (PySem.W.fnOf "_law_ordered" "_law_ordered" (zg2 zs1) (ze7 zs1) (zb4 zs1) .none kV23 dc23 pm23 an23 cd23 ct23), sl23⟩) (c23 : PySem.W.codeIn K cd23 "_law_ordered" = true) (k23 : PySem.W.keepIn K (.ref f23) = true)
    (a24 : PySem.W.nsIn K mainGlobals "law" = some (some (.ref f24))) (l24 : K.lookup f24 = some ⟨oc24, od24, .func (PySem.W.fnOf "law" "law" (zg2 zz9) (ze7 zz9) (zb4 zz9) .none kV24 dc24 pm24 an24 cd24 ct24), sl24⟩) (c24 : PySem.W.codeIn K cd24 "law" = true) (k24 : PySem.W.keepIn K (.ref f24) = true)
    (z0 : PySem.W.nsIn K mainGlobals "len" = some none)
    (z1 : PySem.W.nsIn K mainGlobals "max" = some none)
    (z2 : PySem.W.nsIn K mainGlobals "range" = some none)
    (z3 : PySem.W.nsIn K mainGlobals "tuple" = some none)
    (z4 : PySem.W.nsIn K mainGlobals "int" = some none)
    (z5 : PySem.W.nsIn K mainGlobals "min" = some none)
    {aHOLDERS : Addr} {odHOLDERS : Option Addr} {nHOLDERS : Nat} {slHOLDERS : Array (Option Value)} {uHOLDERS_0 uHOLDERS_1 uHOLDERS_2 : Tok}
    (g0 : PySem.W.nsIn K mainGlobals "HOLDERS" = some (some (.ref aHOLDERS)))
    (dtHOLDERS : K.lookup aHOLDERS = some ⟨.type "tuple", odHOLDERS, .seq #[.str "group" uHOLDERS_0, .str "hang" uHOLDERS_1, .str "either" uHOLDERS_2] nHOLDERS, slHOLDERS⟩)
    {C_Place : Addr} {f_Place_init : Addr} {od_Place_init an_Place_init : Option Addr} {sl_Place_init : Array (Option Value)} {oc_Place_init kV_Place_init dc_Place_init pm_Place_init cd_Place_init ct_Place_init : Value}
    (gC_Place : PySem.W.nsIn K mainGlobals "Place" = some (some (.ref C_Place)))
    (pg_Place : PySem.W.plainGet K C_Place Str.empty = true)
    (hd_Place : PySem.W.hasDictIn K C_Place = true)
    (po_Place : PySem.W.plainOver K C_Place = true)
    (sa_Place : PySem.W.findIn K (.ref C_Place) "__setattr__" = some (some (.builtin "object.__setattr__")))
    (mk_Place : PySem.W.makesIn K C_Place = true)
    (kc_Place : PySem.W.keepIn K (.ref C_Place) = true)
    (fi_Place_init : PySem.W.findIn K (.ref C_Place) "__init__" = some (some (.ref f_Place_init)))
    (is_Place_init : PySem.W.isFn K (.ref f_Place_init) = true)
    (lo_Place_init : K.lookup f_Place_init = some ⟨oc_Place_init, od_Place_init, .func (PySem.W.fnOf "__init__" "Place.__init__" (zg2 zn8) (ze7 zn8) (zb4 zn8) .none kV_Place_init dc_Place_init pm_Place_init an_Place_init cd_Place_init ct_Place_init), sl_Place_init⟩)
    (co_Place_init : PySem.W.codeIn K cd_Place_init "Place.__init__" = true)
    (ke_Place_init : PySem.W.keepIn K (.ref f_Place_init) = true)
    (nf_broken : PySem.W.findIn K (.ref C_Place) "broken" = some none)
    (nf_margin : PySem.W.findIn K (.ref C_Place) "margin" = some none)
    {C_Setter : Addr} {f_Setter_init f_Setter_choice_below f_Setter_set_plain f_Setter_set_holder f_Setter_set_row f_Setter_whole_text : Addr} {od_Setter_init an_Setter_init od_Setter_choice_below an_Setter_choice_below od_Setter_set_plain an_Setter_set_plain od_Setter_set_holder an_Setter_set_holder od_Setter_set_row an_Setter_set_row od_Setter_whole_text an_Setter_whole_text : Option Addr} {sl_Setter_init sl_Setter_choice_below sl_Setter_set_plain sl_Setter_set_holder sl_Setter_set_row sl_Setter_whole_text : Array (Option Value)} {oc_Setter_init kV_Setter_init dc_Setter_init pm_Setter_init cd_Setter_init ct_Setter_init oc_Setter_choice_below kV_Setter_choice_below dc_Setter_choice_below pm_Setter_choice_below cd_Setter_choice_below ct_Setter_choice_below oc_Setter_set_plain kV_Setter_set_plain dc_Setter_set_plain pm_Setter_set_plain cd_Setter_set_plain ct_Setter_set_plain oc_Setter_set_holder kV_Setter_set_holder dc_Setter_set_holder pm_Setter_set_holder cd_Setter_set_holder ct_Setter_set_holder oc_Setter_set_row kV_Setter_set_row dc_Setter_set_row pm_Setter_set_row cd_Setter_set_row ct_Setter_set_row oc_Setter_whole_text kV_Setter_whole_text dc_Setter_whole_text pm_Setter_whole_text cd_Setter_whole_text ct_Setter_whole_text : Value}
    (gC_Setter : PySem.W.nsIn K mainGlobals "Setter" = some (some (.ref C_Setter)))
    (pg_Setter : PySem.W.plainGet K C_Setter Str.empty = true)
    (hd_Setter : PySem.W.hasDictIn K C_Setter = true)
    (po_Setter : PySem.W.plainOver K C_Setter = true)
    (sa_Setter : PySem.W.findIn K (.ref C_Setter) "__setattr__" = some (some (.builtin "object.__setattr__")))
    (mk_Setter : PySem.W.makesIn K C_Setter = true)
    (kc_Setter : PySem.W.keepIn K (.ref C_Setter) = true)
    (fi_Setter_init : PySem.W.findIn K (.ref C_Setter) "__init__" = some (some (.ref f_Setter_init)))
    (is_Setter_init : PySem.W.isFn K (.ref f_Setter_init) = true)
    (lo_Setter_init : K.lookup f_Setter_init = some ⟨oc_Setter_init, od_Setter_init, .func (PySem.W.fnOf "__init__" "Setter.__init__" (zg2 zo5) (ze7 zo5) (zb4 zo5) .none kV_Setter_init dc_Setter_init pm_Setter_init an_Setter_init cd_Setter_init ct_Setter_init), sl_Setter_init⟩)
    (co_Setter_init : PySem.W.codeIn K cd_Setter_init "Setter.__init__" = true)
    (ke_Setter_init : PySem.W.keepIn K (.ref f_Setter_init) = true)
    (fi_Setter_choice_below : PySem.W.findIn K (.ref C_Setter) "choice_below" = some (some (.ref f_Setter_choice_below)))
    (is_Setter_choice_below : PySem.W.isFn K (.ref f_Setter_choice_below) = true)
    (lo_Setter_choice_below : K.lookup f_Setter_choice_below = some ⟨oc_Setter_choice_below, od_Setter_choice_below, .func (PySem.W.fnOf "choice_below" "Setter.choice_below" (zg2 zi9) (ze7 zi9) (zb4 zi9) .none kV_Setter_choice_below dc_Setter_choice_below pm_Setter_choice_below an_Setter_choice_below cd_Setter_choice_below ct_Setter_choice_below), sl_Setter_choice_below⟩)
    (co_Setter_choice_below : PySem.W.codeIn K cd_Setter_choice_below "Setter.choice_below" = true)
    (ke_Setter_choice_below : PySem.W.keepIn K (.ref f_Setter_choice_below) = true)
    (fi_Setter_set_plain : PySem.W.findIn K (.ref C_Setter) "set_plain" = some (some (.ref f_Setter_set_plain)))
    (is_Setter_set_plain : PySem.W.isFn K (.ref f_Setter_set_plain) = true)
    (lo_Setter_set_plain : K.lookup f_Setter_set_plain = some ⟨oc_Setter_set_plain, od_Setter_set_plain, .func (PySem.W.fnOf "set_plain" "Setter.set_plain" (zg2 zk9) (ze7 zk9) (zb4 zk9) .none kV_Setter_set_plain dc_Setter_set_plain pm_Setter_set_plain an_Setter_set_plain cd_Setter_set_plain ct_Setter_set_plain), sl_Setter_set_plain⟩)
    (co_Setter_set_plain : PySem.W.codeIn K cd_Setter_set_plain "Setter.set_plain" = true)
    (ke_Setter_set_plain : PySem.W.keepIn K (.ref f_Setter_set_plain) = true)
    (fi_Setter_set_holder : PySem.W.findIn K (.ref C_Setter) "set_holder" = some (some (.ref f_Setter_set_holder)))
    (is_Setter_set_holder : PySem.W.isFn K (.ref f_Setter_set_holder) = true)
    (lo_Setter_set_holder : K.lookup f_Setter_set_holder = some ⟨oc_Setter_set_holder, od_Setter_set_holder, .func (PySem.W.fnOf "set_holder" "Setter.set_holder" (zg2 zk1) (ze7 zk1) (zb4 zk1) .none kV_Setter_set_holder dc_Setter_set_holder pm_Setter_set_holder an_Setter_set_holder cd_Setter_set_holder ct_Setter_set_holder), sl_Setter_set_holder⟩)
    (co_Setter_set_holder : PySem.W.codeIn K cd_Setter_set_holder "Setter.set_holder" = true)
    (ke_Setter_set_holder : PySem.W.keepIn K (.ref f_Setter_set_holder) = true)
    (fi_Setter_set_row : PySem.W.findIn K (.ref C_Setter) "set_row" = some (some (.ref f_Setter_set_row)))
    (is_Setter_set_row : PySem.W.isFn K (.ref f_Setter_set_row) = true)
    (lo_Setter_set_row : K.lookup f_Setter_set_row = some ⟨oc_Setter_set_row, od_Setter_set_row, .func (PySem.W.fnOf "set_row" "Setter.set_row" (zg2 zk6) (ze7 zk6) (zb4 zk6) .none kV_Setter_set_row dc_Setter_set_row pm_Setter_set_row an_Setter_set_row cd_Setter_set_row ct_Setter_set_row), sl_Setter_set_row⟩)
    (co_Setter_set_row : PySem.W.codeIn K cd_Setter_set_row "Setter.set_row" = true)
    (ke_Setter_set_row : PySem.W.keepIn K (.ref f_Setter_set_row) = true)
    (fi_Setter_whole_text : PySem.W.findIn K (.ref C_Setter) "whole_text" = some (some (.ref f_Setter_whole_text)))
    (is_Setter_whole_text : PySem.W.isFn K (.ref f_Setter_whole_text) = true)
    (lo_Setter_whole_text : K.lookup f_Setter_whole_text = some ⟨oc_Setter_whole_text, od_Setter_whole_text, .func (PySem.W.fnOf "whole_text" "Setter.whole_text" (zg2 zk2) (ze7 zk2) (zb4 zk2) .none kV_Setter_whole_text dc_Setter_whole_text pm_Setter_whole_text an_Setter_whole_text cd_Setter_whole_text ct_Setter_whole_text), sl_Setter_whole_text⟩)
    (co_Setter_whole_text : PySem.W.codeIn K cd_Setter_whole_text "Setter.whole_text" = true)
    (ke_Setter_whole_text : PySem.W.keepIn K (.ref f_Setter_whole_text) = true)
    (nf_choices : PySem.W.findIn K (.ref C_Setter) "choices" = some none)
    (nf_used : PySem.W.findIn K (.ref C_Setter) "used" = some none)
    (nf_column : PySem.W.findIn K (.ref C_Setter) "column" = some none)
    (nf_parts : PySem.W.findIn K (.ref C_Setter) "parts" = some none)
    : ∃ fd : FuncData, (∀ (s : Shared) (v : Value), BindsTo s fd ⟨[v], []⟩ [("_law_script", v)]) /\ ∀ base : Heap, K.In base -> base.Ns mainGlobals mg -> FnOk l.prog w K mg base CX0 21 fa fd ["_law_script"] (xl3 K) := by
  have e := hfa.symm.trans (PySem.W.mg_of X G a24)
  cases e
  have D_p_first_place := zm9 (st := zn1) (ps := []) X G a0 l0 c0 k0 fun _ _ _ _ _ _ us hl => match us, hl with | [], _ => rfl
  have D_p_holds_rows := zm9 (st := zn7) (ps := ["piece"]) X G a1 l1 c1 k1 fun _ _ _ _ _ _ => zh2 (fun _ => rfl)
  have D_p_takes_choice := zm9 (st := zm0) (ps := ["piece", "place"]) X G a2 l2 c2 k2 fun _ _ _ _ _ _ => zh2 (fun _ _ => rfl)
  have D_p_ways := zm9 (st := zv1) (ps := ["piece", "place"]) X G a3 l3 c3 k3 fun _ _ _ _ _ _ => zh2 (fun _ _ => rfl)
  have D_p_new_line := zm9 (st := zq2) (ps := ["blanks"]) X G a4 l4 c4 k4 fun _ _ _ _ _ _ => zh2 (fun _ => rfl)
  have D_p_writing := zm9 (st := zr9) (ps := ["piece", "place", "column"]) X G a5 l5 c5 k5 fun _ _ _ _ _ _ => zh2 (fun _ _ _ => rfl)
  have D_p_ends_line := zm9 (st := zo4) (ps := ["wrote"]) X G a6 l6 c6 k6 fun _ _ _ _ _ _ => zh2 (fun _ => rfl)
  have D_p_column_behind := zm9 (st := zl4) (ps := ["column", "wrote"]) X G a7 l7 c7 k7 fun _ _ _ _ _ _ => zh2 (fun _ _ => rfl)
  have D_p_set_by := zm9 (st := zt7) (ps := ["row", "choices"]) X G a8 l8 c8 k8 fun _ _ _ _ _ _ => zh2 (fun _ _ => rfl)
  have D_p_earlier := zm9 (st := zs0) (ps := ["one", "other"]) X G a9 l9 c9 k9 fun _ _ _ _ _ _ => zh2 (fun _ _ => rfl)
  have D_l_cell_at := zm9 (st := zm7) (ps := ["_law_script", "_law_k"]) X G a10 l10 c10 k10 fun _ _ _ _ _ _ => zh2 (fun _ _ => rfl)
  have D_l_mixed := zm9 (st := zp0) (ps := ["_law_script", "_law_k", "_law_salt"]) X G a11 l11 c11 k11 fun _ _ _ _ _ _ => zh2 (fun _ _ _ => rfl)
  have D_l_word := zm9 (st := zy0) (ps := ["_law_number_here"]) X G a12 l12 c12 k12 fun _ _ _ _ _ _ => zh2 (fun _ => rfl)
  have D_l_leaf := zm9 (st := zy1) (ps := ["_law_number_here"]) X G a13 l13 c13 k13 fun _ _ _ _ _ _ => zh2 (fun _ => rfl)
  have D_l_shut := zm9 (st := zy2) (ps := ["_law_frames"]) X G a14 l14 c14 k14 fun _ _ _ _ _ _ => zh2 (fun _ => rfl)
  have D_l_row := zm9 (st := ya9) (ps := ["_law_script", "_law_at", "_law_many", "_law_nest"]) X G a15 l15 c15 k15 fun _ _ _ _ _ _ => zh2 (fun _ _ _ _ => rfl)
  have D_l_next := zm9 (st := zy3) (ps := ["_law_script", "_law_state", "_law_salt", "_law_many"]) X G a16 l16 c16 k16 fun _ _ _ _ _ _ => zh2 (fun _ _ _ _ => rfl)
  have D_l_line := zm9 (st := zy4) (ps := ["_law_state", "_law_blanks"]) X G a17 l17 c17 k17 fun _ _ _ _ _ _ => zh2 (fun _ _ => rfl)
  have D_l_column := zm9 (st := zt8) (ps := ["_law_state"]) X G a18 l18 c18 k18 fun _ _ _ _ _ _ => zh2 (fun _ => rfl)
  have D_l_set := zm9 (st := yb0) (ps := ["_law_script", "_law_row_here", "_law_flat", "_law_hang", "_law_state", "_law_salt"]) X G a19 l19 c19 k19 fun _ _ _ _ _ _ => zh2 (fun _ _ _ _ _ _ => rfl)
  have D_l_drawn := zm9 (st := zv6) (ps := ["_law_script", "_law_row_here", "_law_salt"]) X G a20 l20 c20 k20 fun _ _ _ _ _ _ => zh2 (fun _ _ _ => rfl)
  have D_l_number := zm9 (st := zt9) (ps := ["_law_script", "_law_k", "_law_salt"]) X G a21 l21 c21 k21 fun _ _ _ _ _ _ => zh2 (fun _ _ _ => rfl)
  have D_l_place := zm9 (st := zv7) (ps := ["_law_one", "_law_other"]) X G a22 l22 c22 k22 fun _ _ _ _ _ _ => zh2 (fun _ _ => rfl)
  have D_l_ordered := zm9 (st := zs1) (ps := ["_law_one", "_law_other"]) X G a23 l23 c23 k23 fun _ _ _ _ _ _ => zh2 (fun _ _ => rfl)
  have D_law := zm9 (st := zz9) (ps := ["_law_script"]) X G a24 l24 c24 k24 fun _ _ _ _ _ _ => zh2 (fun _ => rfl)
  obtain ⟨κ, hκ⟩ : ∃ κ, κ = (kap [("Place", C_Place), ("Setter", C_Setter)]) := ⟨_, rfl⟩
  have eK_Place : κ "Place" = C_Place := by rw [hκ]; simp [kap, ze1]
  have cl_Place : Cls K (κ "Place") := by rw [eK_Place]; exact ⟨pg_Place, hd_Place, po_Place, sa_Place⟩
  have K_Place : Kn K mg κ "Place" "Place.__init__" zn8 ["self", "broken", "margin"] f_Place_init _ := ⟨(zq3 lo_Place_init co_Place_init ke_Place_init), ((zq3 lo_Place_init co_Place_init ke_Place_init).binds fun _ _ _ _ _ _ => zh2 (fun _ _ _ => rfl)), (by rw [eK_Place]; exact ⟨mk_Place, fi_Place_init, is_Place_init, kc_Place⟩), (by rw [eK_Place]; exact PySem.W.mg_of X G gC_Place)⟩
  have na_broken : zh0 K (κ "Place") "broken" := by rw [eK_Place]; exact nf_broken
  have na_margin : zh0 K (κ "Place") "margin" := by rw [eK_Place]; exact nf_margin
  have eK_Setter : κ "Setter" = C_Setter := by rw [hκ]; simp [kap, ze1]
  have cl_Setter : Cls K (κ "Setter") := by rw [eK_Setter]; exact ⟨pg_Setter, hd_Setter, po_Setter, sa_Setter⟩
  have K_Setter : Kn K mg κ "Setter" "Setter.__init__" zo5 ["self", "choices"] f_Setter_init _ := ⟨(zq3 lo_Setter_init co_Setter_init ke_Setter_init), ((zq3 lo_Setter_init co_Setter_init ke_Setter_init).binds fun _ _ _ _ _ _ => zh2 (fun _ _ => rfl)), (by rw [eK_Setter]; exact ⟨mk_Setter, fi_Setter_init, is_Setter_init, kc_Setter⟩), (by rw [eK_Setter]; exact PySem.W.mg_of X G gC_Setter)⟩
  have M_Setter_choice_below : Mn K κ "Setter" "choice_below" "Setter.choice_below" zi9 ["self", "count"] f_Setter_choice_below _ := ⟨(zq3 lo_Setter_choice_below co_Setter_choice_below ke_Setter_choice_below), ((zq3 lo_Setter_choice_below co_Setter_choice_below ke_Setter_choice_below).binds fun _ _ _ _ _ _ => zh2 (fun _ _ => rfl)), cl_Setter, (by rw [eK_Setter]; exact ⟨fi_Setter_choice_below, is_Setter_choice_below, ke_Setter_choice_below⟩)⟩
  have M_Setter_set_plain : Mn K κ "Setter" "set_plain" "Setter.set_plain" zk9 ["self", "piece", "place"] f_Setter_set_plain _ := ⟨(zq3 lo_Setter_set_plain co_Setter_set_plain ke_Setter_set_plain), ((zq3 lo_Setter_set_plain co_Setter_set_plain ke_Setter_set_plain).binds fun _ _ _ _ _ _ => zh2 (fun _ _ _ => rfl)), cl_Setter, (by rw [eK_Setter]; exact ⟨fi_Setter_set_plain, is_Setter_set_plain, ke_Setter_set_plain⟩)⟩
  have M_Setter_set_holder : Mn K κ "Setter" "set_holder" "Setter.set_holder" zk1 ["self", "piece", "place"] f_Setter_set_holder _ := ⟨(zq3 lo_Setter_set_holder co_Setter_set_holder ke_Setter_set_holder), ((zq3 lo_Setter_set_holder co_Setter_set_holder ke_Setter_set_holder).binds fun _ _ _ _ _ _ => zh2 (fun _ _ _ => rfl)), cl_Setter, (by rw [eK_Setter]; exact ⟨fi_Setter_set_holder, is_Setter_set_holder, ke_Setter_set_holder⟩)⟩
  have M_Setter_set_row : Mn K κ "Setter" "set_row" "Setter.set_row" zk6 ["self", "row", "place"] f_Setter_set_row _ := ⟨(zq3 lo_Setter_set_row co_Setter_set_row ke_Setter_set_row), ((zq3 lo_Setter_set_row co_Setter_set_row ke_Setter_set_row).binds fun _ _ _ _ _ _ => zh2 (fun _ _ _ => rfl)), cl_Setter, (by rw [eK_Setter]; exact ⟨fi_Setter_set_row, is_Setter_set_row, ke_Setter_set_row⟩)⟩
  have M_Setter_whole_text : Mn K κ "Setter" "whole_text" "Setter.whole_text" zk2 ["self"] f_Setter_whole_text _ := ⟨(zq3 lo_Setter_whole_text co_Setter_whole_text ke_Setter_whole_text), ((zq3 lo_Setter_whole_text co_Setter_whole_text ke_Setter_whole_text).binds fun _ _ _ _ _ _ => zh2 (fun _ => rfl)), cl_Setter, (by rw [eK_Setter]; exact ⟨fi_Setter_whole_text, is_Setter_whole_text, ke_Setter_whole_text⟩)⟩
  have na_choices : zh0 K (κ "Setter") "choices" := by rw [eK_Setter]; exact nf_choices
  have na_used : zh0 K (κ "Setter") "used" := by rw [eK_Setter]; exact nf_used
  have na_column : zh0 K (κ "Setter") "column" := by rw [eK_Setter]; exact nf_column
  have na_parts : zh0 K (κ "Setter") "parts" := by rw [eK_Setter]; exact nf_parts
  have z_len := PySem.W.mg_none_of X G z0
  have z_max := PySem.W.mg_none_of X G z1
  have z_range := PySem.W.mg_none_of X G z2
  have z_tuple := PySem.W.mg_none_of X G z3
  have z_int := PySem.W.mg_none_of X G z4
  have z_min := PySem.W.mg_none_of X G z5
  have g_HOLDERS := PySem.W.mg_of X G g0
  have k_HOLDERS : ∀ H, Rep K κ H (.ref aHOLDERS) (.tup [(.str "group"), (.str "hang"), (.str "either")]) [] := fun H => wj5 (ys := [("group", uHOLDERS_0), ("hang", uHOLDERS_1), ("either", uHOLDERS_2)]) dtHOLDERS (Nat.le_of_ble_eq_true rfl) H
  refine ⟨PySem.W.fnOf "law" "law" (zg2 zz9) (ze7 zz9) (zb4 zz9) .none kV24 dc24 pm24 an24 cd24 ct24, fun s v => .of_eq rfl, fun base _ _ => ?_⟩
  have H1 := xo1 (P := l.prog) (w := w) (base := base) (n := 0) D_l_cell_at z_len
  have H2 := xy0 (n := 1) D_l_mixed D_l_cell_at H1 z_len z_max
  have G_l_mixed := kc6 (κ := κ) H2
  have G_l_cell_at := ka5 (κ := κ) H1
  have G_l_number := xs1 (P := l.prog) (w := w) (base := base) (κ := κ) (n := 2) D_l_number D_l_mixed (G_l_mixed.mono (by decide)) D_l_cell_at (G_l_cell_at.mono (by decide))
  have G_p_earlier := xo4 (P := l.prog) (w := w) (base := base) (κ := κ) (n := 0) D_p_earlier
  have G_l_ordered := xo6 (P := l.prog) (w := w) (base := base) (κ := κ) (n := 1) D_l_ordered D_p_earlier (G_p_earlier.mono (by decide))
  have G_l_shut := we0 (P := l.prog) (w := w) (base := base) (κ := κ) (n := 0) D_l_shut z_tuple z_len
  have G_l_word := wd8 (P := l.prog) (w := w) (base := base) (κ := κ) (n := 0) D_l_word z_range
  have G_l_leaf := wd9 (P := l.prog) (w := w) (base := base) (κ := κ) (n := 1) D_l_leaf D_l_word (G_l_word.mono (by decide))
  have G_l_row := wj9 (P := l.prog) (w := w) (base := base) (κ := κ) (n := 2) D_l_row D_l_mixed (G_l_mixed.mono (by decide)) D_l_shut (G_l_shut.mono (by decide)) D_l_leaf (G_l_leaf.mono (by decide)) z_range z_tuple z_len
  have G_l_line := we3 (P := l.prog) (w := w) (base := base) (κ := κ) (n := 0) D_l_line
  have G_l_column := xs0 (P := l.prog) (w := w) (base := base) (κ := κ) (n := 0) D_l_column z_len
  have G_l_next := we1 (P := l.prog) (w := w) (base := base) (κ := κ) (n := 2) D_l_next D_l_mixed (G_l_mixed.mono (by decide)) D_l_cell_at (G_l_cell_at.mono (by decide))
  have L_l_set : ∀ n, FnOk l.prog w K mg base CX0 (n + 3) _ _ ["_law_script", "_law_row_here", "_law_flat", "_law_hang", "_law_state", "_law_salt"] (SpE 6 K κ (zd3 [false, false, false, false, true, false]) (zz5 (yc8 wa1 xl4) n)) := fun n => by
    induction n with
    | zero => exact FnOk.noneE (ps := ["_law_script", "_law_row_here", "_law_flat", "_law_hang", "_law_state", "_law_salt"])
    | succ n ih => exact wk0 D_l_set D_l_line (G_l_line.mono (by omega)) D_l_column (G_l_column.mono (by omega)) D_l_next (G_l_next.mono (by omega)) ih z_len z_int
  have G_l_set := L_l_set 8
  have G_l_drawn := xy1 (P := l.prog) (w := w) (base := base) (κ := κ) (n := 11) D_l_drawn D_l_set (G_l_set.mono (by decide)) z_tuple
  have G_Setter_init := xf6 (P := l.prog) (w := w) (base := base) (κ := κ) (n := 0) K_Setter cl_Setter na_choices na_used na_column na_parts
  have G_p_holds_rows := xa2 (P := l.prog) (w := w) (base := base) (κ := κ) (n := 0) D_p_holds_rows g_HOLDERS k_HOLDERS
  have G_p_new_line := xj8 (P := l.prog) (w := w) (base := base) (κ := κ) (n := 0) D_p_new_line
  have G_p_writing := xo2 (P := l.prog) (w := w) (base := base) (κ := κ) (n := 1) D_p_writing D_p_new_line (G_p_new_line.mono (by decide)) cl_Place na_broken na_margin
  have G_p_ends_line := xf4 (P := l.prog) (w := w) (base := base) (κ := κ) (n := 0) D_p_ends_line
  have G_p_column_behind := yr1 (P := l.prog) (w := w) (base := base) (κ := κ) (n := 1) D_p_column_behind D_p_ends_line (G_p_ends_line.mono (by decide)) z_len
  have G_Setter_set_plain := yp4 (P := l.prog) (w := w) (base := base) (κ := κ) (n := 2) M_Setter_set_plain D_p_writing (G_p_writing.mono (by decide)) D_p_column_behind (G_p_column_behind.mono (by decide)) cl_Setter na_column na_parts
  have G_Place_init := xk0 (P := l.prog) (w := w) (base := base) (κ := κ) (n := 0) K_Place cl_Place na_broken na_margin
  have G_p_ways := wd7 (P := l.prog) (w := w) (base := base) (κ := κ) (n := 1) D_p_ways K_Place (G_Place_init.mono (by decide)) cl_Place na_broken na_margin
  have G_p_takes_choice := yu8 (P := l.prog) (w := w) (base := base) (κ := κ) (n := 0) D_p_takes_choice cl_Place na_broken
  have G_Setter_choice_below := yk4 (P := l.prog) (w := w) (base := base) (κ := κ) (n := 0) M_Setter_choice_below cl_Setter na_used na_choices z_len
  have L_Setter_set_row : ∀ n, FnOk l.prog w K mg base CX0 (2 * n + 3) _ _ ["self", "row", "place"] (SpE 3 K κ (zd3 [true, false, false]) (yh0 n)) := fun n => by
    induction n with
    | zero => exact FnOk.noneE (ps := ["self", "row", "place"])
    | succ n ih => exact yu9 (n := 2 * n + 4) M_Setter_set_row D_p_holds_rows (G_p_holds_rows.mono (by omega)) M_Setter_set_holder (yn1 (n := 2 * n + 3) M_Setter_set_holder D_p_ways (G_p_ways.mono (by omega)) D_p_takes_choice (G_p_takes_choice.mono (by omega)) M_Setter_choice_below (G_Setter_choice_below.mono (by omega)) M_Setter_set_row ih z_len) M_Setter_set_plain (G_Setter_set_plain.mono (by omega))
  have G_Setter_set_row := L_Setter_set_row 8
  have G_p_first_place := yw8 (P := l.prog) (w := w) (base := base) (κ := κ) (n := 1) D_p_first_place K_Place (G_Place_init.mono (by decide))
  have G_Setter_whole_text := yn3 (P := l.prog) (w := w) (base := base) (κ := κ) (n := 0) M_Setter_whole_text cl_Setter na_used na_parts na_choices z_len
  have G_p_set_by := xr8 (P := l.prog) (w := w) (base := base) (κ := κ) (n := 18) D_p_set_by K_Setter (G_Setter_init.mono (by decide)) M_Setter_set_row (G_Setter_set_row.mono (by decide)) D_p_first_place (G_p_first_place.mono (by decide)) M_Setter_whole_text (G_Setter_whole_text.mono (by decide))
  have G_l_place := xy2 (P := l.prog) (w := w) (base := base) (κ := κ) (n := 0) D_l_place z_range z_min z_len
  have G_law := ww1 (P := l.prog) (w := w) (base := base) (κ := κ) (n := 20) D_law D_l_mixed (G_l_mixed.mono (by decide)) D_l_number (G_l_number.mono (by decide)) D_l_cell_at (G_l_cell_at.mono (by decide)) D_l_ordered (G_l_ordered.mono (by decide)) D_l_row (G_l_row.mono (by decide)) D_l_drawn (G_l_drawn.mono (by decide)) D_p_set_by (G_p_set_by.mono (by decide)) D_l_place (G_l_place.mono (by decide)) z_range z_len z_tuple
  exact kc7 G_law fun ns hl => xz4 (by decide) (by decide) (zr3 ns) (fun j s h0 h1 h2 h3 => wm0 hl j s h0 h1 h2 h3) (fun j _ _ => ⟨_, wh0 ns j⟩)
end My
open PySem PySem.W PyProof.Rows
set_option maxRecDepth 100000 in
set_option maxHeartbeats 0 in
theorem PySem.Challenge.cw_linepress_k13_earlier_holds : PySem.Challenge.rw_linepress_k13_earlier.Holds := by
  w_on; o_law; k_head; (case hw => w_witness2)
  k_fill
  refine My.kc8 (lev := 21) (l := PySem.Challenge.rw_linepress_k13_earlier) rfl rfl ⟨rfl, by decide, by decide⟩ (fun w h Y => PySem.W.kIn_of Y) ?F
  case F =>
    intro w mg fa h KX G hmg
    refine' My.wx4 KX G hmg ?my_a0 ?my_l0 ?my_c0 ?my_k0 ?my_a1 ?my_l1 ?my_c1 ?my_k1 ?my_a2 ?my_l2 ?my_c2 ?my_k2 ?my_a3 ?my_l3 ?my_c3 ?my_k3 ?my_a4 ?my_l4 ?my_c4 ?my_k4 ?my_a5 ?my_l5 ?my_c5 ?my_k5 ?my_a6 ?my_l6 ?my_c6 ?my_k6 ?my_a7 ?my_l7 ?my_c7 ?my_k7 ?my_a8 ?my_l8 ?my_c8 ?my_k8 ?my_a9 ?my_l9 ?my_c9 ?my_k9 ?my_a10 ?my_l10 ?my_c10 ?my_k10 ?my_a11 ?my_l11 ?my_c11 ?my_k11 ?my_a12 ?my_l12 ?my_c12 ?my_k12 ?my_a13 ?my_l13 ?my_c13 ?my_k13 ?my_a14 ?my_l14 ?my_c14 ?my_k14 ?my_a15 ?my_l15 ?my_c15 ?my_k15 ?my_a16 ?my_l16 ?my_c16 ?my_k16 ?my_a17 ?my_l17 ?my_c17 ?my_k17 ?my_a18 ?my_l18 ?my_c18 ?my_k18 ?my_a19 ?my_l19 ?my_c19 ?my_k19 ?my_a20 ?my_l20 ?my_c20 ?my_k20 ?my_a21 ?my_l21 ?my_c21 ?my_k21 ?my_a22 ?my_l22 ?my_c22 ?my_k22 ?my_a23 ?my_l23 ?my_c23 ?my_k23 ?my_a24 ?my_l24 ?my_c24 ?my_k24 ?my_z0 ?my_z1 ?my_z2 ?my_z3 ?my_z4 ?my_z5 ?my_g0 ?my_dtHOLDERS ?my_gC_Place ?my_pg_Place ?my_hd_Place ?my_po_Place ?my_sa_Place ?my_mk_Place ?my_kc_Place ?my_fi_Place_init ?my_is_Place_init ?my_lo_Place_init ?my_co_Place_init ?my_ke_Place_init ?my_nf_broken ?my_nf_margin ?my_gC_Setter ?my_pg_Setter ?my_hd_Setter ?my_po_Setter ?my_sa_Setter ?my_mk_Setter ?my_kc_Setter ?my_fi_Setter_init ?my_is_Setter_init ?my_lo_Setter_init ?my_co_Setter_init ?my_ke_Setter_init ?my_fi_Setter_choice_below ?my_is_Setter_choice_below ?my_lo_Setter_choice_below ?my_co_Setter_choice_below ?my_ke_Setter_choice_below ?my_fi_Setter_set_plain ?my_is_Setter_set_plain ?my_lo_Setter_set_plain ?my_co_Setter_set_plain ?my_ke_Setter_set_plain ?my_fi_Setter_set_holder ?my_is_Setter_set_holder ?my_lo_Setter_set_holder ?my_co_Setter_set_holder ?my_ke_Setter_set_holder ?my_fi_Setter_set_row ?my_is_Setter_set_row ?my_lo_Setter_set_row ?my_co_Setter_set_row ?my_ke_Setter_set_row ?my_fi_Setter_whole_text ?my_is_Setter_whole_text ?my_lo_Setter_whole_text ?my_co_Setter_whole_text ?my_ke_Setter_whole_text ?my_nf_choices ?my_nf_used ?my_nf_column ?my_nf_parts
    (case my_a0 => k_is)
    (case my_l0 => k_is)
    (case my_c0 => k_is)
    (case my_k0 => k_is)
    (case my_a1 => k_is)
    (case my_l1 => k_is)
    (case my_c1 => k_is)
    (case my_k1 => k_is)
    (case my_a2 => k_is)
    (case my_l2 => k_is)
    (case my_c2 => k_is)
    (case my_k2 => k_is)
    (case my_a3 => k_is)
    (case my_l3 => k_is)
    (case my_c3 => k_is)
    (case my_k3 => k_is)
    (case my_a4 => k_is)
    (case my_l4 => k_is)
    (case my_c4 => k_is)
    (case my_k4 => k_is)
    (case my_a5 => k_is)
    (case my_l5 => k_is)
    (case my_c5 => k_is)
    (case my_k5 => k_is)
    (case my_a6 => k_is)
    (case my_l6 => k_is)
    (case my_c6 => k_is)
    (case my_k6 => k_is)
    (case my_a7 => k_is)
    (case my_l7 => k_is)
    (case my_c7 => k_is)
    (case my_k7 => k_is)
    (case my_a8 => k_is)
    (case my_l8 => k_is)
    (case my_c8 => k_is)
    (case my_k8 => k_is)
    (case my_a9 => k_is)
    (case my_l9 => k_is)
    (case my_c9 => k_is)
    (case my_k9 => k_is)
    (case my_a10 => k_is)
    (case my_l10 => k_is)
    (case my_c10 => k_is)
    (case my_k10 => k_is)
    (case my_a11 => k_is)
    (case my_l11 => k_is)
    (case my_c11 => k_is)
    (case my_k11 => k_is)
    (case my_a12 => k_is)
    (case my_l12 => k_is)
    (case my_c12 => k_is)
    (case my_k12 => k_is)
    (case my_a13 => k_is)
    (case my_l13 => k_is)
    (case my_c13 => k_is)
    (case my_k13 => k_is)
    (case my_a14 => k_is)
    (case my_l14 => k_is)
    (case my_c14 => k_is)
    (case my_k14 => k_is)
    (case my_a15 => k_is)
    (case my_l15 => k_is)
    (case my_c15 => k_is)
    (case my_k15 => k_is)
    (case my_a16 => k_is)
    (case my_l16 => k_is)
    (case my_c16 => k_is)
    (case my_k16 => k_is)
    (case my_a17 => k_is)
    (case my_l17 => k_is)
    (case my_c17 => k_is)
    (case my_k17 => k_is)
    (case my_a18 => k_is)
    (case my_l18 => k_is)
    (case my_c18 => k_is)
    (case my_k18 => k_is)
    (case my_a19 => k_is)
    (case my_l19 => k_is)
    (case my_c19 => k_is)
    (case my_k19 => k_is)
    (case my_a20 => k_is)
    (case my_l20 => k_is)
    (case my_c20 => k_is)
    (case my_k20 => k_is)
    (case my_a21 => k_is)
    (case my_l21 => k_is)
    (case my_c21 => k_is)
    (case my_k21 => k_is)
    (case my_a22 => k_is)
    (case my_l22 => k_is)
    (case my_c22 => k_is)
    (case my_k22 => k_is)
    (case my_a23 => k_is)
    (case my_l23 => k_is)
    (case my_c23 => k_is)
    (case my_k23 => k_is)
    (case my_a24 => k_is)
    (case my_l24 => k_is)
    (case my_c24 => k_is)
    (case my_k24 => k_is)
    (case my_z0 => k_is)
    (case my_z1 => k_is)
    (case my_z2 => k_is)
    (case my_z3 => k_is)
    (case my_z4 => k_is)
    (case my_z5 => k_is)
    (case my_g0 => k_is)
    (case my_dtHOLDERS => k_is)
    (case my_gC_Place => k_is)
    (case my_pg_Place => k_is)
    (case my_hd_Place => k_is)
    (case my_po_Place => k_is)
    (case my_sa_Place => k_is)
    (case my_mk_Place => k_is)
    (case my_kc_Place => k_is)
    (case my_fi_Place_init => k_is)
    (case my_is_Place_init => k_is)
    (case my_lo_Place_init => k_is)
    (case my_co_Place_init => k_is)
    (case my_ke_Place_init => k_is)
    (case my_nf_broken => k_is)
    (case my_nf_margin => k_is)
    (case my_gC_Setter => k_is)
    (case my_pg_Setter => k_is)
    (case my_hd_Setter => k_is)
    (case my_po_Setter => k_is)
    (case my_sa_Setter => k_is)
    (case my_mk_Setter => k_is)
    (case my_kc_Setter => k_is)
    (case my_fi_Setter_init => k_is)
    (case my_is_Setter_init => k_is)
    (case my_lo_Setter_init => k_is)
    (case my_co_Setter_init => k_is)
    (case my_ke_Setter_init => k_is)
    (case my_fi_Setter_choice_below => k_is)
    (case my_is_Setter_choice_below => k_is)
    (case my_lo_Setter_choice_below => k_is)
    (case my_co_Setter_choice_below => k_is)
    (case my_ke_Setter_choice_below => k_is)
    (case my_fi_Setter_set_plain => k_is)
    (case my_is_Setter_set_plain => k_is)
    (case my_lo_Setter_set_plain => k_is)
    (case my_co_Setter_set_plain => k_is)
    (case my_ke_Setter_set_plain => k_is)
    (case my_fi_Setter_set_holder => k_is)
    (case my_is_Setter_set_holder => k_is)
    (case my_lo_Setter_set_holder => k_is)
    (case my_co_Setter_set_holder => k_is)
    (case my_ke_Setter_set_holder => k_is)
    (case my_fi_Setter_set_row => k_is)
    (case my_is_Setter_set_row => k_is)
    (case my_lo_Setter_set_row => k_is)
    (case my_co_Setter_set_row => k_is)
    (case my_ke_Setter_set_row => k_is)
    (case my_fi_Setter_whole_text => k_is)
    (case my_is_Setter_whole_text => k_is)
    (case my_lo_Setter_whole_text => k_is)
    (case my_co_Setter_whole_text => k_is)
    (case my_ke_Setter_whole_text => k_is)
    (case my_nf_choices => k_is)
    (case my_nf_used => k_is)
    (case my_nf_column => k_is)
    (case my_nf_parts => k_is)
#print axioms PySem.Challenge.cw_linepress_k13_earlier_holds

