import PyProof.Rows.All
import Wide.All
import OpenK.AllK
import Wide.FinOn
import Lean
import PyProof.EqAt
import PyProof.EqKinds
import PyProof.TupleCall
import PySem.Challenge.RW_linepress_k15_written
set_option Elab.async false
set_option linter.all false
set_option maxRecDepth 100000
set_option maxHeartbeats 1000000
namespace L2
open PySem PySem.Spec PyProof.Rows
abbrev Key := Sum Int Str
def keyIs : Key → Value → Bool
  | .inl k, v => Value.isInt k v
  | .inr x, v => Value.isStrOf x v
def keyH (w : World) : Key → Int
  | .inl k => hashInt k
  | .inr x => hashStr w x
theorem keyIs_shape : ∀ {k : Key} {v : Value}, keyIs k v = true → (∃ i t, k = Sum.inl i ∧ v = Value.int i t) ∨ (∃ x t, k = Sum.inr x ∧ v = Value.str x t)
  | .inl i, v, h => by
    obtain ⟨t, e⟩ := Value.isInt_shape (k := i) (v := v) h
    exact .inl ⟨i, t, rfl, e⟩
  | .inr x, v, h => by
    obtain ⟨t, e⟩ := Value.isStrOf_shape (x := x) (v := v) h
    exact .inr ⟨x, t, rfl, e⟩
theorem keyIs_int (i : Int) (t : Tok) : keyIs (.inl i) (.int i t) = true := by simp [keyIs, Value.isInt]
theorem keyIs_str (x : Str) (t : Tok) : keyIs (.inr x) (.str x t) = true := by simp [keyIs, Value.isStrOf]
theorem key_ll (a b : Int) : decide ((Sum.inl a : Key) = Sum.inl b) = (a == b) := by
  by_cases e : a = b
  · subst e; simp
  · have h : ¬ (Sum.inl a : Key) = Sum.inl b := fun q => e (Sum.inl.inj q)
    rw [decide_eq_false h]
    exact (beq_eq_false_iff_ne.mpr e).symm
theorem key_rr (a b : Str) : decide ((Sum.inr a : Key) = Sum.inr b) = decide (a = b) := by
  by_cases e : a = b
  · subst e; simp
  · have h : ¬ (Sum.inr a : Key) = Sum.inr b := fun q => e (Sum.inr.inj q)
    rw [decide_eq_false h, decide_eq_false e]
theorem key_lr (a : Int) (b : Str) : decide ((Sum.inl a : Key) = Sum.inr b) = false := decide_eq_false (fun q => nomatch q)
theorem key_rl (a : Str) (b : Int) : decide ((Sum.inr a : Key) = Sum.inl b) = false := decide_eq_false (fun q => nomatch q)
def mixKind (prog : Program) (w : World) : PySem.KeyKind prog w Key where
  is := keyIs
  hash := keyH w
  inj := fun v a b ha hb => by
    rcases keyIs_shape ha with ⟨i, t, rfl, rfl⟩ | ⟨x, t, rfl, rfl⟩
    · rcases keyIs_shape hb with ⟨j, u, rfl, e⟩ | ⟨y, u, rfl, e⟩
      · injection e with e1 _; rw [e1]
      · exact nomatch e
    · rcases keyIs_shape hb with ⟨j, u, rfl, e⟩ | ⟨y, u, rfl, e⟩
      · exact nomatch e
      · injection e with e1 _; rw [e1]
  byValue := fun k v h => by
    rcases keyIs_shape h with ⟨i, t, rfl, rfl⟩ | ⟨x, t, rfl, rfl⟩ <;> rfl
  pyHash := fun hv h => by
    rcases keyIs_shape hv with ⟨i, t, rfl, rfl⟩ | ⟨x, t, rfl, rfl⟩
    · exact wpAny_pyHash_int h
    · exact wpAny_pyHash_str h
  eqBool := fun hu hv h => by
    rcases keyIs_shape hu with ⟨i, t, rfl, rfl⟩ | ⟨x, t, rfl, rfl⟩
    · rcases keyIs_shape hv with ⟨j, u, rfl, rfl⟩ | ⟨y, u, rfl, rfl⟩
      · rw [key_ll] at h; exact wpAny_eqBool_int h
      · rw [key_lr] at h; exact SeqAt.EqAt.int_str i t y u _ _ _ _ h
    · rcases keyIs_shape hv with ⟨j, u, rfl, rfl⟩ | ⟨y, u, rfl, rfl⟩
      · rw [key_rl] at h; exact SeqAt.EqAt.str_int x t j u _ _ _ _ h
      · rw [key_rr] at h; exact wpAny_eqBool_str h
  «strs» := fun k x t v h => by
    rcases keyIs_shape h with ⟨i, u, rfl, e⟩ | ⟨y, u, rfl, e⟩
    · exact nomatch e
    · injection e with e1 _
      subst e1
      cases v <;> rfl
theorem mixKind_int (prog : Program) (w : World) (i : Int) (t : Tok) : (mixKind prog w).is (.inl i) (.int i t) = true := keyIs_int i t
theorem mixKind_str (prog : Program) (w : World) (x : Str) (t : Tok) : (mixKind prog w).is (.inr x) (.str x t) = true := keyIs_str x t
end L2
namespace L2
open PySem PySem.Spec PyProof.Rows
inductive V where
  | non | bl (b : Bool) | int (i : Int) | str (x : Str) | byt (b : Array UInt8) | flt (b : UInt64) | ref (a : Addr) | ty (n : String)
  deriving DecidableEq
def RelV : V → Value → Prop
  | .non, u => u = Value.none
  | .bl b, u => u = Value.bool b
  | .int i, u => ∃ t, u = Value.int i t
  | .str x, u => ∃ t, u = Value.str x t
  | .byt b, u => ∃ t, u = Value.bytes b t
  | .flt b, u => ∃ t, u = Value.float b t
  | .ref a, u => u = Value.ref a
  | .ty n, u => u = Value.type n
abbrev Vals : List V → List Value → Prop := Paired RelV
theorem Vals.length {xs : List V} {us : List Value} (r : Vals xs us) : xs.length = us.length := Paired.length r
theorem Vals.get : ∀ {xs : List V} {us : List Value} {i : Nat} {x : V}, Vals xs us → xs[i]? = some x → ∃ u, us[i]? = some u ∧ RelV x u
  | _, _, _, _, .nil, e => by simp at e
  | _, _, 0, _, .cons r _, e => by simp at e; subst e; exact ⟨_, rfl, r⟩
  | _, _, i + 1, x, .cons _ t, e => by
    obtain ⟨u, h1, h2⟩ := Vals.get (i := i) (x := x) t (by simpa using e)
    exact ⟨u, by simpa using h1, h2⟩
theorem Vals.set {x : V} {u : Value} (r : RelV x u) : ∀ {xs : List V} {us : List Value} (i : Nat), Vals xs us → Vals (xs.set i x) (us.set i u)
  | _, _, _, .nil => .nil
  | _, _, 0, .cons _ t => .cons r t
  | _, _, i + 1, .cons q t => .cons q (Vals.set r i t)
theorem Vals.append : ∀ {xs ys : List V} {us ws : List Value}, Vals xs us → Vals ys ws → Vals (xs ++ ys) (us ++ ws)
  | _, _, _, _, .nil, s => s
  | _, _, _, _, .cons r t, s => .cons r (Vals.append t s)
theorem Vals.take : ∀ {xs : List V} {us : List Value} (n : Nat), Vals xs us → Vals (xs.take n) (us.take n)
  | _, _, 0, _ => .nil
  | _, _, _ + 1, .nil => .nil
  | _, _, n + 1, .cons r t => .cons r (Vals.take n t)
theorem Vals.drop : ∀ {xs : List V} {us : List Value} (n : Nat), Vals xs us → Vals (xs.drop n) (us.drop n)
  | _, _, 0, r => r
  | _, _, _ + 1, .nil => .nil
  | _, _, n + 1, .cons _ t => Vals.drop n t
def RelO : Option V → Option Value → Prop
  | some v, some u => RelV v u
  | none, none => True
  | _, _ => False
def KV {κ : Type} : List (κ × V) → List (κ × Value) → Prop := Paired fun (p : κ × V) (q : κ × Value) => p.1 = q.1 ∧ RelV p.2 q.2
def kV : Key → V
  | .inl i => .int i
  | .inr x => .str x
inductive HO where
  | lst (xs : List V)
  | tup (xs : List V)
  | dK (kvs : List (Key × V)) | dT (kvs : List (List Key × V))
  | set (S : Int → Bool) (n : Nat)
  | ins (C dx : Addr) (fs : List (Str × V))
  | own (x : Addr)
  | xd (fs : List (Str × V))
  | met (f x : Addr)
  | rng (lo hi : Int)
  | frz (o : Obj) (u : HO)
  | tbl (ps : Array Value)
  | ext (φ : Heap → Prop)
abbrev Hp := Addr → Option HO
def upd (H : Hp) (a : Addr) (o : HO) : Hp := fun b => if b = a then some o else H b
theorem upd_same {H : Hp} {a : Addr} {o : HO} : upd H a o a = some o := by unfold upd; rw [if_pos rfl]
theorem upd_ne {H : Hp} {a b : Addr} {o : HO} (h : b ≠ a) : upd H a o b = H b := by unfold upd; rw [if_neg h]
theorem ne_of_none {H : Hp} {a b : Addr} {o : HO} (h : H a = some o) (h' : H b = none) : a ≠ b := by
  intro e; subst e; rw [h] at h'; cases h'
section
variable (P : Program) (w : World)
def ObjOk (H : Hp) (h : Heap) (a : Addr) : HO → Prop
  | .lst xs => xs.length ≤ sizeLine ∧ ∃ (its : List Value) (n : Nat), Vals xs its ∧ h.get? a = some { cls := .type "list", data := .seq its.toArray n }
  | .tup xs => xs.length ≤ sizeLine ∧ ∃ its : List Value, Vals xs its ∧ IsTup h a its.toArray
  | .dK kvs => kvs.length ≤ sizeLine ∧ (a == sysModules) = false ∧ ∃ vs, KV kvs vs ∧ h.DictOf (mixKind P w) a vs
  | .dT kvs => kvs.length ≤ sizeLine ∧ (a == sysModules) = false ∧ ∃ xs : List (List Key × Addr × Value),
      Paired (fun (p : List Key × V) (q : List Key × Addr × Value) => p.1 = q.1 ∧ H q.2.1 = some (.tup (p.1.map kV)) ∧ RelV p.2 q.2.2) kvs xs ∧
      ∃ o es ep, h.get? a = some o ∧ o.ExactDict ∧ o.data = .dict es ep ∧ es.toList = xs.map (entryOfKey (tupleKind (mixKind P w))) ∧ (xs.map (·.1)).Nodup
  | .set S n => h.SetOf (intKind P w) a S n
  | .ins C dx fs => H dx = some (.own a) ∧ fs.length ≤ 1000 ∧ dx ≠ a ∧ h.get? a = some (PySem.W.instObj C dx) ∧
      ∃ mA, h.Ns1 dx mA ∧ (∀ f, RelO (fs.lookup f) (mA f)) ∧ PySem.Within mA (fs.map (·.1))
  | .own _ => ∃ o, h.get? a = some o
  | .xd fs => ∃ mA, h.Ns1 a mA ∧ ∀ f, RelO (fs.lookup f) (mA f)
  | .rng lo hi => ∃ t u v, h.get? a = some { cls := .type "range", data := .fields #[.int lo t, .int hi u, .int 1 v] }
  | .frz o u => h.get? a = some o ∧ ObjOk H h a u
  | .tbl ps => h.get? a = some { cls := .none, data := .fields ps }
  | .met f x => h.get? a = some (PySem.W.methodObj (.ref f) (.ref x))
  | .ext φ => φ h ∧ (∃ o, h.get? a = some o) ∧ ∀ h1 h2 : Heap, φ h1 → (∀ o, h1.get? a = some o → h2.get? a = some o) → φ h2
def HOk (H : Hp) (h : Heap) : Prop := ∀ a o, H a = some o → ObjOk P w H h a o
end
section
variable {P : Program} {w : World} {H H' : Hp} {h h' : Heap} {a : Addr} {o : HO}
theorem ObjOk.lt (x : ObjOk P w H h a o) : a < h.objs.size := by
  cases o with
  | lst xs => obtain ⟨_, _, _, _, e⟩ := x; exact Heap.lt_size e
  | tup xs => obtain ⟨_, _, _, p⟩ := x; exact p.lt
  | dK kvs => obtain ⟨_, _, _, _, o, _, _, e, _⟩ := x; exact Heap.lt_size e
  | dT kvs => obtain ⟨_, _, _, _, o, _, _, e, _⟩ := x; exact Heap.lt_size e
  | set S n => obtain ⟨o, _, _, _, e, _⟩ := x; exact Heap.lt_size e
  | ins C dx fs => obtain ⟨_, _, _, e, _⟩ := x; exact Heap.lt_size e
  | own y => obtain ⟨_, e⟩ := x; exact Heap.lt_size e
  | xd fs => obtain ⟨_, ⟨_, _, _, e, _⟩, _⟩ := x; exact Heap.lt_size e
  | rng lo hi => obtain ⟨_, _, _, e⟩ := x; exact Heap.lt_size e
  | frz ob u => obtain ⟨e, _⟩ := x; exact Heap.lt_size e
  | tbl ps => exact Heap.lt_size (show h.get? a = some _ from x)
  | met f y => exact Heap.lt_size (show h.get? a = some _ from x)
  | ext φ => obtain ⟨_, ⟨_, e⟩, _⟩ := x; exact Heap.lt_size e
theorem Paired.mapP {α β : Type} {F G : α → β → Prop} : ∀ {l₁ : List α} {l₂ : List β}, Paired F l₁ l₂ → (∀ a b, F a b → G a b) → Paired G l₁ l₂
  | _, _, .nil, _ => .nil
  | _, _, .cons r t, f => .cons (f _ _ r) (Paired.mapP t f)
theorem ObjOk.stay (x : ObjOk P w H h a o) (k : ∀ b u, (b = a ∨ H b = some (.own a)) → h.get? b = some u → h'.get? b = some u)
    (ho : ∀ b, H b = some (.own a) → H' b = some (.own a)) (ht : ∀ b xs, H b = some (.tup xs) → H' b = some (.tup xs)) : ObjOk P w H' h' a o := by
  induction o with
  | lst xs => obtain ⟨z, its, n, r, e⟩ := x; exact ⟨z, its, n, r, k _ _ (.inl rfl) e⟩
  | tup xs => obtain ⟨z, its, r, ob, e, c⟩ := x; exact ⟨z, its, r, ob, k _ _ (.inl rfl) e, c⟩
  | dK kvs => obtain ⟨z, y, vs, r, ob, es, ep, e, c⟩ := x; exact ⟨z, y, vs, r, ob, es, ep, k _ _ (.inl rfl) e, c⟩
  | dT kvs =>
    obtain ⟨z, y, xs, r, ob, es, ep, e, c⟩ := x
    exact ⟨z, y, xs, Paired.mapP r fun p q z => ⟨z.1, ht _ _ z.2.1, z.2.2⟩, ob, es, ep, k _ _ (.inl rfl) e, c⟩
  | set S n => obtain ⟨ob, es, ep, t, e, c⟩ := x; exact ⟨ob, es, ep, t, k _ _ (.inl rfl) e, c⟩
  | ins C dx fs =>
    obtain ⟨d, z, ne, e, mA, ⟨od, es, ep, e2, c⟩, r⟩ := x
    exact ⟨ho _ d, z, ne, k _ _ (.inl rfl) e, mA, ⟨od, es, ep, k _ _ (.inr d) e2, c⟩, r⟩
  | own y => obtain ⟨ob, e⟩ := x; exact ⟨ob, k _ _ (.inl rfl) e⟩
  | xd fs => obtain ⟨mA, ⟨od, es, ep, e, c⟩, r⟩ := x; exact ⟨mA, ⟨od, es, ep, k _ _ (.inl rfl) e, c⟩, r⟩
  | rng lo hi => obtain ⟨t, u, v, e⟩ := x; exact ⟨t, u, v, k _ _ (.inl rfl) e⟩
  | frz ob u ih => obtain ⟨e, q⟩ := x; exact ⟨k _ _ (.inl rfl) e, ih q⟩
  | tbl ps =>
    have e : h.get? a = some { cls := .none, data := .fields ps } := x
    show h'.get? a = some { cls := .none, data := .fields ps }
    exact k a _ (.inl rfl) e
  | met f y =>
    have e : h.get? a = some (PySem.W.methodObj (.ref f) (.ref y)) := x
    show h'.get? a = some (PySem.W.methodObj (.ref f) (.ref y))
    exact k a _ (.inl rfl) e
  | ext φ => obtain ⟨p, ⟨o, e⟩, st⟩ := x; exact ⟨st _ _ p fun o q => k _ _ (.inl rfl) q, ⟨o, k _ _ (.inl rfl) e⟩, st⟩
theorem HOk.lt (x : HOk P w H h) (e : H a = some o) : a < h.objs.size := (x a o e).lt
theorem HOk.fresh (x : HOk P w H h) (e : h.objs.size ≤ a) : H a = none := by
  cases q : H a with
  | none => rfl
  | some u => exact absurd (Nat.lt_of_lt_of_le (x.lt q) e) (Nat.lt_irrefl _)
theorem HOk.kept (x : HOk P w H h) (k : ∀ b u, h.get? b = some u → h'.get? b = some u) : HOk P w H h' := fun a o e =>
  (x a o e).stay (fun b u _ q => k b u q) (fun _ q => q) fun _ _ q => q
theorem HOk.laid (x : HOk P w H h) (k : ∀ b u, h.get? b = some u → h'.get? b = some u) (hp : h.objs.size ≤ a) (new : ObjOk P w (upd H a o) h' a o) : HOk P w (upd H a o) h' := fun b u e => by
  have hn := x.fresh hp
  by_cases hb : b = a
  · subst hb; rw [upd_same] at e; cases e; exact new
  · rw [upd_ne hb] at e
    exact (x b u e).stay (fun c v _ q => k c v q) (fun c q => by rw [upd_ne (ne_of_none q hn)]; exact q) fun c xs q => by rw [upd_ne (ne_of_none q hn)]; exact q
end
def Rd (H : Hp) (a : Addr) (u : HO) : Prop := H a = some u ∨ ∃ o, H a = some (.frz o u)
theorem Rd.of {H : Hp} {a : Addr} {u : HO} (h : H a = some u) : Rd H a u := .inl h
theorem Rd.ok {P : Program} {w : World} {H : Hp} {h : Heap} {a : Addr} {u : HO} (r : Rd H a u) (x : HOk P w H h) : ObjOk P w H h a u := by
  rcases r with r | ⟨o, r⟩
  · exact x a u r
  · obtain ⟨_, q⟩ := x a _ r
    exact q
def Mut : Option HO → Prop
  | some (.lst _) => True
  | some (.dK _) => True
  | some (.dT _) => True
  | some (.set _ _) => True
  | some (.ins _ _ _) => True
  | some (.ext _) => True
  | _ => False
section
variable {P : Program} {w : World} {H : Hp} {h h' : Heap} {x e : Addr} {o' : HO}
theorem HOk.write (ok : HOk P w H h) (mu : Mut (H x)) (he : e = x ∨ H e = some (.own x)) (k : ∀ b u, b ≠ e → h.get? b = some u → h'.get? b = some u) (heo : ∃ u, h'.get? e = some u)
    (new : ObjOk P w (upd H x o') h' x o') : HOk P w (upd H x o') h' := fun b u q => by
  have nown : ∀ c y, H c = some (.own y) → c ≠ x := fun c y r z => by subst z; rw [r] at mu; exact mu
  have ntup : ∀ c xs, H c = some (.tup xs) → c ≠ x := fun c xs r z => by subst z; rw [r] at mu; exact mu
  by_cases hb : b = x
  · subst hb; rw [upd_same] at q; cases q; exact new
  · rw [upd_ne hb] at q
    by_cases hbe : b = e
    · have q' : H b = some (.own x) := by
        rcases he with z | z
        · exact absurd (hbe.trans z) hb
        · rw [hbe]; exact z
      rw [q] at q'; cases q'
      obtain ⟨v, hv⟩ := heo
      exact ⟨v, by rw [hbe]; exact hv⟩
    · refine (ok b u q).stay (fun c v hc r => k c v ?_ r) (fun c r => by rw [upd_ne (nown c b r)]; exact r) fun c xs r => by rw [upd_ne (ntup c xs r)]; exact r
      rcases hc with rfl | hc
      · exact hbe
      · rintro rfl
        rcases he with z | z
        · exact nown c b hc z
        · rw [hc] at z; cases z; exact hb rfl
end
structure Un (fs ex : List Addr) (H H' : Hp) (h h' : Heap) : Prop where
  keep : ∀ b o, h.get? b = some o → H b = none → b ∉ fs → b ∉ ex → h'.get? b = some o
  slot : ∀ b o, h.get? b = some o → H b = none → b ∈ fs → b ∉ ex → ∃ sl, h'.get? b = some { o with slots := sl }
  free : ∀ b o, h.get? b = some o → H b = none → b ∉ ex → H' b = none
  there : ∀ b o, h.get? b = some o → b ∉ ex → ∃ o', h'.get? b = some o'
  tups : ∀ b xs, H b = some (.tup xs) → H' b = some (.tup xs)
  frzs : ∀ b o u, H b = some (.frz o u) → H' b = some (.frz o u)
  tbls : ∀ b ps, H b = some (.tbl ps) → ∃ more, H' b = some (.tbl (ps ++ more))
section
variable {fs fs' ex ex' : List Addr} {H H1 H2 : Hp} {h h1 h2 h' : Heap} {a x e : Addr} {o : HO}
theorem Un.any (u : Un fs ex H H1 h h1) {b : Addr} {ob : Obj} (q : h.get? b = some ob) (n : H b = none) (hx : b ∉ ex) : ∃ sl, h1.get? b = some { ob with slots := sl } := by
  by_cases hb : b ∈ fs
  · exact u.slot b ob q n hb hx
  · exact ⟨ob.slots, u.keep b ob q n hb hx⟩
theorem Un.trans (a : Un fs ex H H1 h h1) (b : Un fs ex H1 H2 h1 h2) : Un fs ex H H2 h h2 where
  keep := fun c ob q n hc hx => b.keep c ob (a.keep c ob q n hc hx) (a.free c ob q n hx) hc hx
  slot := fun c ob q n hc hx => by
    obtain ⟨sl, e1⟩ := a.slot c ob q n hc hx
    obtain ⟨sl', e2⟩ := b.slot c _ e1 (a.free c ob q n hx) hc hx
    exact ⟨sl', e2⟩
  free := fun c ob q n hx => by
    obtain ⟨o', e1⟩ := a.there c ob q hx
    exact b.free c o' e1 (a.free c ob q n hx) hx
  there := fun c ob q hx => by
    obtain ⟨o', e1⟩ := a.there c ob q hx
    exact b.there c o' e1 hx
  tups := fun c xs q => b.tups c xs (a.tups c xs q)
  frzs := fun c ob xs q => b.frzs c ob xs (a.frzs c ob xs q)
  tbls := fun c ps q => by
    obtain ⟨m1, e1⟩ := a.tbls c ps q
    obtain ⟨m2, e2⟩ := b.tbls c _ e1
    exact ⟨m1 ++ m2, by rw [e2, Array.append_assoc]⟩
theorem Un.kept (k : ∀ b u, h.get? b = some u → h'.get? b = some u) : Un fs ex H H h h' :=
  ⟨fun b ob q _ _ _ => k b ob q, fun b ob q _ _ _ => ⟨ob.slots, k b ob q⟩, fun _ _ _ n _ => n, fun b ob q _ => ⟨ob, k b ob q⟩, fun _ _ q => q, fun _ _ _ q => q, fun _ ps q => ⟨#[], by rw [q]; simp⟩⟩
theorem Un.refl : Un fs ex H H h h := Un.kept fun _ _ q => q
theorem Un.laid (k : ∀ b u, h.get? b = some u → h'.get? b = some u) (hp : h.objs.size ≤ a) (hn : H a = none) : Un fs ex H (upd H a o) h h' where
  keep := fun b u q _ _ _ => k b u q
  slot := fun b u q _ _ _ => ⟨u.slots, k b u q⟩
  free := fun b u q n _ => by rw [upd_ne (Nat.ne_of_lt (Nat.lt_of_lt_of_le (Heap.lt_size q) hp))]; exact n
  there := fun b u q _ => ⟨u, k b u q⟩
  tups := fun b xs q => by rw [upd_ne (ne_of_none q hn)]; exact q
  frzs := fun b u xs q => by rw [upd_ne (ne_of_none q hn)]; exact q
  tbls := fun b ps q => ⟨#[], by rw [upd_ne (ne_of_none q hn), q]; simp⟩
theorem Un.write (mu : Mut (H x)) (he : e = x ∨ H e = some (.own x)) (k : ∀ b u, b ≠ e → h.get? b = some u → h'.get? b = some u) (heo : ∃ u, h'.get? e = some u) : Un fs ex H (upd H x o) h h' := by
  have hx : ∀ b, H b = none → b ≠ x := fun b n z => by subst z; rw [n] at mu; exact mu
  have hb : ∀ b, H b = none → b ≠ e := fun b n z => by
    subst z
    rcases he with r | r
    · exact hx b n r
    · rw [n] at r; cases r
  have hm : ∀ b u, H b = some u → ¬ Mut (some u) → b ≠ x := fun b u q nm z => by subst z; rw [q] at mu; exact nm mu
  refine ⟨fun b u q n _ _ => k b u (hb b n) q, fun b u q n _ _ => ⟨u.slots, k b u (hb b n) q⟩, fun b u q n _ => by rw [upd_ne (hx b n)]; exact n, fun b u q _ => ?_,
    fun b xs q => by rw [upd_ne (hm b _ q fun z => z)]; exact q, fun b u xs q => by rw [upd_ne (hm b _ q fun z => z)]; exact q, fun b ps q => ⟨#[], by rw [upd_ne (hm b _ q fun z => z), q]; simp⟩⟩
  by_cases hbe : b = e
  · subst hbe; exact heo
  · exact ⟨u, k b u hbe q⟩
theorem Un.mono (u : Un fs ex H H1 h h1) (hs : ∀ b ∈ fs, b ∈ fs') (hx : ∀ b ∈ ex, b ∈ ex') : Un fs' ex' H H1 h h1 :=
  ⟨fun b ob q n hb he => u.keep b ob q n (fun z => hb (hs b z)) fun z => he (hx b z), fun _ _ q n _ he => u.any q n fun z => he (hx _ z), fun b ob q n he => u.free b ob q n fun z => he (hx b z), fun b ob q he => u.there b ob q fun z => he (hx b z), u.tups, u.frzs, u.tbls⟩
end
def trk (h : Heap) (H : Hp) : List Addr := (List.range h.objs.size).filter fun a => (H a).isSome
def hidT (h : Heap) (H : Hp) : Heap := PySem.W.hideAll h (trk h H)
theorem hidT_size (h : Heap) (H : Hp) : (hidT h H).objs.size = h.objs.size := PySem.W.hideAll_size _ _
theorem hidT_get {h : Heap} {H : Hp} {b : Addr} {o : Obj} (e : h.get? b = some o) (n : H b = none) : (hidT h H).get? b = some o :=
  PySem.W.hideAll_get _ e fun hm => by
    have q : (H b).isSome = true := (List.mem_filter.mp hm).2
    rw [n] at q; simp at q
theorem of_hidT {h : Heap} {H : Hp} {b : Addr} {o : Obj} (e : (hidT h H).get? b = some o) : h.get? b = some o ∧ H b = none := by
  have e' : h.get? b = some o := PySem.W.of_hideAll (trk h H) e
  refine ⟨e', ?_⟩
  cases q : H b with
  | none => rfl
  | some x =>
    have hm : b ∈ trk h H := List.mem_filter.mpr ⟨List.mem_range.mpr (Heap.lt_size e'), by simp [q]⟩
    have z : (hidT h H).get? b = none := PySem.W.hideAll_none (trk h H) hm
    rw [z] at e; cases e
def allNews (g h : Heap) (L : Addr) : List (Addr × Obj) := (List.range h.objs.size).filterMap fun a => if a = L ∨ (g.get? a).isSome = true then none else (h.get? a).map fun o => (a, o)
def rest (g h : Heap) (L d : Addr) : List (Addr × Obj) := (allNews g h L).filter fun p => decide (p.1 ≠ d)
end L2
namespace L2
open PySem PySem.Spec PyProof.Rows
structure Mod (K : PySem.W.Frag) (mg : Str → Option Value) (base : Heap) : Prop where
  kin : K.In base
  glob : base.Ns mainGlobals mg
  blt : ∃ mb, base.Ns builtinsNs mb ∧ ∀ x : Str, x ≠ "__name__" → mb x = bootBuiltins x
  nolimit : base.NoLimit
structure Cx where
  prog : Program
  w : World
  K : PySem.W.Frag
  mg : Str → Option Value
  base : Heap
  A : Around
  N : List Str
  s₀ : Shared
  H₀ : Hp
  env : Env
  outer : List Env
  stack : List Env
  ex : List Addr
  fn : Str → Bool
  calm : Bool
  pn : List (Addr × Obj)
  xe : Value → Shared → Prop
def frs (l : List Env) : List Addr := l.filterMap (·.frame)
abbrev Cx.fs (X : Cx) : List Addr := frs X.outer
def Vis (sc : Scope) (x : Str) : Prop := sc.names.lookup x = some .local ∨ sc.names.lookup x = some .cell ∨ sc.names.lookup x = some .free
def Loc (sc : Scope) (x : Str) : Prop := sc.names.lookup x = some .local ∨ sc.names.lookup x = some .cell
def Look (env : Env) (h : Heap) (m : Str → Option Value) (x : Str) (u : Value) : Prop :=
  (env.kindOf x = some .local ∧ m x = some u) ∨ ((env.kindOf x = some .cell ∨ env.kindOf x = some .free) ∧ ∃ c, env.cells.lookup x = some c ∧ h.IsCell c (some u))
structure Cx.Ok (X : Cx) : Prop where
  mod : Mod X.K X.mg X.base
  kind : X.env.scope.kind = .function
  glob : X.env.globals = mainGlobals
  blt : X.env.builtins = builtinsNs
  above : X.s₀.heap.objs.size ≤ X.env.locals
  inj : ∀ x y c, X.env.cells.lookup x = some c → X.env.cells.lookup y = some c → x = y
  has : ∀ x, (X.env.kindOf x = some .cell ∨ X.env.kindOf x = some .free) → ∃ c, X.env.cells.lookup x = some c
  cab : ∀ x c, X.fn x = true → X.env.cells.lookup x = some c → X.s₀.heap.objs.size ≤ c
  hd : X.calm = true → X.A.handled = none
  frames : X.A.frames = some X.stack
  stk : X.stack = X.outer ∨ (X.stack = X.env :: X.outer ∧ X.env.frame = some X.env.locals)
  exf : ∀ b ∈ X.ex, b ≠ X.env.locals ∧ ∀ x c, X.env.cells.lookup x = some c → c ≠ b
  bs : ∀ b o, X.base.get? b = some o → X.s₀.heap.get? b = some o ∧ X.H₀ b = none
  bsz : X.base.objs.size ≤ X.s₀.heap.objs.size
  noex : ∀ b o, X.base.get? b = some o → b ∉ X.ex
  exfs : ∀ b ∈ X.ex, b ∉ X.fs
  funs : X.s₀.heap.FunFrames X.base X.outer
  frf : ∀ b ∈ X.fs, X.H₀ b = none
structure Inv (X : Cx) (pins : List (Addr × Obj)) (σ : List (Option V)) (H : Hp) (s : Shared) : Prop where
  ok : X.Ok
  os : s.os = X.s₀.os
  bare : AllBare s.gens
  base : Un X.fs X.ex X.H₀ H X.s₀.heap s.heap
  loc : ∃ m, s.heap.Ns X.env.locals m ∧ ∀ (i : Nat) (x : Str) (v : V), X.N[i]? = some x → σ[i]? = some (some v) → Vis X.env.scope x → ∃ u, RelV v u ∧ Look X.env s.heap m x u
  cell : ∀ x c, X.env.cells.lookup x = some c → ∃ v, s.heap.IsCell c v
  free : H X.env.locals = none
  freeC : ∀ x c, X.env.cells.lookup x = some c → H c = none
  pin : ∀ p ∈ X.pn ++ pins, s.heap.get? p.1 = some p.2 ∧ H p.1 = none ∧ p.1 ≠ X.env.locals ∧ p.1 ∉ X.fs ∧ ∀ v, p.2.data ≠ .cell v
  hok : HOk X.prog X.w H s.heap
  len : σ.length = X.N.length
section
variable {X : Cx} {pins : List (Addr × Obj)} {σ : List (Option V)} {H H' : Hp} {s : Shared} {h' : Heap}
theorem Cx.Ok.nofr (ok : X.Ok) {b : Addr} {o : Obj} (e : X.base.get? b = some o) : b ∉ X.fs := fun hb => by
  have := (ok.funs.mem hb).1
  rw [e] at this; cases this
theorem Inv.bs (I : Inv X pins σ H s) : ∀ b o, X.base.get? b = some o → s.heap.get? b = some o ∧ H b = none := fun b o e =>
  ⟨I.base.keep b o (I.ok.bs b o e).1 (I.ok.bs b o e).2 (I.ok.nofr e) (I.ok.noex b o e), I.base.free b o (I.ok.bs b o e).1 (I.ok.bs b o e).2 (I.ok.noex b o e)⟩
theorem Inv.bk (I : Inv X pins σ H s) : ∀ b o, X.base.get? b = some o → s.heap.get? b = some o := fun b o e => (I.bs b o e).1
theorem Inv.mod (I : Inv X pins σ H s) : Mod X.K X.mg X.base := I.ok.mod
theorem Inv.kIn (I : Inv X pins σ H s) : X.K.In s.heap := I.ok.mod.kin.keeps I.bk
theorem Inv.nolimit (I : Inv X pins σ H s) : s.heap.NoLimit := I.ok.mod.nolimit.keeps I.bk
theorem Inv.fr (I : Inv X pins σ H s) : ∃ m, Fr X.base X.env.locals s.heap m :=
  let ⟨m, hn, _⟩ := I.loc
  ⟨m, hn, I.bk, Nat.le_trans I.ok.bsz I.ok.above⟩
theorem Inv.lt (I : Inv X pins σ H s) : X.env.locals < s.heap.objs.size := let ⟨_, hn, _⟩ := I.loc; hn.lt
theorem Inv.sz (I : Inv X pins σ H s) : X.s₀.heap.objs.size ≤ s.heap.objs.size := Nat.le_trans I.ok.above (Nat.le_of_lt I.lt)
theorem Inv.nofs (I : Inv X pins σ H s) {a : Addr} (h : s.heap.objs.size ≤ a) : a ∉ X.fs := fun hb => by
  obtain ⟨_, o, ho, _⟩ := I.ok.funs.mem hb
  exact absurd (Nat.lt_of_lt_of_le (Heap.lt_size ho) (Nat.le_trans I.sz h)) (Nat.lt_irrefl _)
theorem Inv.cne (I : Inv X pins σ H s) : ∀ x c, X.env.cells.lookup x = some c → c ≠ X.env.locals := fun x c e z => by
  obtain ⟨v, o, ho, hd⟩ := I.cell x c e
  obtain ⟨m, ⟨o', es, ep, ho', hd', _⟩, _⟩ := I.loc
  rw [z, ho'] at ho; cases ho; rw [hd'] at hd; cases hd
theorem Inv.funs (I : Inv X pins σ H s) : s.heap.FunFrames X.base X.outer := by
  have all : ∀ (l : List Env), (∀ b ∈ frs l, b ∈ X.fs) → X.s₀.heap.FunFrames X.base l → s.heap.FunFrames X.base l := by
    intro l
    induction l with
    | nil => intro _ _; trivial
    | cons env r ih =>
      intro hs hl
      obtain ⟨hk, ⟨L, o, hf, hn, ho, hd⟩, hr⟩ := hl
      have hL : L ∈ X.fs := hs L (by unfold frs; rw [List.filterMap_cons, hf]; exact List.mem_cons_self)
      obtain ⟨sl, e⟩ := I.base.slot L o ho (I.ok.frf L hL) hL fun z => I.ok.exfs L z hL
      exact ⟨hk, ⟨L, _, hf, hn, e, hd⟩, ih (fun b hb => hs b (by unfold frs; rw [List.filterMap_cons, hf]; exact List.mem_cons_of_mem _ hb)) hr⟩
  exact all X.outer (fun _ hb => hb) I.ok.funs
theorem Inv.stack (I : Inv X pins σ H s) : s.heap.FunFrames X.base X.stack := by
  rcases I.ok.stk with e | ⟨e, hf⟩
  · rw [e]; exact I.funs
  · rw [e]
    obtain ⟨m, hn, _⟩ := I.loc
    refine .cons (by rw [I.ok.kind]; decide) hf hn ?_ I.funs
    exact Heap.get?_none_of_le (Nat.le_trans I.ok.bsz I.ok.above)
theorem Inv.stkSub (I : Inv X pins σ H s) : ∀ b ∈ frs X.stack, b ∈ X.env.locals :: X.fs := fun b hb => by
  rcases I.ok.stk with e | ⟨e, hf⟩
  · rw [e] at hb; exact List.mem_cons_of_mem _ hb
  · rw [e] at hb
    unfold frs at hb
    rw [List.filterMap_cons, hf] at hb
    exact hb
theorem Inv.stkFree (I : Inv X pins σ H s) : ∀ b ∈ frs X.stack, H b = none := fun b hb => by
  rcases List.mem_cons.mp (I.stkSub b hb) with e | hb
  · rw [e]; exact I.free
  · obtain ⟨_, o, ho, _⟩ := I.ok.funs.mem hb
    exact I.base.free b o ho (I.ok.frf b hb) fun z => I.ok.exfs b z hb
theorem Inv.step {g' : Array GenState} {t' : Nat} {d' : Drawn} {ch : List Addr} (I : Inv X pins σ H s)
    (hch : ∀ b ∈ ch, (b ∈ X.ex ∨ X.s₀.heap.objs.size ≤ b) ∧ b ≠ X.env.locals ∧ (∀ x c, X.env.cells.lookup x = some c → c ≠ b) ∧ ∀ p ∈ X.pn ++ pins, p.1 ≠ b)
    (keep : ∀ b o, b ≠ X.env.locals → b ∉ X.fs → b ∉ ch → s.heap.get? b = some o → H b = none → h'.get? b = some o)
    (slot : ∀ b o, b ≠ X.env.locals → b ∈ X.fs → b ∉ ch → s.heap.get? b = some o → H b = none → ∃ sl, h'.get? b = some { o with slots := sl }) (free : ∀ b o, b ∉ ch → s.heap.get? b = some o → H b = none → H' b = none)
    (there : ∀ b o, b ∉ ch → s.heap.get? b = some o → ∃ o', h'.get? b = some o')
    (tups : ∀ b xs, H b = some (.tup xs) → H' b = some (.tup xs)) (frzs : ∀ b o u, H b = some (.frz o u) → H' b = some (.frz o u)) (tbls : ∀ b ps, H b = some (.tbl ps) → ∃ more, H' b = some (.tbl (ps ++ more)))
    (ns : ∀ m, s.heap.Ns X.env.locals m → h'.Ns X.env.locals m) (hok : HOk X.prog X.w H' h') (hg : AllBare g') :
    Inv X pins σ H' { s with heap := h', gens := g', drawn := d', toks := t' } := by
  have neL : ∀ b o, X.s₀.heap.get? b = some o → b ≠ X.env.locals := fun b o e => Nat.ne_of_lt (Nat.lt_of_lt_of_le (Heap.lt_size e) I.ok.above)
  have neC : ∀ b o, X.s₀.heap.get? b = some o → b ∉ X.ex → b ∉ ch := fun b o e hx hb => by
    rcases (hch b hb).1 with z | z
    · exact hx z
    · exact absurd (Nat.lt_of_lt_of_le (Heap.lt_size e) z) (Nat.lt_irrefl _)
  have cellK : ∀ x c, X.env.cells.lookup x = some c → ∀ v, s.heap.IsCell c v → h'.IsCell c v := fun x c e v ⟨o, ho, hd⟩ => by
    have nch : c ∉ ch := fun z => (hch c z).2.2.1 x c e rfl
    by_cases hc : c ∈ X.fs
    · obtain ⟨sl, q⟩ := slot c o (I.cne x c e) hc nch ho (I.freeC x c e)
      exact ⟨_, q, hd⟩
    · exact ⟨o, keep c o (I.cne x c e) hc nch ho (I.freeC x c e), hd⟩
  refine ⟨I.ok, I.os, hg, ⟨fun b o e n hb hx => ?_, fun b o e n hb hx => ?_, fun b o e n hx => ?_, fun b o e hx => ?_, fun b xs e => tups b xs (I.base.tups b xs e), fun b o xs e => frzs b o xs (I.base.frzs b o xs e), fun b ps e => ?_⟩, ?_, fun x c e => ?_, ?_, fun x c e => ?_, fun p hp => ?_, hok, I.len⟩
  · exact keep b o (neL b o e) hb (neC b o e hx) (I.base.keep b o e n hb hx) (I.base.free b o e n hx)
  · obtain ⟨sl, e1⟩ := I.base.slot b o e n hb hx
    obtain ⟨sl', e2⟩ := slot b _ (neL b o e) hb (neC b o e hx) e1 (I.base.free b o e n hx)
    exact ⟨sl', e2⟩
  · obtain ⟨o', e1⟩ := I.base.there b o e hx
    exact free b o' (neC b o e hx) e1 (I.base.free b o e n hx)
  · obtain ⟨o', e1⟩ := I.base.there b o e hx
    exact there b o' (neC b o e hx) e1
  · obtain ⟨m1, e1⟩ := I.base.tbls b ps e
    obtain ⟨m2, e2⟩ := tbls b _ e1
    exact ⟨m1 ++ m2, by rw [e2, Array.append_assoc]⟩
  · obtain ⟨m, hn, hl⟩ := I.loc
    refine ⟨m, ns m hn, fun i x v e1 e2 e3 => ?_⟩
    obtain ⟨u, r, l⟩ := hl i x v e1 e2 e3
    refine ⟨u, r, ?_⟩
    rcases l with l | ⟨k, c, e, z⟩
    · exact .inl l
    · exact .inr ⟨k, c, e, cellK x c e _ z⟩
  · obtain ⟨v, z⟩ := I.cell x c e
    exact ⟨v, cellK x c e v z⟩
  · obtain ⟨m, ⟨o, _, _, ho, _⟩, _⟩ := I.loc
    exact free _ o (fun z => (hch _ z).2.1 rfl) ho I.free
  · obtain ⟨v, o, ho, hd⟩ := I.cell x c e
    exact free c o (fun z => (hch c z).2.2.1 x c e rfl) ho (I.freeC x c e)
  · obtain ⟨e, n, ne, nf, d⟩ := I.pin p hp
    have nch : p.1 ∉ ch := fun z => (hch p.1 z).2.2.2 p hp rfl
    exact ⟨keep p.1 p.2 ne nf nch e n, free p.1 p.2 nch e n, ne, nf, d⟩
theorem Inv.un {t' : Nat} (I : Inv X pins σ H s) (u : Un X.fs [] H H' s.heap h') (hok : HOk X.prog X.w H' h') : Inv X pins σ H' { s with heap := h', toks := t' } := by
  obtain ⟨m, ⟨o, es, ep, ho, r⟩, _⟩ := id I.loc
  obtain ⟨sl, hL⟩ := u.any ho I.free (by simp)
  exact I.step (g' := s.gens) (d' := s.drawn) (ch := []) (fun _ z => nomatch z) (fun b o _ hb _ e n => u.keep b o e n hb (by simp)) (fun b o _ hb _ e n => u.slot b o e n hb (by simp)) (fun b o _ e n => u.free b o e n (by simp)) (fun b o _ e => u.there b o e (by simp)) u.tups u.frzs u.tbls (fun m' hm => by
    obtain ⟨o', es', ep', ho', r'⟩ := hm
    rw [ho] at ho'; cases ho'
    exact ⟨_, es', ep', hL, r'⟩) hok I.bare
theorem Inv.call {g' : Array GenState} {t' : Nat} {d' : Drawn} {ch : List Addr} (I : Inv X pins σ H s) (u : Un (frs X.stack) ch H H' s.heap h') (hok : HOk X.prog X.w H' h') (hg : AllBare g')
    (hch : ∀ b ∈ ch, (b ∈ X.ex ∨ X.s₀.heap.objs.size ≤ b) ∧ b ≠ X.env.locals ∧ (∀ x c, X.env.cells.lookup x = some c → c ≠ b) ∧ ∀ p ∈ X.pn ++ pins, p.1 ≠ b) :
    Inv X pins σ H' { s with heap := h', gens := g', drawn := d', toks := t' } := by
  obtain ⟨m, ⟨o, es, ep, ho, r⟩, _⟩ := id I.loc
  obtain ⟨sl, hL⟩ := u.any ho I.free fun z => (hch _ z).2.1 rfl
  exact I.step (ch := ch) hch (fun b o hL hb hc e n => u.keep b o e n (fun z => (List.mem_cons.mp (I.stkSub b z)).elim hL hb) hc) (fun b o _ _ hc e n => u.any e n hc) (fun b o hc e n => u.free b o e n hc) (fun b o hc e => u.there b o e hc) u.tups u.frzs u.tbls (fun m' hm => by
    obtain ⟨o', es', ep', ho', r'⟩ := hm
    rw [ho] at ho'; cases ho'
    exact ⟨_, es', ep', hL, r'⟩) hok hg
theorem Inv.turned {t' : Nat} {it : Addr} (I : Inv X pins σ H s) (k : ∀ b o, b ≠ it → s.heap.get? b = some o → h'.get? b = some o) (hn : H it = none) (hL : it ≠ X.env.locals)
    (h1 : it ∈ X.ex ∨ X.s₀.heap.objs.size ≤ it) (h2 : ∀ x c, X.env.cells.lookup x = some c → c ≠ it) (h3 : ∀ p ∈ X.pn ++ pins, p.1 ≠ it) : Inv X pins σ H { s with heap := h', toks := t' } := by
  have nit : ∀ b u, H b = some u → b ≠ it := fun b u e z => by rw [z, hn] at e; cases e
  refine I.step (g' := s.gens) (d' := s.drawn) (ch := [it]) (fun b hb => ?_) (fun b o _ _ hc e _ => k b o (fun z => hc (by simp [z])) e) (fun b o _ _ hc e _ => ⟨o.slots, k b o (fun z => hc (by simp [z])) e⟩) (fun _ _ _ _ n => n)
    (fun b o hc e => ⟨o, k b o (fun z => hc (by simp [z])) e⟩) (fun _ _ e => e) (fun _ _ _ e => e) (fun b ps e => ⟨#[], by rw [e]; simp⟩) (fun m hm => ?_) (fun b u e => ?_) I.bare
  · have e : b = it := by simpa using hb
    subst e
    exact ⟨h1, hL, h2, h3⟩
  · obtain ⟨o, es, ep, ho, r⟩ := hm
    exact ⟨o, es, ep, k _ o (Ne.symm hL) ho, r⟩
  · refine (I.hok b u e).stay (fun c v hc q => k c v ?_ q) (fun _ q => q) fun _ _ q => q
    rcases hc with z | z
    · rw [z]; exact nit b u e
    · exact nit c _ z
theorem Inv.tok (I : Inv X pins σ H s) (t : Nat) : Inv X pins σ H { s with toks := t } := I.un (h' := s.heap) (t' := t) Un.refl I.hok
theorem Inv.kept {t' : Nat} (I : Inv X pins σ H s) (k : ∀ b u, s.heap.get? b = some u → h'.get? b = some u) : Inv X pins σ H { s with heap := h', toks := t' } := I.un (Un.kept k) (I.hok.kept k)
theorem Inv.laid {a : Addr} {o : HO} {t' : Nat} (I : Inv X pins σ H s) (k : ∀ b u, s.heap.get? b = some u → h'.get? b = some u) (hp : s.heap.objs.size ≤ a) (new : ObjOk X.prog X.w (upd H a o) h' a o) :
    Inv X pins σ (upd H a o) { s with heap := h', toks := t' } := I.un (Un.laid k hp (I.hok.fresh hp)) (I.hok.laid k hp new)
theorem Inv.write {x e : Addr} {o : HO} {t' : Nat} (I : Inv X pins σ H s) (mu : Mut (H x)) (he : e = x ∨ H e = some (.own x)) (k : ∀ b u, b ≠ e → s.heap.get? b = some u → h'.get? b = some u) (heo : ∃ u, h'.get? e = some u)
    (new : ObjOk X.prog X.w (upd H x o) h' x o) : Inv X pins σ (upd H x o) { s with heap := h', toks := t' } := I.un (Un.write mu he k heo) (I.hok.write mu he k heo new)
theorem Inv.pins_of {pins' : List (Addr × Obj)} (I : Inv X pins σ H s) (h : ∀ p ∈ pins', s.heap.get? p.1 = some p.2 ∧ H p.1 = none ∧ p.1 ≠ X.env.locals ∧ p.1 ∉ X.fs ∧ ∀ v, p.2.data ≠ .cell v) : Inv X pins' σ H s :=
  ⟨I.ok, I.os, I.bare, I.base, I.loc, I.cell, I.free, I.freeC, fun p hp => (List.mem_append.mp hp).elim (fun z => I.pin p (List.mem_append_left _ z)) (h p), I.hok, I.len⟩
theorem nodup_ix {N : List Str} (hN : N.Nodup) {i j : Nat} {x : Str} (a : N[i]? = some x) (b : N[j]? = some x) : i = j := by
  obtain ⟨h1, e1⟩ := List.getElem?_eq_some_iff.mp a
  obtain ⟨h2, e2⟩ := List.getElem?_eq_some_iff.mp b
  exact (List.getElem_inj hN).mp (e1.trans e2.symm)
theorem store_ok2 {M : Model} {A : Around} {E : Value → Shared → Prop} {i : Nat} {x : Str} {v : V} {u : Value} {Q : Unit → Shared → Prop} (I : Inv X pins σ H s) (hN : X.N.Nodup) (hi : X.N[i]? = some x) (hx : Loc X.env.scope x) (r : RelV v u)
    (h : ∀ s', Inv X pins (σ.set i (some v)) H s' → (∃ a, Heap.SameBut a s.heap s'.heap ∧ (a = X.env.locals ∨ X.env.cells.lookup x = some a)) → Q () s') (hf : X.fn x = true ∨ X.env.scope.names.lookup x = some .local := by first | exact .inl rfl | exact .inr rfl | assumption) : wpAny M A (storeName X.env x u) Q E s := by
  obtain ⟨m, hn, hl⟩ := id I.loc
  have hcls : (X.env.scope.kind == .class || (X.env.scope.kind == .module && X.env.locals != X.env.globals)) = false := by rw [I.ok.kind]; rfl
  have hiσ : i < σ.length := by rw [I.len]; exact (List.getElem?_eq_some_iff.mp hi).1
  have cne := I.cne
  have tracked : ∀ {a : Addr} {h' : Heap}, (∃ o, s.heap.get? a = some o ∧ H a = none) → Heap.SameBut a s.heap h' → HOk X.prog X.w H h' := fun {a h'} ha hs b ob e => by
    obtain ⟨_, _, hfree⟩ := ha
    refine (I.hok b ob e).stay (fun c w' hc q => (hs.2 c ?_).trans q) (fun _ q => q) fun _ _ q => q
    rintro rfl
    rcases hc with rfl | hc
    · rw [hfree] at e; cases e
    · rw [hfree] at hc; cases hc
  rcases hx with hk | hk
  · refine wpAny_storeName_local hk hn (fun h' hn' hs => ?_) hcls
    obtain ⟨oL, _, _, hoL, _⟩ := id hn
    refine h _ ⟨I.ok, I.os, I.bare, ⟨fun b o e n hb hx => ?_, fun b o e n hb hx => ?_, I.base.free, fun b o e hx => ?_, I.base.tups, I.base.frzs, I.base.tbls⟩, ⟨_, hn', fun j y v' e1 e2 e3 => ?_⟩, fun y c e => ?_, I.free, I.freeC, fun p hp => ?_, tracked ⟨oL, hoL, I.free⟩ hs, by simpa using I.len⟩ ⟨_, hs, .inl rfl⟩
    · exact (hs.2 b (Nat.ne_of_lt (Nat.lt_of_lt_of_le (Heap.lt_size e) I.ok.above))).trans (I.base.keep b o e n hb hx)
    · obtain ⟨sl, e1⟩ := I.base.slot b o e n hb hx
      exact ⟨sl, (hs.2 b (Nat.ne_of_lt (Nat.lt_of_lt_of_le (Heap.lt_size e) I.ok.above))).trans e1⟩
    · obtain ⟨o', e1⟩ := I.base.there b o e hx
      exact ⟨o', (hs.2 b (Nat.ne_of_lt (Nat.lt_of_lt_of_le (Heap.lt_size e) I.ok.above))).trans e1⟩
    · by_cases hj : j = i
      · subst hj
        rw [hi] at e1; cases e1
        rw [List.getElem?_set_self hiσ] at e2
        cases e2
        exact ⟨u, r, .inl ⟨hk, by simp⟩⟩
      · rw [List.getElem?_set_ne (Ne.symm hj)] at e2
        obtain ⟨u', r', q⟩ := hl j y v' e1 e2 e3
        refine ⟨u', r', ?_⟩
        rcases q with ⟨k, e⟩ | ⟨k, c, e, z⟩
        · refine .inl ⟨k, ?_⟩
          have : y ≠ x := fun e => hj (nodup_ix hN e1 (e ▸ hi))
          simp [this, e]
        · exact .inr ⟨k, c, e, z.sameBut hs (cne y c e)⟩
    · obtain ⟨w', z⟩ := I.cell y c e
      exact ⟨w', z.sameBut hs (cne y c e)⟩
    · obtain ⟨e, n, ne, nf, d⟩ := I.pin p hp
      exact ⟨(hs.2 p.1 ne).trans e, n, ne, nf, d⟩
  · have hfn : X.fn x = true := by
      rcases hf with z | z
      · exact z
      · rw [z] at hk; cases hk
    obtain ⟨c, hc⟩ := I.ok.has x (.inl hk)
    obtain ⟨w', z⟩ := I.cell x c hc
    refine wpAny_storeName_cell I.ok.kind hk hc z (fun h' hc' hs => ?_)
    obtain ⟨oc, hoc, hocd⟩ := id z
    refine h { s with heap := h' } ⟨I.ok, I.os, I.bare, ⟨fun b o e n hb hx => ?_, fun b o e n hb hx => ?_, I.base.free, fun b o e hx => ?_, I.base.tups, I.base.frzs, I.base.tbls⟩, ⟨m, hn.sameBut hs (Ne.symm (cne x c hc)), fun j y v' e1 e2 e3 => ?_⟩, fun y c' e => ?_, I.free, I.freeC, fun p hp => ?_, tracked ⟨oc, hoc, I.freeC x c hc⟩ hs, by simpa using I.len⟩ ⟨c, hs, .inr hc⟩
    · exact (hs.2 b (Nat.ne_of_lt (Nat.lt_of_lt_of_le (Heap.lt_size e) (I.ok.cab x c hfn hc)))).trans (I.base.keep b o e n hb hx)
    · obtain ⟨sl, e1⟩ := I.base.slot b o e n hb hx
      exact ⟨sl, (hs.2 b (Nat.ne_of_lt (Nat.lt_of_lt_of_le (Heap.lt_size e) (I.ok.cab x c hfn hc)))).trans e1⟩
    · obtain ⟨o', e1⟩ := I.base.there b o e hx
      exact ⟨o', (hs.2 b (Nat.ne_of_lt (Nat.lt_of_lt_of_le (Heap.lt_size e) (I.ok.cab x c hfn hc)))).trans e1⟩
    · by_cases hj : j = i
      · subst hj
        rw [hi] at e1; cases e1
        rw [List.getElem?_set_self hiσ] at e2
        cases e2
        exact ⟨u, r, .inr ⟨.inl hk, c, hc, hc'⟩⟩
      · rw [List.getElem?_set_ne (Ne.symm hj)] at e2
        obtain ⟨u', r', q⟩ := hl j y v' e1 e2 e3
        refine ⟨u', r', ?_⟩
        rcases q with q | ⟨k, c', e, z'⟩
        · exact .inl q
        · refine .inr ⟨k, c', e, z'.sameBut hs ?_⟩
          rintro rfl
          exact hj (nodup_ix hN e1 (I.ok.inj _ _ _ e hc ▸ hi))
    · by_cases hcc : c' = c
      · subst hcc; exact ⟨_, hc'⟩
      · obtain ⟨w2, z2⟩ := I.cell y c' e
        exact ⟨w2, z2.sameBut hs hcc⟩
    · obtain ⟨e, n, ne, nf, d⟩ := I.pin p hp
      refine ⟨(hs.2 p.1 ?_).trans e, n, ne, nf, d⟩
      intro q
      rw [q, hoc] at e
      have q' : oc = p.2 := Option.some.inj e
      exact d w' (by rw [← q']; exact hocd)
theorem store_ok {M : Model} {A : Around} {E : Value → Shared → Prop} {i : Nat} {x : Str} {v : V} {u : Value} {Q : Unit → Shared → Prop} (I : Inv X pins σ H s) (hN : X.N.Nodup) (hi : X.N[i]? = some x) (hx : Loc X.env.scope x) (r : RelV v u)
    (h : ∀ s', Inv X pins (σ.set i (some v)) H s' → Q () s') (hf : X.fn x = true ∨ X.env.scope.names.lookup x = some .local := by first | exact .inl rfl | exact .inr rfl | assumption) : wpAny M A (storeName X.env x u) Q E s :=
  store_ok2 I hN hi hx r (fun s' I' _ => h s' I') hf
theorem Inv.call' {s' : Shared} {ch : List Addr} (I : Inv X pins σ H s) (ho : s'.os = s.os) (u : Un (frs X.stack) ch H H' s.heap s'.heap) (hok : HOk X.prog X.w H' s'.heap) (hg : AllBare s'.gens)
    (hch : ∀ b ∈ ch, (b ∈ X.ex ∨ X.s₀.heap.objs.size ≤ b) ∧ b ≠ X.env.locals ∧ (∀ x c, X.env.cells.lookup x = some c → c ≠ b) ∧ ∀ p ∈ X.pn ++ pins, p.1 ≠ b) : Inv X pins σ H' s' := by
  obtain ⟨h', g', d', t', o'⟩ := s'
  have e : o' = s.os := ho
  subst e
  exact I.call (g' := g') (t' := t') (d' := d') u hok hg hch
end
abbrev XK := Value → Option Addr → Hp → Prop
abbrev St := List (Option V)
abbrev VK := V → Hp → Prop
abbrev TE := St → Hp → VK → Prop
abbrev TT := St → Hp → (Bool → Hp → Prop) → Prop
abbrev TA := St → Hp → (List V → Hp → Prop) → Prop
structure Ends where
  nx : St → Hp → Prop
  rt : VK
  bk : St → Hp → Prop := fun _ _ => False
  ct : St → Hp → Prop := fun _ _ => False
abbrev TS := Ends → St → Hp → Prop
def EP (X : Cx) (pins : List (Addr × Obj)) (σ : St) (Q : VK) (u : Value) (s' : Shared) : Prop := ∃ v H', Inv X pins σ H' s' ∧ RelV v u ∧ Q v H'
def TP (X : Cx) (pins : List (Addr × Obj)) (σ : St) (Q : Bool → Hp → Prop) (b : Bool) (s' : Shared) : Prop := ∃ H', Inv X pins σ H' s' ∧ Q b H'
def AP (X : Cx) (pins : List (Addr × Obj)) (σ : St) (Q : List V → Hp → Prop) (us : List Value) (s' : Shared) : Prop := ∃ vs H', Inv X pins σ H' s' ∧ Vals vs us ∧ Q vs H'
def SP (X : Cx) (pins : List (Addr × Obj)) (D : Ends) (f : Flow) (s' : Shared) : Prop :=
  match f with
  | .next => ∃ σ' H', Inv X pins σ' H' s' ∧ D.nx σ' H'
  | .brk => ∃ σ' H', Inv X pins σ' H' s' ∧ D.bk σ' H'
  | .cont => ∃ σ' H', Inv X pins σ' H' s' ∧ D.ct σ' H'
  | .ret u => ∃ v σ' H', Inv X pins σ' H' s' ∧ RelV v u ∧ D.rt v H'
def PE (X : Cx) (e : Expr) (t : TE) : Prop :=
  ∀ (pins : List (Addr × Obj)) (s : Shared) (σ : St) (H : Hp) (Q : VK), Inv X pins σ H s → t σ H Q → wpAny (model X.prog X.w) X.A (eval e X.env) (EP X pins σ Q) X.xe s
def PT (X : Cx) (e : Expr) (t : TT) : Prop :=
  ∀ (pins : List (Addr × Obj)) (s : Shared) (σ : St) (H : Hp) (Q : Bool → Hp → Prop), Inv X pins σ H s → t σ H Q → wpAny (model X.prog X.w) X.A (isTrue e X.env (eval e X.env)) (TP X pins σ Q) X.xe s
def PW (X : Cx) (e : Expr) (t : TT) : Prop :=
  ∀ (whole : Sem Value) (pins : List (Addr × Obj)) (s : Shared) (σ : St) (H : Hp) (Q : Bool → Hp → Prop), Inv X pins σ H s → t σ H Q → wpAny (model X.prog X.w) X.A (isTrue e X.env whole) (TP X pins σ Q) X.xe s
theorem PW.pt {X : Cx} {e : Expr} {t : TT} (h : PW X e t) : PT X e t := h _
def PA (X : Cx) (es : List Expr) (t : TA) : Prop :=
  ∀ (pos : Pos) (pins : List (Addr × Obj)) (s : Shared) (σ : St) (H : Hp) (Q : List V → Hp → Prop), Inv X pins σ H s → t σ H Q → wpAny (model X.prog X.w) X.A (spliced (backTo pos (starEach es X.env))) (AP X pins σ Q) X.xe s
def PS (X : Cx) (st : Stmt) (t : TS) : Prop :=
  ∀ (pins : List (Addr × Obj)) (s : Shared) (σ : St) (H : Hp) (D : Ends), Inv X pins σ H s → t D σ H → wpAny (model X.prog X.w) X.A (exec st X.env) (SP X pins D) X.xe s
def PSs (X : Cx) (st : List Stmt) (t : TS) : Prop :=
  ∀ (pins : List (Addr × Obj)) (s : Shared) (σ : St) (H : Hp) (D : Ends), Inv X pins σ H s → t D σ H → wpAny (model X.prog X.w) X.A (execs st X.env) (SP X pins D) X.xe s
theorem thn {α : Type} {t : Sem α} {Q Q' : α → Shared → Prop} {M : Model} {A : Around} {E : Value → Shared → Prop} {s : Shared} (h : wpAny M A t Q E s) (hQ : ∀ a s, Q a s → Q' a s) : wpAny M A t Q' E s := wpAny_mono h hQ fun _ _ x => x
end L2
namespace L2
open PySem PySem.Spec PyProof.Rows
section
variable {X : Cx}
def tVar (i : Nat) : TE := fun σ H Q => ∃ v, σ[i]? = some (some v) ∧ Q v H
def tC (v : V) : TE := fun _ H Q => Q v H
theorem pe_var {i : Nat} {x : Str} {pos : Pos} (hN : X.N[i]? = some x) (hv : Vis X.env.scope x) (hd : (x == ("__debug__" : Str)) = false := by decide) (hcd : (x == ("__classdict__" : Str)) = false := by decide) : PE X (.Name x pos) (tVar i) := by
  intro pins s σ H Q I h
  obtain ⟨v, e, h⟩ := h
  obtain ⟨m, hn, hl⟩ := I.loc
  obtain ⟨u, r, l⟩ := hl i x v hN e hv
  have fin : EP X pins σ Q u s := ⟨v, H, I, r, h⟩
  rcases l with ⟨hk, hm⟩ | ⟨hk, c, hc, hcell⟩
  · exact wpAny_Name (wpAny_loadName_local I.ok.kind hk hn hm fin) hd
  · rcases hk with hk | hk
    · exact wpAny_Name (wpAny_loadName_cell I.ok.kind hk hc hcell fin) hd
    · exact wpAny_Name (wpAny_loadName_free I.ok.kind hk hc hcell fin hcd) hd
theorem pe_int {i j pos} : PE X (.Constant (.int i) j pos) (tC (.int i)) := fun _ _ _ H _ I h => wpAny_Constant_int ⟨.int i, H, I.tok _, ⟨_, rfl⟩, h⟩
theorem pe_bl {b j pos} : PE X (.Constant (.bool b) j pos) (tC (.bl b)) := fun _ _ _ H _ I h => Constant_bool ⟨.bl b, H, I, rfl, h⟩
theorem pe_non {j pos} : PE X (.Constant .none j pos) (tC .non) := fun _ _ _ H _ I h => Constant_none ⟨.non, H, I, rfl, h⟩
theorem pe_str {x j pos} : PE X (.Constant (.str x) j pos) (tC (.str x)) := fun _ _ _ H _ I h => Calls.Constant_str ⟨.str x, H, I.tok _, ⟨_, rfl⟩, h⟩
def Gl (X : Cx) (x : Str) : Prop := X.env.kindOf x = some .globalImplicit
theorem ld_glob {E : Value → Shared → Prop} {pins : List (Addr × Obj)} {s : Shared} {σ : St} {H : Hp} {x : Str} {u : Value} {pos : Pos} {Q : Value → Shared → Prop} (I : Inv X pins σ H s) (hg : Gl X x) (hm : X.mg x = some u) (h : Q u s)
    (hd : (x == ("__debug__" : Str)) = false := by decide) : wpAny (model X.prog X.w) X.A (eval (.Name x pos) X.env) Q E s :=
  Calls.Name_function_global I.ok.kind hg (Calls.loadGlobal_global (by rw [I.ok.glob]; exact I.mod.glob.keeps I.bk) hm h) hd
theorem ld_blt {E : Value → Shared → Prop} {pins : List (Addr × Obj)} {s : Shared} {σ : St} {H : Hp} {x : Str} {u : Value} {pos : Pos} {Q : Value → Shared → Prop} (I : Inv X pins σ H s) (hg : Gl X x) (hm : X.mg x = none) (hv : bootBuiltins x = some u) (h : Q u s)
    (hn : x ≠ "__name__" := by decide) (hd : (x == ("__debug__" : Str)) = false := by decide) : wpAny (model X.prog X.w) X.A (eval (.Name x pos) X.env) Q E s := by
  obtain ⟨mb, h1, h2⟩ := I.mod.blt
  exact Calls.Name_function_global I.ok.kind hg (Calls.loadGlobal_builtin (by rw [I.ok.glob]; exact I.mod.glob.keeps I.bk) hm (by rw [I.ok.blt]; exact h1.keeps I.bk) ((h2 x hn).trans hv) h) hd
theorem pe_glob {x : Str} {v : V} {u : Value} {pos : Pos} (hg : Gl X x) (hm : X.mg x = some u) (r : RelV v u) (hd : (x == ("__debug__" : Str)) = false := by decide) : PE X (.Name x pos) (tC v) :=
  fun _ _ _ H _ I h => ld_glob I hg hm ⟨v, H, I, r, h⟩ hd
theorem pe_bltn {x : Str} {v : V} {u : Value} {pos : Pos} (hg : Gl X x) (hm : X.mg x = none) (hv : bootBuiltins x = some u) (r : RelV v u) (hn : x ≠ "__name__" := by decide) (hd : (x == ("__debug__" : Str)) = false := by decide) : PE X (.Name x pos) (tC v) :=
  fun _ _ _ H _ I h => ld_blt I hg hm hv ⟨v, H, I, r, h⟩ hn hd
variable {a b : Expr} {ta tb : TE} {pos : Pos}
variable {tA tB' : TT} {rest : List Expr}
def tAnd (t u : TT) : TT := fun σ H Q => t σ H fun c H1 => if c = true then u σ H1 Q else Q false H1
def tOr (t u : TT) : TT := fun σ H Q => t σ H fun c H1 => if c = true then Q true H1 else u σ H1 Q
def tNot (t : TT) : TT := fun σ H Q => t σ H fun c H1 => Q (!c) H1
theorem pw_and1 (ha : PT X a tA) : PW X (.BoolOp .And [a] pos) tA := by
  intro wh pins s σ H Q I h
  refine isTrue_and (thn (ha pins s σ H Q I h) fun c s1 e => ?_)
  cases c with
  | true => exact isTrue_and_nil e
  | false => exact e
theorem pw_or1 (ha : PT X a tA) : PW X (.BoolOp .Or [a] pos) tA := by
  intro wh pins s σ H Q I h
  refine isTrue_or (thn (ha pins s σ H Q I h) fun c s1 e => ?_)
  cases c with
  | false => exact isTrue_or_nil e
  | true => exact e
theorem pw_and (ha : PT X a tA) (hb : PW X (.BoolOp .And (b :: rest) pos) tB') : PW X (.BoolOp .And (a :: b :: rest) pos) (tAnd tA tB') := by
  intro wh pins s σ H Q I h
  refine isTrue_and (thn (ha pins s σ H _ I h) fun c s1 ⟨H1, I1, q1⟩ => ?_)
  cases c with
  | true => exact hb wh pins s1 σ H1 Q I1 q1
  | false => exact ⟨H1, I1, q1⟩
theorem pw_or (ha : PT X a tA) (hb : PW X (.BoolOp .Or (b :: rest) pos) tB') : PW X (.BoolOp .Or (a :: b :: rest) pos) (tOr tA tB') := by
  intro wh pins s σ H Q I h
  refine isTrue_or (thn (ha pins s σ H _ I h) fun c s1 ⟨H1, I1, q1⟩ => ?_)
  cases c with
  | true => exact ⟨H1, I1, q1⟩
  | false => exact hb wh pins s1 σ H1 Q I1 q1
theorem pt_not (ha : PT X a tA) : PT X (.UnaryOp .Not a pos) (tNot tA) := by
  intro pins s σ H Q I h
  exact isTrue_not (ha pins s σ H (fun c H1 => Q (!c) H1) I h)
end
end L2
namespace L2
open PySem PySem.Spec PyProof.Rows
def SqL (K : PySem.W.Frag) (H : Hp) (a : Addr) (xs : List V) : Prop :=
  Rd H a (.lst xs) ∨
    ∃ (o : Obj) (its : Array Value) (n : Nat), K.lookup a = some o ∧ o.cls = .type "list" ∧ o.dict = none ∧ o.data = .seq its n ∧ its.size ≤ sizeLine ∧ Vals xs its.toList
def SqT (K : PySem.W.Frag) (H : Hp) (a : Addr) (xs : List V) : Prop :=
  Rd H a (.tup xs) ∨
    ∃ (o : Obj) (its : Array Value) (n : Nat), K.lookup a = some o ∧ o.cls = .type "tuple" ∧ o.data = .seq its n ∧ its.size ≤ sizeLine ∧ Vals xs its.toList
def absV : Value → Option V
  | .none => some .non
  | .bool b => some (.bl b)
  | .int i _ => some (.int i)
  | .str x _ => some (.str x)
  | .bytes b _ => some (.byt b)
  | .float b _ => some (.flt b)
  | .ref a => some (.ref a)
  | .type n => some (.ty n)
  | _ => none
theorem RelV.abs {x : V} {u : Value} (r : RelV x u) : absV u = some x := by
  cases x with
  | non => cases r; rfl
  | bl _ => cases r; rfl
  | int _ => obtain ⟨t, rfl⟩ := r; rfl
  | str _ => obtain ⟨t, rfl⟩ := r; rfl
  | byt _ => obtain ⟨t, rfl⟩ := r; rfl
  | flt _ => obtain ⟨t, rfl⟩ := r; rfl
  | ref _ => cases r; rfl
  | ty _ => cases r; rfl
theorem RelV.inj {x y : V} {u : Value} (r : RelV x u) (q : RelV y u) : x = y := Option.some.inj (r.abs.symm.trans q.abs)
theorem Vals.inj : ∀ {xs ys : List V} {us : List Value}, Vals xs us → Vals ys us → xs = ys
  | _, _, _, .nil, .nil => rfl
  | _, _, _, .cons r t, .cons r' t' => by rw [r.inj r', Vals.inj t t']
section
variable {X : Cx} {pins : List (Addr × Obj)} {σ : St} {H : Hp} {s : Shared} {a : Addr} {xs ys : List V}
theorem SqL.of {K : PySem.W.Frag} (h : H a = some (.lst xs)) : SqL K H a xs := .inl (.inl h)
theorem SqT.of {K : PySem.W.Frag} (h : H a = some (.tup xs)) : SqT K H a xs := .inl (.inl h)
theorem Inv.list (I : Inv X pins σ H s) (h : SqL X.K H a xs) : ∃ its : List Value, Vals xs its ∧ PlainL s.heap a its.toArray ∧ xs.length ≤ sizeLine := by
  rcases h with h | ⟨o, its, n, hk, hc, hd, hs, hz, r⟩
  · obtain ⟨z, its, n, r, e⟩ := h.ok I.hok
    exact ⟨its, r, ⟨_, n, e, rfl, rfl, rfl⟩, z⟩
  · refine ⟨its.toList, r, ⟨o, n, I.kIn a o hk, hc, hd, by simpa using hs⟩, ?_⟩
    have e := r.length
    simp only [Array.length_toList] at e
    omega
theorem Inv.tuple (I : Inv X pins σ H s) (h : SqT X.K H a xs) : ∃ its : List Value, Vals xs its ∧ IsTup s.heap a its.toArray ∧ xs.length ≤ sizeLine := by
  rcases h with h | ⟨o, its, n, hk, hc, hs, hz, r⟩
  · obtain ⟨z, its, r, p⟩ := h.ok I.hok
    exact ⟨its, r, p, z⟩
  · refine ⟨its.toList, r, ⟨o, I.kIn a o hk, hc, n, by simpa using hs⟩, ?_⟩
    have e := r.length
    simp only [Array.length_toList] at e
    omega
theorem Inv.list_inj (I : Inv X pins σ H s) (h : SqL X.K H a xs) (h' : SqL X.K H a ys) : xs = ys := by
  obtain ⟨its, r, ⟨o, n, e, _, _, d⟩, _⟩ := I.list h
  obtain ⟨its', r', ⟨o', n', e', _, _, d'⟩, _⟩ := I.list h'
  rw [e] at e'; cases e'
  rw [d] at d'
  injection d' with d1 _
  have : its = its' := by simpa using congrArg Array.toList d1
  subst this
  exact r.inj r'
theorem Inv.tuple_inj (I : Inv X pins σ H s) (h : SqT X.K H a xs) (h' : SqT X.K H a ys) : xs = ys := by
  obtain ⟨its, r, ⟨o, e, _, n, d⟩, _⟩ := I.tuple h
  obtain ⟨its', r', ⟨o', e', _, n', d'⟩, _⟩ := I.tuple h'
  rw [e] at e'; cases e'
  rw [d] at d'
  injection d' with d1 _
  have : its = its' := by simpa using congrArg Array.toList d1
  subst this
  exact r.inj r'
end
abbrev Cx.wish (X : Cx) (E : Value → Shared → Prop) : Cx := { X with xe := E }
abbrev Cx.nox (X : Cx) : Cx := X.wish fun _ _ => False
theorem Cx.Ok.wish {X : Cx} (ok : X.Ok) (E : Value → Shared → Prop) : (X.wish E).Ok :=
  ⟨ok.mod, ok.kind, ok.glob, ok.blt, ok.above, ok.inj, ok.has, ok.cab, ok.hd, ok.frames, ok.stk, ok.exf, ok.bs, ok.bsz, ok.noex, ok.exfs, ok.funs, ok.frf⟩
theorem Cx.Ok.unwish {X : Cx} {E : Value → Shared → Prop} (ok : (X.wish E).Ok) : X.Ok :=
  ⟨ok.mod, ok.kind, ok.glob, ok.blt, ok.above, ok.inj, ok.has, ok.cab, ok.hd, ok.frames, ok.stk, ok.exf, ok.bs, ok.bsz, ok.noex, ok.exfs, ok.funs, ok.frf⟩
section
variable {X : Cx} {pins : List (Addr × Obj)} {σ : St} {H : Hp} {s : Shared} {E : Value → Shared → Prop}
theorem Inv.wish (I : Inv X pins σ H s) (E : Value → Shared → Prop) : Inv (X.wish E) pins σ H s := ⟨I.ok.wish E, I.os, I.bare, I.base, I.loc, I.cell, I.free, I.freeC, I.pin, I.hok, I.len⟩
theorem Inv.unwish (I : Inv (X.wish E) pins σ H s) : Inv X pins σ H s := ⟨I.ok.unwish, I.os, I.bare, I.base, I.loc, I.cell, I.free, I.freeC, I.pin, I.hok, I.len⟩
theorem SP.unwish {D : Ends} {f : Flow} {s' : Shared} (h : SP (X.wish E) pins D f s') : SP X pins D f s' := by
  cases f with
  | next => obtain ⟨σ', H', I, q⟩ := h; exact ⟨σ', H', I.unwish, q⟩
  | brk => obtain ⟨σ', H', I, q⟩ := h; exact ⟨σ', H', I.unwish, q⟩
  | cont => obtain ⟨σ', H', I, q⟩ := h; exact ⟨σ', H', I.unwish, q⟩
  | ret u => obtain ⟨v, σ', H', I, r, q⟩ := h; exact ⟨v, σ', H', I.unwish, r, q⟩
theorem PE.nox {e : Expr} {t : TE} (h : PE X.nox e t) : PE X e t := fun pins s σ H Q I hw =>
  wpAny_mono (h pins s σ H Q (I.wish _) hw) (fun _ _ ⟨v, H', I', r, q⟩ => ⟨v, H', I'.unwish, r, q⟩) fun _ _ z => False.elim z
theorem PT.nox {e : Expr} {t : TT} (h : PT X.nox e t) : PT X e t := fun pins s σ H Q I hw =>
  wpAny_mono (h pins s σ H Q (I.wish _) hw) (fun _ _ ⟨H', I', q⟩ => ⟨H', I'.unwish, q⟩) fun _ _ z => False.elim z
theorem PSs.nox {st : List Stmt} {t : TS} (h : PSs X.nox st t) : PSs X st t := fun pins s σ H D I hw =>
  wpAny_mono (h pins s σ H D (I.wish _) hw) (fun _ _ q => q.unwish) fun _ _ z => False.elim z
end
section
variable {X : Cx} {st : Stmt} {rest : List Stmt} {t u : TS} {e : Expr} {te : TE} {pos : Pos}
def tNext : TS := fun D σ H => D.nx σ H
def tSeq (t u : TS) : TS := fun D σ H => t { D with nx := u D } σ H
theorem pss_nil : PSs X [] tNext := fun _ _ σ H _ I h => wpAny_execs_nil ⟨σ, H, I, h⟩
theorem pss_cons (h1 : PS X st t) (h2 : PSs X rest u) : PSs X (st :: rest) (tSeq t u) := by
  intro pins s σ H D I h
  refine wpAny_execs_cons (thn (h1 pins s σ H { D with nx := u D } I h) fun f s1 q => ?_)
  cases f with
  | next =>
    obtain ⟨σ', H', I', q⟩ := q
    exact h2 pins s1 σ' H' D I' q
  | ret v => exact q
  | brk => exact q
  | cont => exact q
theorem pss_one (h1 : PS X st t) : PSs X [st] t := by
  intro pins s σ H D I h
  refine wpAny_execs_cons (thn (h1 pins s σ H D I h) fun f s1 q => ?_)
  cases f with
  | next => exact wpAny_execs_nil q
  | ret v => exact q
  | brk => exact q
  | cont => exact q
theorem Inv.quiet {pins : List (Addr × Obj)} {σ : St} {H : Hp} {s : Shared} (I : Inv X pins σ H s) : interactive X.env = false := by simp [interactive, I.ok.kind]
def tDrop (te : TE) : TS := fun D σ H => te σ H fun _ H1 => D.nx σ H1
theorem ps_expr (he : PE X e te) (hs : swapsWith e none pos.line X.env = pure false := by rfl) : PS X (.Expr e pos) (tDrop te) := by
  intro pins s σ H D I h
  exact wpAny_Expr_any (thn (he pins s σ H _ I h) fun v s1 ⟨x, H1, I1, r1, q1⟩ => ⟨σ, H1, I1, q1⟩) I.quiet hs
def tRet (te : TE) : TS := fun D σ H => te σ H D.rt
theorem ps_ret (he : PE X e te) : PS X (.Return (some e) pos) (tRet te) := by
  intro pins s σ H D I h
  exact wpAny_Return_some (thn (he pins s σ H _ I h) fun v s1 ⟨x, H1, I1, r1, q1⟩ => ⟨x, σ, H1, I1, r1, q1⟩)
def tIfS (c : TT) (t u : TS) : TS := fun D σ H => c σ H fun b H1 => if b = true then t D σ H1 else u D σ H1
theorem ps_if {c : Expr} {a b : List Stmt} {tc : TT} (hc : PT X c tc) (ha : PSs X a t) (hb : PSs X b u) : PS X (.If c a b pos) (tIfS tc t u) := by
  intro pins s σ H D I h
  refine wpAny_If (thn (hc pins s σ H _ I h) fun d s1 ⟨H1, I1, q1⟩ => ?_)
  cases d with
  | true => exact ha pins s1 σ H1 D I1 q1
  | false => exact hb pins s1 σ H1 D I1 q1
end
abbrev TG := V → St → Hp → (St → Hp → Prop) → Prop
abbrev TGs := List V → St → Hp → (St → Hp → Prop) → Prop
def PG (X : Cx) (target : Expr) (t : TG) : Prop :=
  ∀ (pins : List (Addr × Obj)) (s : Shared) (σ : St) (H : Hp) (v : V) (u : Value) (Q : St → Hp → Prop), Inv X pins σ H s → RelV v u → t v σ H Q →
    wpAny (model X.prog X.w) X.A (assign target X.env u) (fun _ s' => ∃ σ' H', Inv X pins σ' H' s' ∧ Q σ' H') X.xe s
def PGs (X : Cx) (ts : List Expr) (t : TGs) : Prop :=
  ∀ (pins : List (Addr × Obj)) (s : Shared) (σ : St) (H : Hp) (vs : List V) (us : List Value) (Q : St → Hp → Prop), Inv X pins σ H s → Vals vs us → t vs σ H Q →
    wpAny (model X.prog X.w) X.A (assignInOrder ((assignEach ts X.env).map (·.2)) us) (fun _ s' => ∃ σ' H', Inv X pins σ' H' s' ∧ Q σ' H') X.xe s
abbrev TSet := V → V → V → Hp → (Hp → Prop) → Prop
def PSet (X : Cx) (t : TSet) : Prop :=
  ∀ (pins : List (Addr × Obj)) (s : Shared) (σ : St) (H : Hp) (o i v : V) (ov iv u : Value) (Q : Hp → Prop), Inv X pins σ H s → RelV o ov → RelV i iv → RelV v u → t o i v H Q →
    wpAny (model X.prog X.w) X.A (setItem ov iv u) (fun _ s' => ∃ H', Inv X pins σ H' s' ∧ Q H') X.xe s
section
variable {X : Cx} {pos : Pos}
def gName (i : Nat) : TG := fun v σ H Q => Q (σ.set i (some v)) H
theorem pg_name {i : Nat} {x : Str} (hN : X.N.Nodup) (hi : X.N[i]? = some x) (hx : Loc X.env.scope x) (hf : X.fn x = true ∨ X.env.scope.names.lookup x = some .local := by first | exact .inl rfl | exact .inr rfl | assumption) : PG X (.Name x pos) (gName i) := by
  intro pins s σ H v u Q I r h
  exact wpAny_assign_Name (store_ok I hN hi hx r (fun s' I' => ⟨_, H, I', h⟩) hf)
def gNil : TGs := fun vs σ H Q => vs = [] ∧ Q σ H
def gCons (t : TG) (u : TGs) : TGs := fun vs σ H Q => ∃ v r, vs = v :: r ∧ t v σ H fun σ' H' => u r σ' H' Q
theorem pgs_nil : PGs X [] gNil := by
  intro pins s σ H vs us Q I r h
  obtain ⟨e, h⟩ := h
  subst e
  cases r
  exact assignInOrder_nil ⟨σ, H, I, h⟩
theorem pgs_cons {e : Expr} {es : List Expr} {t : TG} {u : TGs} (h1 : PG X e t) (h2 : PGs X es u)
    (hs : (assignEach (e :: es) X.env).map (·.2) = assign e X.env :: (assignEach es X.env).map (·.2) := by rfl) : PGs X (e :: es) (gCons t u) := by
  intro pins s σ H vs us Q I r h
  obtain ⟨v, vr, e1, h⟩ := h
  subst e1
  cases r with
  | cons r rr =>
    rw [hs]
    refine assignInOrder_cons (thn (h1 pins s σ H _ _ _ I r h) fun _ s1 ⟨σ1, H1, I1, q1⟩ => ?_)
    exact h2 pins s1 σ1 H1 _ _ Q I1 rr q1
def gTup (K : PySem.W.Frag) (n : Nat) (t : TGs) : TG := fun v σ H Q => ∃ a xs, v = .ref a ∧ SqT K H a xs ∧ xs.length = n ∧ t xs σ H Q
theorem pg_tup {es : List Expr} {k : Nat} {t : TGs} {n : Nat} (hc : X.calm = true) (h : PGs X es t)
    (hn : (assignEach es X.env).length = n := by rfl) (hst : (assignEach es X.env).findIdx? (·.1) = none := by rfl) : PG X (.Tuple es k pos) (gTup X.K n t) := by
  intro pins s σ H v u Q I r hw
  obtain ⟨a, xs, e1, hq, hl, hw⟩ := hw
  subst e1
  cases r
  obtain ⟨its, rv, ht, hz⟩ := I.tuple hq
  refine assign_Tuple_tuple (I.ok.hd hc) ht (by simp [hn, ← hl, rv.length]) hst fun h' hx => ?_
  have I1 : Inv X pins σ H { s with heap := h' } := I.kept (t' := s.toks) fun b o e => hx b o (Nat.ne_of_lt (Heap.lt_size e)) e
  exact h pins _ σ H xs _ Q I1 (by simpa using rv) hw
def gSub (to ti : TE) (t : TSet) : TG := fun v σ H Q => to σ H fun o H1 => ti σ H1 fun i H2 => t o i v H2 fun H3 => Q σ H3
theorem pg_sub {o i : Expr} {to ti : TE} {t : TSet} (ho : PE X o to) (hi : PE X i ti) (hs : PSet X t)
    (ha : ∀ v, assign (.Subscript o i pos) X.env v = (do
      let ov ← holding [v] (eval o X.env)
      let iv ← holding [v, ov] (eval i X.env)
      standAt pos
      holding [v, ov, iv] (setItem ov iv v)
      release [v, ov, iv] []) := by intro _; rfl) : PG X (.Subscript o i pos) (gSub to ti t) := by
  intro pins s σ H v u Q I r h
  rw [ha]
  refine wpAny_bind (wpAny_holding (thn (ho pins s σ H _ I h) fun ov s1 ⟨x, H1, I1, r1, q1⟩ => ?_))
  refine wpAny_bind (wpAny_holding (thn (hi pins s1 σ H1 _ I1 q1) fun iv s2 ⟨y, H2, I2, r2, q2⟩ => ?_))
  refine wpAny_bind (wpAny_standAt (wpAny_bind (wpAny_holding (thn (hs pins s2 σ H2 x y v ov iv u _ I2 r1 r2 r q2) fun _ s3 ⟨H3, I3, q3⟩ => ?_))))
  exact wpAny_release ⟨σ, H3, I3, q3⟩
def tAsg (te : TE) (g : TG) : TS := fun D σ H => te σ H fun x H1 => g x σ H1 D.nx
theorem ps_asg {tg e : Expr} {te : TE} {g : TG} (he : PE X e te) (hg : PG X tg g) (hs : swapsWithSole [tg] e pos.line X.env = pure false := by rfl) (hw : swappedStores [tg] e X.env = pure none := by rfl)
    (h1 : (assignEach [tg] X.env).map (·.2) = [assign tg X.env] := by rfl) : PS X (.Assign [tg] e pos) (tAsg te g) := by
  intro pins s σ H D I h
  refine wpAny_Assign_stores (thn (he pins s σ H _ I h) fun v s1 ⟨x, H1, I1, r1, q1⟩ => ?_) hs hw
  rw [h1]
  exact thn (hg pins s1 σ H1 x v _ I1 r1 q1) fun _ s2 q => q
theorem ps_set {i : Nat} {x : Str} {e : Expr} {te : TE} {pos' : Pos} (hN : X.N.Nodup) (hi : X.N[i]? = some x) (hx : Loc X.env.scope x) (he : PE X e te) (hs : swapsWith e (some (.Name x pos')) pos.line X.env = pure false := by rfl) (hf : X.fn x = true ∨ X.env.scope.names.lookup x = some .local := by first | exact .inl rfl | exact .inr rfl | assumption) :
    PS X (.Assign [.Name x pos'] e pos) (tAsg te (gName i)) := by
  intro pins s σ H D I h
  refine wpAny_Assign_Name (thn (he pins s σ H _ I h) fun v s1 ⟨y, H1, I1, r1, q1⟩ => ?_) hs
  exact store_ok I1 hN hi hx r1 (fun s2 I2 => ⟨_, H1, I2, q1⟩) hf
end
section
variable {X : Cx} {pos : Pos}
def tWhile (c : TT) (tb : TS) : TS := fun D σ H => ∃ W : Nat → St → Hp → Prop, (∃ m, W m σ H) ∧ ∀ m σ H, W m σ H →
  c σ H fun b H1 => if b = true then ∃ N : St → Hp → Prop, (∀ σ' H', N σ' H' → ∃ m', m' < m ∧ W m' σ' H') ∧ tb { D with nx := N, ct := N, bk := D.nx } σ H1 else D.nx σ H1
theorem ps_while {c : Expr} {body : List Stmt} {tc : TT} {tb : TS} (hp : PassesOwn (model X.prog X.w) X.A X.env X.xe) (hc : PT X c tc) (hb : PSs X body tb) : PS X (.While c body [] pos) (tWhile tc tb) := by
  intro pins s σ H D I h
  obtain ⟨W, ⟨m0, w0⟩, turn⟩ := h
  refine wpAny_While (codeAny_whileLoop (fun n s' => ∃ σ' H', Inv X pins σ' H' s' ∧ W n σ' H') ?_ m0 ⟨σ, H, I, w0⟩)
  rintro n s1 ⟨σ1, H1, I1, w1⟩
  refine wpAny_passesOwn hp (thn (hc pins s1 σ1 H1 _ I1 (turn n σ1 H1 w1)) fun b s2 ⟨H2, I2, q2⟩ => ?_)
  cases b with
  | true =>
    obtain ⟨N, hN, q2⟩ := q2
    rw [if_pos rfl]
    refine wpAny_passesOwn hp (thn (hb pins s2 σ1 H2 _ I2 q2) fun f s3 q3 => ?_)
    cases f with
    | next =>
      obtain ⟨σ3, H3, I3, n3⟩ := q3
      obtain ⟨m', hm, w3⟩ := hN σ3 H3 n3
      exact ⟨m', hm, σ3, H3, I3, w3⟩
    | cont =>
      obtain ⟨σ3, H3, I3, n3⟩ := q3
      obtain ⟨m', hm, w3⟩ := hN σ3 H3 n3
      exact ⟨m', hm, σ3, H3, I3, w3⟩
    | brk => exact q3
    | ret v => exact q3
  | false =>
    rw [if_neg Bool.false_ne_true]
    exact wpAny_execs_nil ⟨σ1, H2, I2, q2⟩
end
structure It where
  go : Nat → Hp → Prop
  yld : Nat → Hp → V → Hp → Prop
  stop : Nat → Hp → Prop
def FpOk (X : Cx) (pins : List (Addr × Obj)) (H : Hp) (b : Addr) : Prop :=
  H b = none ∧ b ≠ X.env.locals ∧ b ∉ X.fs ∧ (b ∈ X.ex ∨ X.s₀.heap.objs.size ≤ b) ∧ (∀ x c, X.env.cells.lookup x = some c → c ≠ b) ∧ ∀ p ∈ X.pn ++ pins, p.1 ≠ b
theorem Inv.fpOk {X : Cx} {pins : List (Addr × Obj)} {σ : St} {H H' : Hp} {s : Shared} {b : Addr} (I : Inv X pins σ H s) (hb : s.heap.objs.size ≤ b) (hn : H' b = none) : FpOk X pins H' b := by
  refine ⟨hn, Nat.ne_of_gt (Nat.lt_of_lt_of_le I.lt hb), I.nofs hb, .inr (Nat.le_trans I.sz hb), fun x c e z => ?_, fun p hp z => ?_⟩
  · obtain ⟨v, q⟩ := I.cell x c e
    exact absurd (Nat.lt_of_lt_of_le q.lt (by rw [z]; exact hb)) (Nat.lt_irrefl _)
  · exact absurd (Nat.lt_of_lt_of_le (Heap.lt_size (I.pin p hp).1) (by rw [z]; exact hb)) (Nat.lt_irrefl _)
structure Turn (P : Program) (w : World) (K : PySem.W.Frag) (tg : Expr) (J : It) (fp : List Addr) (it : Addr) (tn : Nat → Heap → Prop) : Prop where
  mem : it ∈ fp
  obj : ∀ i h, tn i h → ∀ b ∈ fp, ∃ o, h.get? b = some o ∧ ∀ v, o.data ≠ .cell v
  keep : ∀ i h h', tn i h → (∀ b ∈ fp, ∀ o, h.get? b = some o → h'.get? b = some o) → tn i h'
  item : ∀ (X : Cx), X.prog = P → X.w = w → X.K = K → X.calm = true → ∀ (i : Nat) (pins : List (Addr × Obj)) (s : Shared) (σ : St) (H : Hp) (E : Value → Shared → Prop), Inv X pins σ H s → (∀ b ∈ fp, FpOk X pins H b) → tn i s.heap → J.go i H →
    wpAny (model P w) X.A (pyNext (.ref it)) (fun r s1 => ∃ u, r = some u ∧
      wpAny (model P w) X.A (letOwnedTupleGo tg (.ref it) u) (fun _ s2 => ∃ x H', Inv X pins σ H' s2 ∧ RelV x u ∧ J.yld i H x H' ∧ tn (i + 1) s2.heap ∧ ∀ b ∈ fp, H' b = none) E s1) E s
  done : ∀ (X : Cx), X.prog = P → X.w = w → X.K = K → X.calm = true → ∀ (i : Nat) (pins : List (Addr × Obj)) (s : Shared) (σ : St) (H : Hp) (E : Value → Shared → Prop), Inv X pins σ H s → (∀ b ∈ fp, FpOk X pins H b) → tn i s.heap → J.stop i H →
    wpAny (model P w) X.A (pyNext (.ref it)) (fun r s1 => r = none ∧ Inv X pins σ H s1) E s
  self : ∀ (A : Around) (i : Nat) (s : Shared) (Q : Value → Shared → Prop) (E : Value → Shared → Prop), tn i s.heap → Q (.ref it) s → wpAny (model P w) A (pyIter (.ref it)) Q E s
abbrev TI := St → Hp → (It → Hp → Prop) → Prop
def PIE (X : Cx) (pins : List (Addr × Obj)) (σ : St) (tg : Expr) (R : It → Hp → Prop) (itv : Value) (s2 : Shared) : Prop :=
  ∃ (it : Addr) (fp : List Addr) (tn : Nat → Heap → Prop) (J : It) (H' : Hp), itv = .ref it ∧ Inv X pins σ H' s2 ∧ Turn X.prog X.w X.K tg J fp it tn ∧ tn 0 s2.heap ∧ (∀ b ∈ fp, FpOk X pins H' b) ∧ R J H'
def PI (X : Cx) (tg iter : Expr) (wi : TI) : Prop :=
  ∀ (pins : List (Addr × Obj)) (s : Shared) (σ : St) (H : Hp) (R : It → Hp → Prop), Inv X pins σ H s → wi σ H R →
    wpAny (model X.prog X.w) X.A (eval iter X.env) (fun v s1 => wpAny (model X.prog X.w) X.A (pyIter v) (PIE X pins σ tg R) X.xe s1) X.xe s
theorem go_of {M : Model} {A : Around} {E : Value → Shared → Prop} {s : Shared} {tg : Expr} {it : Addr} {u : Value} {o : Obj} {n : String} {vs : Array Value} {Q : Unit → Shared → Prop} (ho : s.heap.get? it = some o) (hc : o.cls = .type n) (hd : o.data = .fields vs)
    (hn : ["enumerate", "zip", "dict_itemiterator", "dict_reverseitemiterator", "odict_iterator", "itertools.zip_longest", "itertools.pairwise"].contains n = false) (hQ : Q () s) : wpAny M A (letOwnedTupleGo tg (.ref it) u) Q E s := by
  unfold letOwnedTupleGo
  cases tg <;> first
    | exact wpAny_pure hQ
    | (cases u <;> first
        | exact wpAny_pure hQ
        | (refine wpAny_bind (wpAny_load ho ?_)
           rw [hc, hd]
           show wpAny M A (if (["enumerate", "zip", "dict_itemiterator", "dict_reverseitemiterator", "odict_iterator", "itertools.zip_longest", "itertools.pairwise"].contains n && vs[0]? == some (rawInt _)) = true then _ else _) Q E s
           rw [if_neg (by intro h; rw [hn, Bool.false_and] at h; cases h)]
           exact wpAny_pure hQ))
def Itl (K : PySem.W.Frag) (a : Addr) : It :=
  ⟨fun i H => ∃ xs x, SqL K H a xs ∧ xs[i]? = some x, fun i H x H' => H' = H ∧ ∀ xs, SqL K H a xs → xs[i]? = some x, fun i H => ∃ xs, SqL K H a xs ∧ xs.length ≤ i⟩
def Itt (K : PySem.W.Frag) (a : Addr) : It :=
  ⟨fun i H => ∃ xs x, SqT K H a xs ∧ xs[i]? = some x, fun i H x H' => H' = H ∧ ∀ xs, SqT K H a xs → xs[i]? = some x, fun i H => ∃ xs, SqT K H a xs ∧ xs.length ≤ i⟩
def Itr (lo : Int) (n : Nat) : It := ⟨fun i _ => i < n, fun i H x H' => H' = H ∧ x = .int (lo + i), fun i _ => n ≤ i⟩
theorem turn_list {P : Program} {w : World} {K : PySem.W.Frag} {tg : Expr} (a it : Addr) : Turn P w K tg (Itl K a) [it] it (fun i h => h.IsListIter it a i) where
  mem := by simp
  obj := fun i h st b hb => by
    have e : b = it := by simpa using hb
    subst e
    obtain ⟨o, e, c, d⟩ := st
    exact ⟨o, e, fun v z => by rw [d] at z; cases z⟩
  keep := fun i h h' st k => st.at fun o e => k it (by simp) o e
  item := by
    intro X hP hw hK hc i pins s σ H E I hf st hg
    subst hP hw hK
    obtain ⟨xs, x, hq, hx⟩ := hg
    obtain ⟨its, rv, p, hz⟩ := I.list hq
    obtain ⟨u, hu, ru⟩ := rv.get hx
    obtain ⟨f0, f1, f2, f3, f4, f5⟩ := hf it (by simp)
    refine wpAny_pyNext_list_item st p.isList (x := u) (by simpa using hu) fun h' st' sb => ?_
    have I1 : Inv X pins σ H { s with heap := h' } := I.turned (t' := s.toks) (fun b o hb e => (sb.2 b hb).trans e) f0 f1 f3 f4 f5
    obtain ⟨o, e, c, d⟩ := id st'
    exact ⟨u, rfl, go_of (s := { s with heap := h' }) e c d (by decide) ⟨x, H, I1, ru, ⟨rfl, fun ys hy => by rw [I.list_inj hy hq]; exact hx⟩, st', fun b hb => (hf b hb).1⟩⟩
  done := by
    intro X hP hw hK hc i pins s σ H E I hf st hg
    subst hP hw hK
    obtain ⟨xs, hq, hx⟩ := hg
    obtain ⟨its, rv, p, hz⟩ := I.list hq
    obtain ⟨f0, f1, f2, f3, f4, f5⟩ := hf it (by simp)
    have hl := rv.length
    exact wpAny_pyNext_list_end (I.ok.hd hc) st p.isList (by simp; omega) fun h' eb => ⟨rfl, I.turned (t' := s.toks) (fun b o hb e => eb b o hb e) f0 f1 f3 f4 f5⟩
  self := fun _ _ _ _ _ st h => wpAny_pyIter_listiter st h
theorem turn_tuple {P : Program} {w : World} {K : PySem.W.Frag} {tg : Expr} (a it : Addr) : Turn P w K tg (Itt K a) [it] it (fun i h => h.IsTupleIter it a i) where
  mem := by simp
  obj := fun i h st b hb => by
    have e : b = it := by simpa using hb
    subst e
    obtain ⟨o, e, c, d⟩ := st
    exact ⟨o, e, fun v z => by rw [d] at z; cases z⟩
  keep := fun i h h' st k => st.at fun o e => k it (by simp) o e
  item := by
    intro X hP hw hK hc i pins s σ H E I hf st hg
    subst hP hw hK
    obtain ⟨xs, x, hq, hx⟩ := hg
    obtain ⟨its, rv, p, hz⟩ := I.tuple hq
    obtain ⟨u, hu, ru⟩ := rv.get hx
    obtain ⟨f0, f1, f2, f3, f4, f5⟩ := hf it (by simp)
    refine wpAny_pyNext_tuple_item st (show s.heap.IsTuple a its.toArray from p) (x := u) (by simpa using hu) fun h' st' sb => ?_
    have I1 : Inv X pins σ H { s with heap := h' } := I.turned (t' := s.toks) (fun b o hb e => (sb.2 b hb).trans e) f0 f1 f3 f4 f5
    obtain ⟨o, e, c, d⟩ := id st'
    exact ⟨u, rfl, go_of (s := { s with heap := h' }) e c d (by decide) ⟨x, H, I1, ru, ⟨rfl, fun ys hy => by rw [I.tuple_inj hy hq]; exact hx⟩, st', fun b hb => (hf b hb).1⟩⟩
  done := by
    intro X hP hw hK hc i pins s σ H E I hf st hg
    subst hP hw hK
    obtain ⟨xs, hq, hx⟩ := hg
    obtain ⟨its, rv, p, hz⟩ := I.tuple hq
    obtain ⟨f0, f1, f2, f3, f4, f5⟩ := hf it (by simp)
    have hl := rv.length
    exact wpAny_pyNext_tuple_end (I.ok.hd hc) st (show s.heap.IsTuple a its.toArray from p) (by simp; omega) fun h' eb => ⟨rfl, I.turned (t' := s.toks) (fun b o hb e => eb b o hb e) f0 f1 f3 f4 f5⟩
  self := fun _ _ _ _ _ st h => wpAny_pyIter_tupleiter st h
theorem turn_range {P : Program} {w : World} {K : PySem.W.Frag} {tg : Expr} (it : Addr) (lo : Int) (n : Nat) : Turn P w K tg (Itr lo n) [it] it (fun i h => IsRangeIter h it (lo + (i : Nat) * 1) ((n : Int) - (i : Nat)) 1) where
  mem := by simp
  obj := fun i h st b hb => by
    have e : b = it := by simpa using hb
    subst e
    exact ⟨_, st, fun v z => by
      have z' : Data.fields _ = Data.cell v := z
      cases z'⟩
  keep := fun i h h' st k => k it (by simp) _ st
  item := by
    intro X hP hw hK hc i pins s σ H E I hf st hg
    subst hP hw hK
    obtain ⟨f0, f1, f2, f3, f4, f5⟩ := hf it (by simp)
    have W := Walks.range (prog := X.prog) (w := X.w) (I.ok.hd hc) it lo 1 n
    refine W.item i s _ _ hg st fun v h' tk hv st' kk => ?_
    obtain ⟨t, rfl⟩ := hv
    have I1 : Inv X pins σ H { s with heap := h', toks := tk } := I.turned (fun b o hb e => kk b o (by simpa using hb) e) f0 f1 f3 f4 f5
    refine ⟨_, rfl, go_of (s := { s with heap := h', toks := tk }) (n := "range_iterator") st' rfl rfl (by decide) ⟨.int (lo + i), H, I1, ⟨t, ?_⟩, ⟨rfl, rfl⟩, st', fun b hb => (hf b hb).1⟩⟩
    rw [Int.mul_one]
  done := by
    intro X hP hw hK hc i pins s σ H E I hf st hg
    subst hP hw hK
    obtain ⟨f0, f1, f2, f3, f4, f5⟩ := hf it (by simp)
    exact wpAny_pyNext_range_end (I.ok.hd hc) st (by have : n ≤ i := hg; omega) fun h' eb => ⟨rfl, I.turned (t' := s.toks) (fun b o hb e => eb b o hb e) f0 f1 f3 f4 f5⟩
  self := fun _ _ _ _ _ st h => wpAny_pyIter_rangeiter st h
end L2
namespace L2
open PySem PySem.Spec PyProof.Rows
section
variable {X : Cx} {tg : Expr}
theorem range_it {pins : List (Addr × Obj)} {σ : St} {H : Hp} {s : Shared} {R : It → Hp → Prop} {E : Value → Shared → Prop} {lo hi : Int} {t u v : Tok} {tk : Nat} (I : Inv X pins σ H s) (h1 : -(2 ^ 62) ≤ lo) (h2 : lo < 2 ^ 62) (h3 : -(2 ^ 62) ≤ hi) (h4 : hi < 2 ^ 62)
    (q : R (Itr lo (hi - lo).toNat) H) : wpAny (model X.prog X.w) X.A (pyIter (.ref s.heap.objs.size)) (PIE X pins σ tg R) E { s with heap := s.heap.push { cls := .type "range", data := .fields #[.int lo t, .int hi u, .int 1 v] }, toks := tk } := by
  refine wpAny_pyIter_range (IsRange.new ..) (small_one h1 h2 h3 h4) ?_
  have I1 : Inv X pins σ H { s with heap := s.heap.push { cls := .type "range", data := .fields #[.int lo t, .int hi u, .int 1 v] }, toks := tk } := I.kept fun b o e => Heap.get?_push_of_some _ e
  refine ⟨(s.heap.push { cls := .type "range", data := .fields #[.int lo t, .int hi u, .int 1 v] }).objs.size, [(s.heap.push { cls := .type "range", data := .fields #[.int lo t, .int hi u, .int 1 v] }).objs.size], _, _, H, rfl,
    I1.kept (t' := tk) fun b o e => Heap.get?_push_of_some _ e, turn_range _ lo (hi - lo).toNat, ?_, fun b hb => ?_, q⟩
  · have e1 : lo + ((0 : Nat) : Int) * 1 = lo := by simp
    have e2 : (((hi - lo).toNat : Nat) : Int) - ((0 : Nat) : Int) = Builtin.Range.rangeSize lo hi 1 := by rw [rangeSize_one]; split <;> omega
    show IsRangeIter _ _ (lo + ((0 : Nat) : Int) * 1) ((((hi - lo).toNat : Nat) : Int) - ((0 : Nat) : Int)) 1
    rw [e1, e2]
    exact Heap.get?_push_size _ rfl
  · have e : b = (s.heap.push { cls := .type "range", data := .fields #[.int lo t, .int hi u, .int 1 v] }).objs.size := by simpa using hb
    subst e
    exact I1.fpOk (Nat.le_refl _) (I1.hok.fresh (Nat.le_refl _))
def iRng1 (ta : TA) : TI := fun σ H R => ta σ H fun vs H1 => ∃ j : Int, vs = [.int j] ∧ -(2 ^ 62) ≤ j ∧ j < 2 ^ 62 ∧ R (Itr 0 j.toNat) H1
def iRng2 (ta : TA) : TI := fun σ H R => ta σ H fun vs H1 => ∃ i j : Int, vs = [.int i, .int j] ∧ (-(2 ^ 62) ≤ i ∧ i < 2 ^ 62 ∧ -(2 ^ 62) ≤ j ∧ j < 2 ^ 62) ∧ R (Itr i (j - i).toNat) H1
theorem pi_range1 {a : Expr} {ta : TA} {p pos : Pos} (hg : Gl X "range") (hm : X.mg "range" = none) (ha : PA X [a] ta) (hs : starEach [a] X.env = [(false, eval a X.env)] := by rfl) : PI X tg (.Call (.Name "range" p) [a] [] pos) (iRng1 ta) := by
  intro pins s σ H R I h
  refine Call_ (ld_blt I hg hm boot_range (PyProof.Rows.callWith_type1 (thn (ha pos pins s σ H _ I h) fun us s1 ⟨vs, H1, I1, r1, q1⟩ => ?_) hs rfl))
  obtain ⟨j, e, q1, q2, q⟩ := q1
  subst e
  cases r1 with
  | cons r rr =>
    cases rr
    obtain ⟨t, rfl⟩ := r
    exact call_range_1 (range_it I1 (by omega) (by omega) q1 q2 (by simpa using q))
theorem pi_range2 {a b : Expr} {ta : TA} {p pos : Pos} (hg : Gl X "range") (hm : X.mg "range" = none) (ha : PA X [a, b] ta) (hs : starEach [a, b] X.env = [(false, eval a X.env), (false, eval b X.env)] := by rfl) (hs2 : starEach [b] X.env = [(false, eval b X.env)] := by rfl) :
    PI X tg (.Call (.Name "range" p) [a, b] [] pos) (iRng2 ta) := by
  intro pins s σ H R I h
  refine Call_ (ld_blt I hg hm boot_range (PyProof.Rows.callWith_type1 (thn (ha pos pins s σ H _ I h) fun us s1 ⟨vs, H1, I1, r1, q1⟩ => ?_) (by rw [hs, hs2]) (by rw [hs2]; rfl)))
  obtain ⟨i, j, e, ⟨q1, q2, q3, q4⟩, q⟩ := q1
  subst e
  cases r1 with
  | cons r rr =>
    cases rr with
    | cons r' rr =>
      cases rr
      obtain ⟨t, rfl⟩ := r
      obtain ⟨t', rfl⟩ := r'
      exact call_range_2 (range_it I1 q1 q2 q3 q4 q)
def tFor (wi : TI) (g : TG) (tb : TS) : TS := fun D σ H => wi σ H fun J H1 => ∃ W : Nat → Nat → St → Hp → Prop, (∃ m, W 0 m σ H1) ∧ ∀ i m σ H, W i m σ H →
  (J.stop i H ∧ D.nx σ H) ∨ (J.go i H ∧ ∃ N : St → Hp → Prop, (∀ σ' H', N σ' H' → ∃ m', m' < m ∧ W (i + 1) m' σ' H') ∧ ∀ x H', J.yld i H x H' → g x σ H' fun σ2 H2 => tb { D with nx := N, ct := N, bk := D.nx } σ2 H2)
def pinsAt (fp : List Addr) (h : Heap) : List (Addr × Obj) := fp.filterMap fun b => (h.get? b).map fun o => (b, o)
theorem mem_pinsAt {fp : List Addr} {h : Heap} {b : Addr} {o : Obj} (hb : b ∈ fp) (e : h.get? b = some o) : (b, o) ∈ pinsAt fp h := List.mem_filterMap.mpr ⟨b, hb, by rw [e]; rfl⟩
theorem of_pinsAt {fp : List Addr} {h : Heap} {p : Addr × Obj} (hp : p ∈ pinsAt fp h) : p.1 ∈ fp ∧ h.get? p.1 = some p.2 := by
  obtain ⟨b, hb, e⟩ := List.mem_filterMap.mp hp
  cases q : h.get? b with
  | none => rw [q] at e; cases e
  | some o =>
    rw [q] at e
    have e' : (b, o) = p := Option.some.inj e
    subst e'
    exact ⟨hb, q⟩
theorem Inv.pinned {pins : List (Addr × Obj)} {σ : St} {H : Hp} {s : Shared} {fp : List Addr} (I : Inv X pins σ H s) (hf : ∀ b ∈ fp, FpOk X pins H b) (ho : ∀ b ∈ fp, ∃ o, s.heap.get? b = some o ∧ ∀ v, o.data ≠ .cell v) : Inv X (pins ++ pinsAt fp s.heap) σ H s :=
  I.pins_of fun p hp => (List.mem_append.mp hp).elim (fun z => I.pin p (List.mem_append_right _ z)) fun z => by
    obtain ⟨hb, e⟩ := of_pinsAt z
    obtain ⟨f0, f1, f2, _⟩ := hf p.1 hb
    obtain ⟨o, e', d⟩ := ho p.1 hb
    rw [e] at e'; cases e'
    exact ⟨e, f0, f1, f2, d⟩
theorem Inv.unpinned {pins pl : List (Addr × Obj)} {σ : St} {H : Hp} {s : Shared} (I : Inv X (pins ++ pl) σ H s) : Inv X pins σ H s := I.pins_of fun p hp => I.pin p (List.mem_append_right _ (List.mem_append_left _ hp))
theorem ps_for {iter : Expr} {body : List Stmt} {wi : TI} {g : TG} {tb : TS} {pos : Pos} (hp : PassesOwn (model X.prog X.w) X.A X.env X.xe) (hc : X.calm = true) (hi : PI X tg iter wi) (hg : PG X tg g) (hb : PSs X body tb)
    (hs : ∀ x, foldedSetIterable iter X.env x = pure x := by intro _; rfl) : PS X (.For tg iter body [] pos) (tFor wi g tb) := by
  intro pins s σ H D I h
  refine wpAny_For (thn (hi pins s σ H _ I h) fun v s1 h1 => thn h1 fun itv s2 h2 => ?_) hs
  obtain ⟨it, fp, tn, J, H2, e, I2, T, st2, f2, W, ⟨m0, w0⟩, turn⟩ := h2
  subst e
  have stat : ∀ {H' : Hp}, (∀ b ∈ fp, H' b = none) → ∀ b ∈ fp, FpOk X pins H' b := fun hn b hb => ⟨hn b hb, (f2 b hb).2⟩
  refine codeAny_forLoop_any (fun n s' => ∃ i σ' H', Inv X pins σ' H' s' ∧ tn i s'.heap ∧ (∀ b ∈ fp, H' b = none) ∧ W i n σ' H') ?_ m0 ⟨0, σ, H2, I2, st2, fun b hb => (f2 b hb).1, w0⟩
  rintro n s3 ⟨i, σ3, H3, I3, st3, fr3, w3⟩
  rcases turn i n σ3 H3 w3 with ⟨stop, qn⟩ | ⟨go, N, hN, step⟩
  · refine wpAny_passesOwn hp (thn (T.done X rfl rfl rfl hc i pins s3 σ3 H3 X.xe I3 (stat fr3) st3 stop) fun r s4 ⟨hr, I4⟩ => ?_)
    subst hr
    exact wpAny_execs_nil ⟨σ3, H3, I4, qn⟩
  · refine wpAny_passesOwn hp (thn (T.item X rfl rfl rfl hc i pins s3 σ3 H3 X.xe I3 (stat fr3) st3 go) fun r s4 ⟨u, hr, h4⟩ => ?_)
    subst hr
    refine wpAny_passesOwn hp (thn h4 fun _ s5 ⟨x, H5, I5, r5, y5, st5, fr5⟩ => ?_)
    have I5' := I5.pinned (stat fr5) (T.obj _ _ st5)
    refine wpAny_passesOwn hp (thn (hg _ s5 σ3 H5 x u _ I5' r5 (step x H5 y5)) fun _ s6 ⟨σ6, H6, I6, q6⟩ => ?_)
    refine wpAny_passesOwn hp (thn (hb _ s6 σ6 H6 _ I6 q6) fun f s7 q7 => ?_)
    have again : ∀ {σ7 : St} {H7 : Hp}, Inv X (pins ++ pinsAt fp s5.heap) σ7 H7 s7 → N σ7 H7 → ∃ m, m < n ∧ ∃ i σ' H', Inv X pins σ' H' s7 ∧ tn i s7.heap ∧ (∀ b ∈ fp, H' b = none) ∧ W i m σ' H' := fun {σ7 H7} I7 n7 => by
      obtain ⟨m', hm, w7⟩ := hN σ7 H7 n7
      refine ⟨m', hm, i + 1, σ7, H7, I7.unpinned, T.keep _ _ _ st5 fun b hb o e => (I7.pin (b, o) (List.mem_append_right _ (List.mem_append_right _ (mem_pinsAt hb e)))).1, fun b hb => ?_, w7⟩
      obtain ⟨o, e, d⟩ := T.obj _ _ st5 b hb
      exact (I7.pin (b, o) (List.mem_append_right _ (List.mem_append_right _ (mem_pinsAt hb e)))).2.1
    cases f with
    | next => obtain ⟨σ7, H7, I7, n7⟩ := q7; exact again I7 n7
    | cont => obtain ⟨σ7, H7, I7, n7⟩ := q7; exact again I7 n7
    | brk => obtain ⟨σ7, H7, I7, q7⟩ := q7; exact ⟨σ7, H7, I7.unpinned, q7⟩
    | ret v => obtain ⟨x7, σ7, H7, I7, r7, q7⟩ := q7; exact ⟨x7, σ7, H7, I7.unpinned, r7, q7⟩
end
end L2
namespace L2
open PySem PySem.Spec PyProof.Rows
abbrev R2 := V → V → Hp → VK → Prop
def OpR (X : Cx) (f : Value → Value → Sem Value) (r : R2) : Prop :=
  ∀ (pins : List (Addr × Obj)) (s : Shared) (σ : St) (H : Hp) (x y : V) (v u : Value) (Q : VK), Inv X pins σ H s → RelV x v → RelV y u → r x y H Q →
    wpAny (model X.prog X.w) X.A (f v u) (EP X pins σ Q) X.xe s
def UnR (X : Cx) (f : Value → Sem Value) (r : V → Hp → VK → Prop) : Prop :=
  ∀ (pins : List (Addr × Obj)) (s : Shared) (σ : St) (H : Hp) (x : V) (v : Value) (Q : VK), Inv X pins σ H s → RelV x v → r x H Q →
    wpAny (model X.prog X.w) X.A (f v) (EP X pins σ Q) X.xe s
def CallR (X : Cx) (f : Value) (r : List V → Hp → VK → Prop) : Prop :=
  ∀ (pins : List (Addr × Obj)) (s : Shared) (σ : St) (H : Hp) (xs : List V) (us : List Value) (Q : VK), Inv X pins σ H s → Vals xs us → r xs H Q →
    wpAny (model X.prog X.w) X.A (call f us) (EP X pins σ Q) X.xe s
def TruR (X : Cx) (r : V → Hp → (Bool → Hp → Prop) → Prop) : Prop :=
  ∀ (pins : List (Addr × Obj)) (s : Shared) (σ : St) (H : Hp) (x : V) (v : Value) (Q : Bool → Hp → Prop), Inv X pins σ H s → RelV x v → r x H Q →
    wpAny (model X.prog X.w) X.A (truthy v) (TP X pins σ Q) X.xe s
def tOp (r : R2) (ta tb : TE) : TE := fun σ H Q => ta σ H fun x H1 => tb σ H1 fun y H2 => r x y H2 Q
def tUn (r : V → Hp → VK → Prop) (ta : TE) : TE := fun σ H Q => ta σ H fun x H1 => r x H1 Q
def rI (C : Int → Int → Prop) (g : Int → Int → V) : R2 := fun x y H Q => ∃ i j, x = .int i ∧ y = .int j ∧ C i j ∧ Q (g i j) H
def rI0 (g : Int → Int → V) : R2 := fun x y H Q => ∃ i j, x = .int i ∧ y = .int j ∧ Q (g i j) H
def rU (g : Int → V) : V → Hp → VK → Prop := fun x H Q => ∃ i, x = .int i ∧ Q (g i) H
section
variable {X : Cx} {a b c : Expr} {ta tb tc : TE} {pos : Pos}
theorem binT (ha : PE X a ta) (hb : PE X b tb) {pins : List (Addr × Obj)} {s : Shared} {σ : St} {H : Hp} {R : V → V → Hp → Prop} (I : Inv X pins σ H s)
    (h : ta σ H fun x H1 => tb σ H1 fun y H2 => R x y H2) {Q : Value → Shared → Prop} {f : Value → Value → Sem Value}
    (hf : ∀ v u s2 x y H2, Inv X pins σ H2 s2 → RelV x v → RelV y u → R x y H2 → wpAny (model X.prog X.w) X.A (f v u) Q X.xe s2) :
    wpAny (model X.prog X.w) X.A (eval a X.env) (fun v s₁ => wpAny (model X.prog X.w) X.A (eval b X.env) (fun u s₂ => wpAny (model X.prog X.w) X.A (f v u) Q X.xe s₂) X.xe s₁) X.xe s := by
  refine thn (ha pins s σ H _ I h) fun v s1 ⟨x, H1, I1, r1, q1⟩ => ?_
  refine thn (hb pins s1 σ H1 _ I1 q1) fun u s2 ⟨y, H2, I2, r2, q2⟩ => ?_
  exact hf v u s2 x y H2 I2 r1 r2 q2
theorem pe_op {op : Operator} {r : R2} (ho : OpR X (binaryOp op) r) (ha : PE X a ta) (hb : PE X b tb) : PE X (.BinOp a op b pos) (tOp r ta tb) := by
  intro pins s σ H Q I h
  exact wpAny_BinOp (binT ha hb I h fun v u s2 x y H2 I2 rx ry q => ho pins s2 σ H2 x y v u Q I2 rx ry q)
theorem pe_un {op : UnaryOp} {r : V → Hp → VK → Prop} (ho : UnR X (unaryOp op) r) (ha : PE X a ta) : PE X (.UnaryOp op a pos) (tUn r ta) := by
  intro pins s σ H Q I h
  exact UnaryOp_ (thn (ha pins s σ H _ I h) fun v s1 ⟨x, H1, I1, r1, q1⟩ => ho pins s1 σ H1 x v Q I1 r1 q1)
theorem opI {f : Value → Value → Sem Value} {C : Int → Int → Prop} {g : Int → Int → Int}
    (rule : ∀ (i j : Int) (t u : Tok) (s : Shared) (Q : Value → Shared → Prop) (E : Value → Shared → Prop), C i j → Q (.int (g i j) s.toks) { s with toks := s.toks + 1 } → wpAny (model X.prog X.w) X.A (f (.int i t) (.int j u)) Q E s) :
    OpR X f (rI C fun i j => .int (g i j)) := by
  intro pins s σ H x y v u Q I rx ry h
  obtain ⟨i, j, rfl, rfl, hc, q⟩ := h
  obtain ⟨t, rfl⟩ := rx
  obtain ⟨t', rfl⟩ := ry
  exact rule i j t t' s _ _ hc ⟨.int (g i j), H, I.tok _, ⟨_, rfl⟩, q⟩
theorem opI0 {f : Value → Value → Sem Value} {g : Int → Int → Int}
    (rule : ∀ (i j : Int) (t u : Tok) (s : Shared) (Q : Value → Shared → Prop) (E : Value → Shared → Prop), Q (.int (g i j) s.toks) { s with toks := s.toks + 1 } → wpAny (model X.prog X.w) X.A (f (.int i t) (.int j u)) Q E s) :
    OpR X f (rI0 fun i j => .int (g i j)) := by
  intro pins s σ H x y v u Q I rx ry h
  obtain ⟨i, j, rfl, rfl, q⟩ := h
  obtain ⟨t, rfl⟩ := rx
  obtain ⟨t', rfl⟩ := ry
  exact rule i j t t' s _ _ ⟨.int (g i j), H, I.tok _, ⟨_, rfl⟩, q⟩
theorem opB0 {f : Value → Value → Sem Value} {g : Int → Int → Bool}
    (rule : ∀ (i j : Int) (t u : Tok) (s : Shared) (Q : Value → Shared → Prop) (E : Value → Shared → Prop), Q (.bool (g i j)) s → wpAny (model X.prog X.w) X.A (f (.int i t) (.int j u)) Q E s) :
    OpR X f (rI0 fun i j => .bl (g i j)) := by
  intro pins s σ H x y v u Q I rx ry h
  obtain ⟨i, j, rfl, rfl, q⟩ := h
  obtain ⟨t, rfl⟩ := rx
  obtain ⟨t', rfl⟩ := ry
  exact rule i j t t' s _ _ ⟨.bl (g i j), H, I, rfl, q⟩
def CDiv (i j : Int) : Prop := 0 < j ∧ j < 1073741824
def CMul (i j : Int) : Prop := (-(2 ^ 64) < i ∧ i < 2 ^ 64) ∨ (-(2 ^ 64) < j ∧ j < 2 ^ 64)
theorem CMul.ok {i j : Int} (h : CMul i j) : IntMulOk i j := by
  rcases h with ⟨h1, h2⟩ | ⟨h1, h2⟩
  · exact .of_left (intBits_le_64 h1 h2)
  · exact .of_right (intBits_le_64 h1 h2)
theorem two_pow_nn (k : Nat) : (0 : Int) ≤ 2 ^ k := by
  rw [two_pow_cast]
  exact Int.natCast_nonneg _
theorem op_add : OpR X (binaryOp .Add) (rI0 fun i j => .int (i + j)) := opI0 fun _ _ _ _ _ _ _ q => add_int q
theorem op_mul : OpR X (binaryOp .Mult) (rI CMul fun i j => .int (i * j)) := opI fun _ _ _ _ _ _ _ hc q => mul_int q hc.ok
theorem op_fdiv : OpR X (binaryOp .FloorDiv) (rI CDiv fun i j => .int (i / j)) := opI fun i j _ _ _ _ _ hc q => by
  have h1 : (0 : Int) < j := hc.1
  have h2 : j < 1073741824 := hc.2
  exact floordiv_int (by omega) (by rw [Int.fdiv_eq_ediv_of_nonneg i (by omega)]; exact q) (.inl (PyProof.noPylong_small (by omega)))
theorem op_mod : OpR X (binaryOp .Mod) (rI (fun _ j => 0 < j) fun i j => .int (i % j)) := opI fun i j _ _ _ _ _ hc q => by
  have h1 : (0 : Int) < j := hc
  exact mod_int' (by omega) (by rw [Int.fmod_eq_emod_of_nonneg i (by omega)]; exact q)
theorem op_shr : OpR X (binaryOp .RShift) (rI (fun _ j => 0 ≤ j) fun i j => .int (i / 2 ^ j.toNat)) := opI fun i j _ _ _ _ _ hc q =>
  rshift_int hc (by rw [Int.fdiv_eq_ediv_of_nonneg i (two_pow_nn _)]; exact q)
theorem op_and : OpR X (binaryOp .BitAnd) (rI0 fun i j => .int (Builtin.bitAnd i j)) := opI0 fun _ _ _ _ _ _ _ q => and_int q
theorem unI {f : Value → Sem Value} {g : Int → Int}
    (rule : ∀ (i : Int) (t : Tok) (s : Shared) (Q : Value → Shared → Prop) (E : Value → Shared → Prop), Q (.int (g i) s.toks) { s with toks := s.toks + 1 } → wpAny (model X.prog X.w) X.A (f (.int i t)) Q E s) :
    UnR X f (rU fun i => .int (g i)) := by
  intro pins s σ H x v Q I rx h
  obtain ⟨i, rfl, q⟩ := h
  obtain ⟨t, rfl⟩ := rx
  exact rule i t s _ _ ⟨.int (g i), H, I.tok _, ⟨_, rfl⟩, q⟩
theorem un_neg : UnR X (unaryOp .USub) (rU fun i => .int (-i)) := unI fun _ _ _ _ _ q => neg_int q
end
def scal : V → V → Bool
  | .non, .non => true | .non, .int _ => true | .int _, .non => true | .non, .bl _ => true | .bl _, .non => true | .non, .str _ => true | .str _, .non => true
  | .int _, .int _ => true | .bl _, .bl _ => true | .str _, .str _ => true | .byt _, .byt _ => true
  | .int _, .str _ => true | .str _, .int _ => true | .bl _, .str _ => true | .str _, .bl _ => true
  | _, _ => false
def rEq : R2 := fun x y H Q => scal x y = true ∧ Q (.bl (decide (x = y))) H
def rNe : R2 := fun x y H Q => scal x y = true ∧ Q (.bl (!decide (x = y))) H
theorem dec_int {i j : Int} : decide (V.int i = V.int j) = (i == j) := by
  rw [Bool.eq_iff_iff]
  simp
theorem dec_bl {i j : Bool} : decide (V.bl i = V.bl j) = (i == j) := by
  rw [Bool.eq_iff_iff]
  simp
theorem dec_str {i j : Str} : decide (V.str i = V.str j) = (i == j) := by
  rw [Bool.eq_iff_iff]
  simp
theorem dec_byt {i j : Array UInt8} : decide (V.byt i = V.byt j) = (i.toList == j.toList) := by
  rw [Bool.eq_iff_iff]
  cases i
  cases j
  simp
section
variable {X : Cx} {a b c : Expr} {ta tb tc : TE} {pos : Pos}
theorem fin_bl {pins : List (Addr × Obj)} {σ : St} {H : Hp} {s : Shared} {Q : VK} {k k' : Bool} (I : Inv X pins σ H s) (q : Q (.bl k) H) (e : k = k') : EP X pins σ Q (.bool k') s := by
  subst e
  exact ⟨.bl k, H, I, rfl, q⟩
theorem op_eq : OpR X (compareOp .Eq) rEq := by
  intro pins s σ H x y v u Q I rx ry h
  obtain ⟨hs, q⟩ := h
  cases x with
  | non =>
    cases rx
    cases y with
    | non => cases ry; exact PySem.EqNone.eq_none_none (fin_bl I q (by simp))
    | bl j => cases ry; exact PySem.EqNone.eq_none_bool (fin_bl I q (by simp))
    | int j => obtain ⟨t', rfl⟩ := ry; exact PySem.EqNone.eq_none_int (fin_bl I q (by simp))
    | str j => obtain ⟨t', rfl⟩ := ry; exact PySem.EqNone.eq_none_str (fin_bl I q (by simp))
    | _ => exact absurd (show false = true from hs) Bool.false_ne_true
  | bl i =>
    cases rx
    cases y with
    | non => cases ry; exact PySem.EqNone.eq_bool_none (fin_bl I q (by simp))
    | bl j => cases ry; exact eq_bool (fin_bl I q dec_bl)
    | str j => obtain ⟨t', rfl⟩ := ry; exact PySem.EqMixed.eq_bool_str (fin_bl I q (by simp))
    | _ => exact absurd (show false = true from hs) Bool.false_ne_true
  | int i =>
    obtain ⟨t, rfl⟩ := rx
    cases y with
    | non => cases ry; exact PySem.EqNone.eq_int_none (fin_bl I q (by simp))
    | int j => obtain ⟨t', rfl⟩ := ry; exact eq_int (fin_bl I q dec_int)
    | str j => obtain ⟨t', rfl⟩ := ry; exact PySem.EqMixed.eq_int_str (fin_bl I q (by simp))
    | _ => exact absurd (show false = true from hs) Bool.false_ne_true
  | str i =>
    obtain ⟨t, rfl⟩ := rx
    cases y with
    | non => cases ry; exact PySem.EqNone.eq_str_none (fin_bl I q (by simp))
    | bl j => cases ry; exact PySem.EqMixed.eq_str_bool (fin_bl I q (by simp))
    | int j => obtain ⟨t', rfl⟩ := ry; exact PySem.EqMixed.eq_str_int (fin_bl I q (by simp))
    | str j => obtain ⟨t', rfl⟩ := ry; exact eq_str (fin_bl I q dec_str)
    | _ => exact absurd (show false = true from hs) Bool.false_ne_true
  | byt i =>
    obtain ⟨t, rfl⟩ := rx
    cases y with
    | byt j => obtain ⟨t', rfl⟩ := ry; exact PySem.W.eq_bytes (fin_bl I q dec_byt)
    | _ => exact absurd (show false = true from hs) Bool.false_ne_true
  | _ => cases y <;> exact absurd (show false = true from hs) Bool.false_ne_true
theorem op_ne : OpR X (compareOp .NotEq) rNe := by
  intro pins s σ H x y v u Q I rx ry h
  obtain ⟨hs, q⟩ := h
  cases x with
  | non =>
    cases rx
    cases y with
    | non => cases ry; exact PySem.EqNone.ne_none_none (fin_bl I q (by simp))
    | bl j => cases ry; exact PySem.EqNone.ne_none_bool (fin_bl I q (by simp))
    | int j => obtain ⟨t', rfl⟩ := ry; exact PySem.EqNone.ne_none_int (fin_bl I q (by simp))
    | str j => obtain ⟨t', rfl⟩ := ry; exact PySem.EqNone.ne_none_str (fin_bl I q (by simp))
    | _ => exact absurd (show false = true from hs) Bool.false_ne_true
  | bl i =>
    cases rx
    cases y with
    | non => cases ry; exact PySem.EqNone.ne_bool_none (fin_bl I q (by simp))
    | bl j => cases ry; exact ne_bool (fin_bl I q (congrArg not dec_bl))
    | str j => obtain ⟨t', rfl⟩ := ry; exact PySem.EqMixed.ne_bool_str (fin_bl I q (by simp))
    | _ => exact absurd (show false = true from hs) Bool.false_ne_true
  | int i =>
    obtain ⟨t, rfl⟩ := rx
    cases y with
    | non => cases ry; exact PySem.EqNone.ne_int_none (fin_bl I q (by simp))
    | int j => obtain ⟨t', rfl⟩ := ry; exact ne_int (fin_bl I q (congrArg not dec_int))
    | str j => obtain ⟨t', rfl⟩ := ry; exact PySem.EqMixed.ne_int_str (fin_bl I q (by simp))
    | _ => exact absurd (show false = true from hs) Bool.false_ne_true
  | str i =>
    obtain ⟨t, rfl⟩ := rx
    cases y with
    | non => cases ry; exact PySem.EqNone.ne_str_none (fin_bl I q (by simp))
    | bl j => cases ry; exact PySem.EqMixed.ne_str_bool (fin_bl I q (by simp))
    | int j => obtain ⟨t', rfl⟩ := ry; exact PySem.EqMixed.ne_str_int (fin_bl I q (by simp))
    | str j => obtain ⟨t', rfl⟩ := ry; exact ne_str (fin_bl I q (congrArg not dec_str))
    | _ => exact absurd (show false = true from hs) Bool.false_ne_true
  | byt i =>
    obtain ⟨t, rfl⟩ := rx
    cases y with
    | byt j => obtain ⟨t', rfl⟩ := ry; exact PySem.W.ne_bytes (fin_bl I q (congrArg not dec_byt))
    | _ => exact absurd (show false = true from hs) Bool.false_ne_true
  | _ => cases y <;> exact absurd (show false = true from hs) Bool.false_ne_true
theorem op_lt : OpR X (compareOp .Lt) (rI0 fun i j => .bl (decide (i < j))) := opB0 fun _ _ _ _ _ _ _ q => lt_int q
theorem op_le : OpR X (compareOp .LtE) (rI0 fun i j => .bl (decide (i ≤ j))) := opB0 fun _ _ _ _ _ _ _ q => le_int q
theorem op_gt : OpR X (compareOp .Gt) (rI0 fun i j => .bl (decide (j < i))) := opB0 fun _ _ _ _ _ _ _ q => gt_int q
theorem op_lt_str : OpR X (compareOp .Lt) (fun x y H Q => ∃ i j, x = .str i ∧ y = .str j ∧ Q (.bl (decide (i.cps.toList < j.cps.toList))) H) := by
  intro pins s σ H x y v u Q I rx ry h
  obtain ⟨i, j, rfl, rfl, q⟩ := h
  obtain ⟨t, rfl⟩ := rx
  obtain ⟨t', rfl⟩ := ry
  exact lt_str (fin_bl I q rfl)
theorem OpR.or {f : Value → Value → Sem Value} {r r' : R2} (h : OpR X f r) (h' : OpR X f r') : OpR X f (fun x y H Q => r x y H Q ∨ r' x y H Q) := by
  intro pins s σ H x y v u Q I rx ry q
  rcases q with q | q
  · exact h pins s σ H x y v u Q I rx ry q
  · exact h' pins s σ H x y v u Q I rx ry q
theorem nomark (b : Expr) {op : CmpOp} (h : op ≠ .In := by decide) (h2 : op ≠ .NotIn := by decide) : behindInMarks op b = false := by
  have e1 : (op == CmpOp.In) = false := by cases op <;> first | rfl | exact absurd rfl h
  have e2 : (op == CmpOp.NotIn) = false := by cases op <;> first | rfl | exact absurd rfl h2
  cases b <;> simp [behindInMarks, e1, e2]
theorem pe_cmpR {op : CmpOp} {r : R2} (ho : OpR X (compareOp op) r) (ha : PE X a ta) (hb : PE X b tb) (hm : behindInMarks op b = false) : PE X (.Compare a [op] [b] pos) (tOp r ta tb) := by
  intro pins s σ H Q I h
  exact wpAny_Compare1 (binT ha hb I h fun v u s2 x y H2 I2 rx ry q => ho pins s2 σ H2 x y v u Q I2 rx ry q) hm
def tTest (t : TE) : TT := fun σ H Q => t σ H fun x H' => ∃ k, x = .bl k ∧ Q k H'
theorem pt_cmpR {op : CmpOp} {r : R2} (ho : OpR X (compareOp op) r) (ha : PE X a ta) (hb : PE X b tb) (hm : behindInMarks op b = false) : PT X (.Compare a [op] [b] pos) (tTest (tOp r ta tb)) := by
  intro pins s σ H Q I h
  refine wpAny_isTrue_Compare1 (thn (ha pins s σ H _ I h) fun v s1 ⟨x, H1, I1, r1, q1⟩ => thn (hb pins s1 σ H1 _ I1 q1) fun u s2 ⟨y, H2, I2, r2, q2⟩ =>
    thn (ho pins s2 σ H2 x y v u _ I2 r1 r2 q2) fun c s3 ⟨z, H3, I3, r3, k, e, q3⟩ => ?_) hm
  subst e
  cases r3
  exact wpAny_truthy_bool ⟨H3, I3, q3⟩
def TruV (K : PySem.W.Frag) (x : V) (H : Hp) (k : Bool) : Prop :=
  match x with
  | .non => k = false
  | .bl b => k = b
  | .int i => k = (i != 0)
  | .str y => y.length ≤ sizeLine ∧ k = ((y.length : Int) != 0)
  | .byt y => y.size ≤ sizeLine ∧ k = ((y.size : Int) != 0)
  | .ref p => (∃ xs, SqL K H p xs ∧ k = !xs.isEmpty) ∨ (∃ xs, SqT K H p xs ∧ k = !xs.isEmpty) ∨ ∃ kvs, H p = some (.dK kvs) ∧ k = !kvs.isEmpty
  | _ => False
theorem isEmpty_kv {κ : Type} {kvs : List (κ × V)} {vs : List (κ × Value)} (r : KV kvs vs) : (!vs.isEmpty) = !kvs.isEmpty := by
  cases r <;> rfl
theorem isEmpty_of {xs : List V} {its : List Value} (r : Vals xs its) : (!its.toArray.isEmpty) = !xs.isEmpty := by
  cases r <;> simp
theorem line63 : (sizeLine : Nat) < 2 ^ 63 := by rw [sizeLine_eq]; decide
theorem tru_ok : TruR X (fun x H Q => ∃ k, TruV X.K x H k ∧ Q k H) := by
  intro pins s σ H x v Q I rx h
  obtain ⟨k, e, q⟩ := h
  have hl := line63
  have hs : sizeLine = 16777216 := sizeLine_eq
  cases x with
  | non =>
    cases rx
    have e' : k = false := e
    subst e'
    exact truthy_none ⟨H, I, q⟩
  | bl b =>
    cases rx
    have e' : k = b := e
    subst e'
    exact wpAny_truthy_bool ⟨H, I, q⟩
  | int i =>
    obtain ⟨t, rfl⟩ := rx
    have e' : k = (i != 0) := e
    subst e'
    exact PySem.P.truthy_int ⟨H, I, q⟩
  | str y =>
    obtain ⟨t, rfl⟩ := rx
    obtain ⟨hy, e'⟩ : y.length ≤ sizeLine ∧ k = ((y.length : Int) != 0) := e
    subst e'
    exact PySem.P.truthy_str (by omega) ⟨H, I.tok _, q⟩
  | byt y =>
    obtain ⟨t, rfl⟩ := rx
    obtain ⟨hy, e'⟩ : y.size ≤ sizeLine ∧ k = ((y.size : Int) != 0) := e
    subst e'
    exact PySem.W.truthy_bytes (by omega) ⟨H, I.tok _, q⟩
  | ref p =>
    cases rx
    have e' : (∃ xs, SqL X.K H p xs ∧ k = !xs.isEmpty) ∨ (∃ xs, SqT X.K H p xs ∧ k = !xs.isEmpty) ∨ ∃ kvs, H p = some (.dK kvs) ∧ k = !kvs.isEmpty := e
    rcases e' with ⟨xs, hx, e'⟩ | ⟨xs, hx, e'⟩ | ⟨kvs, hx, e'⟩
    · subst e'
      obtain ⟨its, r, pl, hz⟩ := I.list hx
      have hlen := r.length
      exact wpAny_truthy_list pl.isList (by simp only [List.size_toArray]; omega) ⟨H, I.tok _, by rw [isEmpty_of r]; exact q⟩
    · subst e'
      obtain ⟨its, r, pl, hz⟩ := I.tuple hx
      have hlen := r.length
      exact truthy_tuple pl (by simp only [List.size_toArray]; omega) ⟨H, I.tok _, by rw [isEmpty_of r]; exact q⟩
    · subst e'
      obtain ⟨hz, hS, vs, r, m⟩ : kvs.length ≤ sizeLine ∧ (p == sysModules) = false ∧ ∃ vs, KV kvs vs ∧ s.heap.DictOf (mixKind X.prog X.w) p vs := I.hok p _ hx
      have hlen : kvs.length = vs.length := Paired.length r
      exact wpAny_truthy_dict hS m (by omega) ⟨H, I.tok _, by rw [isEmpty_kv r]; exact q⟩
  | _ => exact (show False from e).elim
theorem pt_truth (ha : PE X a ta) (he : ∀ whole, isTrue a X.env whole = (do let v ← whole; standAt a.pos; holding [v] (truthy v))) :
    PT X a (fun σ H Q => ta σ H fun x H' => ∃ k, TruV X.K x H' k ∧ Q k H') := by
  intro pins s σ H Q I h
  exact isTrue_plain (thn (ha pins s σ H _ I h) fun v s1 ⟨x, H1, I1, r1, q1⟩ => tru_ok pins s1 σ H1 x v Q I1 r1 q1) (he _)
theorem op_add_str : OpR X (binaryOp .Add) (fun x y H Q => ∃ i j, x = .str i ∧ y = .str j ∧ i.length + j.length ≤ sizeLine ∧ Q (.str (i ++ j)) H) := by
  intro pins s σ H x y v u Q I rx ry h
  obtain ⟨i, j, rfl, rfl, hz, q⟩ := h
  obtain ⟨t, rfl⟩ := rx
  obtain ⟨t', rfl⟩ := ry
  exact add_str (fun t' tk => ⟨.str (i ++ j), H, I.tok _, ⟨_, rfl⟩, q⟩) hz
theorem vals1 {x : V} {us : List Value} (r : Vals [x] us) : ∃ u, us = [u] ∧ RelV x u := by
  cases r with
  | cons r1 r2 => cases r2; exact ⟨_, rfl, r1⟩
theorem vals2 {x y : V} {us : List Value} (r : Vals [x, y] us) : ∃ u w', us = [u, w'] ∧ RelV x u ∧ RelV y w' := by
  cases r with
  | cons r1 r2 =>
    cases r2 with
    | cons r3 r4 => cases r4; exact ⟨_, _, rfl, r1, r3⟩
theorem call_max2 (hc : X.calm = true) : CallR X (.builtin "max") (fun xs H Q => ∃ i j, xs = [.int i, .int j] ∧ Q (.int (if j > i then j else i)) H) := by
  intro pins s σ H xs us Q I r h
  obtain ⟨i, j, rfl, q⟩ := h
  obtain ⟨u, w', rfl, ⟨t, rfl⟩, ⟨t', rfl⟩⟩ := vals2 r
  refine max_two_ints (I.ok.hd hc) fun h' tk k => ⟨_, H, I.kept k, ?_, q⟩
  by_cases hj : j > i
  · rw [if_pos hj, if_pos hj]; exact ⟨_, rfl⟩
  · rw [if_neg hj, if_neg hj]; exact ⟨_, rfl⟩
theorem call_min2 (hc : X.calm = true) : CallR X (.builtin "min") (fun xs H Q => ∃ i j, xs = [.int i, .int j] ∧ Q (.int (if j < i then j else i)) H) := by
  intro pins s σ H xs us Q I r h
  obtain ⟨i, j, rfl, q⟩ := h
  obtain ⟨u, w', rfl, ⟨t, rfl⟩, ⟨t', rfl⟩⟩ := vals2 r
  refine min_two_ints (I.ok.hd hc) fun h' tk k => ⟨_, H, I.kept k, ?_, q⟩
  by_cases hj : j < i
  · rw [if_pos hj, if_pos hj]; exact ⟨_, rfl⟩
  · rw [if_neg hj, if_neg hj]; exact ⟨_, rfl⟩
theorem call_int1 : CallR X (.type "int") (fun xs H Q => (∃ i, xs = [.int i] ∧ Q (.int i) H) ∨ ∃ k, xs = [.bl k] ∧ Q (.int (if k then 1 else 0)) H) := by
  intro pins s σ H xs us Q I r h
  rcases h with ⟨i, rfl, q⟩ | ⟨k, rfl, q⟩
  · obtain ⟨u, rfl, t, rfl⟩ := vals1 r
    exact call_int_int ⟨.int i, H, I, ⟨_, rfl⟩, q⟩
  · obtain ⟨u, rfl, r1⟩ := vals1 r
    cases r1
    exact call_int_bool ⟨.int (if k then 1 else 0), H, I.tok _, ⟨_, rfl⟩, q⟩
theorem call_str_int : CallR X (.type "str") (fun xs H Q => ∃ i, xs = [.int i] ∧ i.natAbs.log2 < 1920 ∧ Q (.str (toString i)) H) := by
  intro pins s σ H xs us Q I r h
  obtain ⟨i, rfl, hz, q⟩ := h
  obtain ⟨u, rfl, t, rfl⟩ := vals1 r
  exact PySem.P.str_of_int hz ⟨.str _, H, I.tok _, ⟨_, rfl⟩, q⟩
end
end L2
namespace L2
open PySem PySem.Spec PyProof.Rows
structure ObjM (h : Heap) (x dx C : Addr) (mA : Str → Option Value) : Prop where
  obj : h.get? x = some (PySem.W.instObj C dx)
  ns : h.Ns1 dx mA
  ne : dx ≠ x
theorem lookIn_ns {h : Heap} {dx : Addr} {mA : Str → Option Value} (n : h.Ns1 dx mA) : ∃ od, h.get? dx = some od ∧ ∀ name, PySem.W.lookIn name od = some (mA name) := by
  obtain ⟨o, es, ep, ho, hd, hk, _, hm⟩ := n
  refine ⟨o, ho, fun name => ?_⟩
  have e := hm name
  unfold nsFind findBy at e
  rw [← Array.find?_toList] at e
  unfold PySem.W.lookIn
  rw [hd]
  dsimp only
  split
  · rename_i y q
    rw [q] at e
    exact congrArg some e
  · rename_i q
    rw [q] at e
    have a : es.toList.any (·.refKey) = false := by
      rw [List.any_eq_false]
      intro y hy
      obtain ⟨z, t, hkey⟩ := hk y (Array.mem_toList_iff.mp hy)
      simp [DictEntry.refKey, hkey]
    have a' : ¬ es.toList.any (·.refKey) = true := by rw [a]; exact Bool.false_ne_true
    rw [if_neg a']
    exact congrArg some e
theorem ObjM.look {h : Heap} {x dx C : Addr} {mA : Str → Option Value} (I : ObjM h x dx C mA) : ∃ od, PySem.W.InstAt h x (PySem.W.instObj C dx) C (some od) ∧ ∀ name, PySem.W.lookIn name od = some (mA name) :=
  let ⟨od, ho, hl⟩ := lookIn_ns I.ns
  ⟨od, ⟨I.obj, rfl, rfl, ho⟩, hl⟩
theorem RelO.some_of {v : V} {o : Option Value} (r : RelO (some v) o) : ∃ u, o = some u ∧ RelV v u := by
  cases o with
  | none => exact (show False from r).elim
  | some u => exact ⟨u, rfl, r⟩
section
variable {P : Program} {w : World} {H H' : Hp} {h h' : Heap} {a C dx : Addr} {fs fs' : List (Str × V)}
theorem ins_get (hok : HOk P w H h) (e : H a = some (.ins C dx fs)) : ∃ mA, ObjM h a dx C mA ∧ (∀ f, RelO (fs.lookup f) (mA f)) ∧ PySem.Within mA (fs.map (·.1)) ∧ fs.length ≤ 1000 ∧ H dx = some (.own a) := by
  obtain ⟨d, z, ne, ob, mA, n, r, q⟩ := (show ObjOk P w H h a (.ins C dx fs) from hok a _ e)
  exact ⟨mA, ⟨ob, n, ne⟩, r, q, z, d⟩
end
structure Cls (K : PySem.W.Frag) (C : Addr) : Prop where
  pg : PySem.W.plainGet K C Str.empty = true
  hd : PySem.W.hasDictIn K C = true
  po : PySem.W.plainOver K C = true
  sa : PySem.W.findIn K (.ref C) "__setattr__" = some (some (.builtin "object.__setattr__"))
theorem Cls.get {K : PySem.W.Frag} {C : Addr} (c : Cls K C) (f : Str) : PySem.W.plainGet K C f = true := c.pg
structure Con (K : PySem.W.Frag) (C : Addr) (f : Str) (v : V) (u : Value) : Prop where
  at_ : PySem.W.findIn K (.ref C) f = some (some u)
  rel : RelV v u
  get : PySem.W.specialIn K u "__get__" = some none
  cp : PySem.W.copiedNames.contains f = false
structure Meth (K : PySem.W.Frag) (C : Addr) (m : Str) (f : Addr) : Prop where
  at_ : PySem.W.findIn K (.ref C) m = some (some (.ref f))
  fn : PySem.W.isFn K (.ref f) = true
  kp : PySem.W.keepIn K (.ref f) = true
section
variable {X : Cx} {pins : List (Addr × Obj)} {σ : St} {H : Hp} {s : Shared} {A : Around} {E : Value → Shared → Prop} {Q : Value → Shared → Prop} {c : Value} {b : Bool}
inductive TyOf (K : PySem.W.Frag) (H : Hp) : V → Value → Prop where
  | non : TyOf K H .non (.type "NoneType")
  | bl (x : Bool) : TyOf K H (.bl x) (.type "bool")
  | int (i : Int) : TyOf K H (.int i) (.type "int")
  | str (x : Str) : TyOf K H (.str x) (.type "str")
  | flt (x : UInt64) : TyOf K H (.flt x) (.type "float")
  | lst {a : Addr} {xs : List V} (e : H a = some (.lst xs)) : TyOf K H (.ref a) (.type "list")
  | frz {a : Addr} {o : Obj} {xs : List V} (e : H a = some (.frz o (.lst xs))) : TyOf K H (.ref a) (.type "list")
  | tup {a : Addr} {xs : List V} (e : H a = some (.tup xs)) : TyOf K H (.ref a) (.type "tuple")
  | dK {a : Addr} {kvs : List (Key × V)} (e : H a = some (.dK kvs)) : TyOf K H (.ref a) (.type "dict")
  | dT {a : Addr} {kvs : List (List Key × V)} (e : H a = some (.dT kvs)) : TyOf K H (.ref a) (.type "dict")
  | ins {a C dx : Addr} {fs : List (Str × V)} (e : H a = some (.ins C dx fs)) (cl : Cls K C) (ha : PySem.W.findIn K (.ref C) "__class__" = some (some (.builtin "object.__class__")))
      (hn : PySem.W.specialIn K (.builtin "object.__class__") "__get__" = some (some (.builtin "getset_descriptor.__get__"))) (htk : PySem.W.takesIn K (.builtin "object.__class__") = some true)
      (hm : PySem.W.mroIn K C (.type "object") = some true) : TyOf K H (.ref a) (.ref C)
theorem isinst_ok {x : V} {u t : Value} (I : Inv X pins σ H s) (rx : RelV x u) (ty : TyOf X.K H x t) (e : PySem.W.kitOne X.K t c = some b) (h : ∀ tk, Q (.bool b) { s with toks := tk }) :
    wpAny (model X.prog X.w) A (call (.builtin "isinstance") [u, c]) Q E s := by
  cases ty with
  | non => cases (show u = Value.none from rx); exact PySem.W.kia_one PySem.W.kitx_none I.kIn True.intro e (fun z => nomatch z) h
  | bl y => cases (show u = Value.bool y from rx); exact PySem.W.kia_one PySem.W.kitx_bool I.kIn True.intro e (fun z => nomatch z) h
  | int i => obtain ⟨t, q⟩ := (show ∃ t, u = Value.int i t from rx); cases q; exact PySem.W.kia_one PySem.W.kitx_int I.kIn True.intro e (fun z => nomatch z) h
  | str y => obtain ⟨t, q⟩ := (show ∃ t, u = Value.str y t from rx); cases q; exact PySem.W.kia_one PySem.W.kitx_str I.kIn True.intro e (fun z => nomatch z) h
  | flt y => obtain ⟨t, q⟩ := (show ∃ t, u = Value.float y t from rx); cases q; exact PySem.W.kia_one PySem.W.kitx_float I.kIn True.intro e (fun z => nomatch z) h
  | @lst a xs ea =>
    cases (show u = Value.ref a from rx)
    obtain ⟨_, _, n, _, h1⟩ := (show ObjOk X.prog X.w H s.heap a (.lst xs) from I.hok a _ ea)
    exact PySem.W.kia_one PySem.W.kitx_list I.kIn ⟨_, h1, rfl⟩ e (fun z => nomatch z) h
  | @frz a ob xs ea =>
    cases (show u = Value.ref a from rx)
    obtain ⟨_, _, _, n, _, h1⟩ := (show ObjOk X.prog X.w H s.heap a (.frz ob (.lst xs)) from I.hok a _ ea)
    exact PySem.W.kia_one PySem.W.kitx_list I.kIn ⟨_, h1, rfl⟩ e (fun z => nomatch z) h
  | @tup a xs ea =>
    cases (show u = Value.ref a from rx)
    obtain ⟨_, _, _, p⟩ := (show ObjOk X.prog X.w H s.heap a (.tup xs) from I.hok a _ ea)
    obtain ⟨o, h1, h2, _⟩ := p
    exact PySem.W.kia_one PySem.W.kitx_tuple I.kIn ⟨o, h1, h2⟩ e (fun z => nomatch z) h
  | @dK a kvs ea =>
    cases (show u = Value.ref a from rx)
    obtain ⟨_, _, vs, _, p⟩ := (show ObjOk X.prog X.w H s.heap a (.dK kvs) from I.hok a _ ea)
    obtain ⟨o, es, ep, h1, h2, _⟩ := p
    exact PySem.W.kia_one PySem.W.kitx_dict I.kIn ⟨o, h1, h2.1⟩ e (fun z => nomatch z) h
  | @dT a kvs ea =>
    cases (show u = Value.ref a from rx)
    obtain ⟨_, _, xs, _, o, es, ep, h1, h2, _⟩ := (show ObjOk X.prog X.w H s.heap a (.dT kvs) from I.hok a _ ea)
    exact PySem.W.kia_one PySem.W.kitx_dict I.kIn ⟨o, h1, h2.1⟩ e (fun z => nomatch z) h
  | @ins a C dx fs ea cl ha hn htk hm =>
    cases (show u = Value.ref a from rx)
    obtain ⟨mA, O, _⟩ := ins_get I.hok ea
    obtain ⟨od, J, _⟩ := O.look
    exact PySem.W.kia_one (PySem.W.kitx_own (cl.get _) cl.hd ha hn htk hm) I.kIn J e (fun z => nomatch z) h
end
end L2
namespace L2
open PySem PySem.Spec PyProof.Rows
structure Room (k : Nat) (A : Around) : Prop where
  hd : A.handled = none
  dp : A.depth + 3 * k + 5 < recursionLimit
  un : A.units + 16 * k + 200 < cLine
theorem Room.mono {j k : Nat} {A : Around} (r : Room k A) (h : j ≤ k) : Room j A := ⟨r.hd, by have := r.dp; omega, by have := r.un; omega⟩
theorem Room.deeper {k : Nat} {A : Around} (r : Room (k + 1) A) (env : Env) : Room k (A.deeper env) :=
  ⟨r.hd, by have := r.dp; show A.depth + 1 + 3 * k + 5 < _; omega, by have := r.un; show A.units + 3 + 16 * k + 200 < _; omega⟩
theorem Room.in1 {k : Nat} {A : Around} (r : Room (k + 1) A) : Room k A.in1 :=
  ⟨r.hd, by have := r.dp; show A.depth + 3 * k + 5 < _; omega, by have := r.un; show A.units + 1 + 16 * k + 200 < _; omega⟩
theorem Room.depth {k : Nat} {A : Around} (r : Room k A) : A.depth < recursionLimit := by have := r.dp; omega
theorem Room.units {k : Nat} {A : Around} (r : Room k A) : A.units + 64 < cLine := by have := r.un; omega
theorem Room.units0 {k : Nat} {A : Around} (r : Room k A) : A.units < cLine := by have := r.un; omega
def tNil : TA := fun _ H Q => Q [] H
def tCons (ta : TE) (tr : TA) : TA := fun σ H Q => ta σ H fun x H1 => tr σ H1 fun xs H2 => Q (x :: xs) H2
section
variable {X : Cx} {e : Expr} {es : List Expr} {te : TE} {t : TA} {pos : Pos}
theorem pa_nil : PA X [] tNil := fun _ _ _ _ H Q I h => Calls.spliced_nil ⟨[], H, I, .nil, h⟩
theorem pa_cons (ha : PE X e te) (hr : PA X es t) (hs : starEach (e :: es) X.env = (false, eval e X.env) :: starEach es X.env := by rfl) : PA X (e :: es) (tCons te t) := by
  intro pos pins s σ H Q I h
  rw [hs]
  show wpAny _ _ (spliced ((false, eval e X.env) :: backTo pos (starEach es X.env))) _ _ s
  refine Calls.spliced_cons (thn (ha pins s σ H _ I h) fun u s1 ⟨x, H1, I1, r1, q1⟩ => ?_)
  exact thn (hr pos pins s1 σ H1 _ I1 q1) fun us s2 ⟨xs, H2, I2, r2, q2⟩ => ⟨x :: xs, H2, I2, .cons r1 r2, q2⟩
def tTup (t : TA) : TE := fun σ H Q => t σ H fun xs H1 => xs.length ≤ sizeLine ∧ ∀ p, H1 p = none → Q (.ref p) (upd H1 p (.tup xs))
def tLst (t : TA) : TE := fun σ H Q => t σ H fun xs H1 => xs.length ≤ sizeLine ∧ ∀ p, H1 p = none → Q (.ref p) (upd H1 p (.lst xs))
theorem pe_tup {x1} (h : PA X es t) : PE X (.Tuple es x1 pos) (tTup t) := by
  intro pins s σ H Q I hq
  refine wpAny_Tuple_spliced (thn (h pos pins s σ H _ I hq) fun us s1 ⟨xs, H1, I1, r, z, q⟩ => ⟨by rw [← r.length]; exact z, ?_⟩)
  have hf : H1 s1.heap.objs.size = none := I1.hok.fresh (Nat.le_refl _)
  refine ⟨.ref s1.heap.objs.size, upd H1 s1.heap.objs.size (.tup xs), I1.laid (t' := s1.toks) (fun b u e => Heap.get?_push_of_some _ e) (Nat.le_refl _) ?_, rfl, q _ hf⟩
  exact ⟨z, us, r, ⟨_, Heap.get?_push_size _ rfl, rfl, _, rfl⟩⟩
theorem pe_lst (h : PA X es t) : PE X (.List es pos) (tLst t) := by
  intro pins s σ H Q I hq
  refine wpAny_List_spliced (thn (h pos pins s σ H _ I hq) fun us s1 ⟨xs, H1, I1, r, z, q⟩ => ⟨by rw [← r.length]; exact z, ?_⟩)
  have hf : H1 s1.heap.objs.size = none := I1.hok.fresh (Nat.le_refl _)
  refine ⟨.ref s1.heap.objs.size, upd H1 s1.heap.objs.size (.lst xs), I1.laid (t' := s1.toks) (fun b u e => Heap.get?_push_of_some _ e) (Nat.le_refl _) ?_, rfl, q _ hf⟩
  exact ⟨z, us, 0, r, Heap.get?_push_size _ rfl⟩
end
abbrev Sp := List V → Hp → VK → XK → Prop
abbrev CXT := List Env → Hp → Shared → XK → Value → Shared → Prop
structure Env0 (P : Program) (w : World) (K : PySem.W.Frag) (mg : Str → Option Value) (base : Heap) (A : Around) (outer : List Env) (s : Shared) (H : Hp) : Prop where
  frames : A.frames = some outer
  mod : Mod K mg base
  bs : ∀ b o, base.get? b = some o → s.heap.get? b = some o ∧ H b = none
  bsz : base.objs.size ≤ s.heap.objs.size
  funs : s.heap.FunFrames base outer
  frf : ∀ b ∈ frs outer, H b = none
  hok : HOk P w H s.heap
  bare : AllBare s.gens
def CE (outer : List Env) (P : Program) (w : World) (H : Hp) (s : Shared) (Q : VK) (u : Value) (s' : Shared) : Prop :=
  ∃ v H', s'.os = s.os ∧ AllBare s'.gens ∧ Un (frs outer) [] H H' s.heap s'.heap ∧ HOk P w H' s'.heap ∧ RelV v u ∧ Q v H'
def CR (CX : CXT) (outer : List Env) (P : Program) (w : World) (H : Hp) (s : Shared) (Q : VK) (E : XK) (r : Result) (s' : Shared) : Prop :=
  match r with
  | .ok (.ret u) => CE outer P w H s Q u s'
  | .ok _ => False
  | .error e => CX outer H s E e s'
structure FnOk (P : Program) (w : World) (K : PySem.W.Frag) (mg : Str → Option Value) (base : Heap) (CX : CXT) (k : Nat) (f : Addr) (fd : FuncData) (ps : List Str) (sp : Sp) : Prop where
  len : ∀ vs H Q E, sp vs H Q E → vs.length = ps.length
  run : ∀ (A : Around) (outer : List Env) (s : Shared) (H : Hp) (args : Args) (us : List Value) (vs : List V) (Q : VK) (E : XK), Room k A → Env0 P w K mg base A outer s H → BindsTo s fd args (ps.zip us) → Vals vs us → sp vs H Q E →
    codeAny (model P w) A (.call (.ref f) args) (CR CX outer P w H s Q E) s
theorem FnOk.mono {P : Program} {w : World} {K : PySem.W.Frag} {mg : Str → Option Value} {base : Heap} {CX : CXT} {j k : Nat} {f : Addr} {fd : FuncData} {ps : List Str} {sp : Sp} (F : FnOk P w K mg base CX j f fd ps sp) (h : j ≤ k) :
    FnOk P w K mg base CX k f fd ps sp := ⟨F.len, fun A outer s H args us vs Q E hr => F.run A outer s H args us vs Q E (hr.mono h)⟩
theorem FnOk.imp {P : Program} {w : World} {K : PySem.W.Frag} {mg : Str → Option Value} {base : Heap} {CX : CXT} {k : Nat} {f : Addr} {fd : FuncData} {ps : List Str} {sp sp' : Sp} (F : FnOk P w K mg base CX k f fd ps sp)
    (h : ∀ vs H Q E, sp' vs H Q E → sp vs H Q E) : FnOk P w K mg base CX k f fd ps sp' :=
  ⟨fun vs H Q E q => F.len vs H Q E (h _ _ _ _ q), fun A outer s H args us vs Q E hr he hb hv hs => F.run A outer s H args us vs Q E hr he hb hv (h _ _ _ _ hs)⟩
theorem Env0.in1 {P : Program} {w : World} {K : PySem.W.Frag} {mg : Str → Option Value} {base : Heap} {A : Around} {outer : List Env} {s : Shared} {H : Hp} (e : Env0 P w K mg base A outer s H) :
    Env0 P w K mg base A.in1 outer s H := ⟨e.frames, e.mod, e.bs, e.bsz, e.funs, e.frf, e.hok, e.bare⟩
section
variable {X : Cx} {pins : List (Addr × Obj)} {σ : St} {H : Hp} {s s' : Shared}
theorem Inv.env0 (I : Inv X pins σ H s) : Env0 X.prog X.w X.K X.mg X.base X.A X.stack s H :=
  ⟨I.ok.frames, I.ok.mod, I.bs, Nat.le_trans I.ok.bsz I.sz, I.stack, I.stkFree, I.hok, I.bare⟩
theorem Inv.after {Q : VK} {u : Value} (I : Inv X pins σ H s) (h : CE X.stack X.prog X.w H s Q u s') : EP X pins σ Q u s' := by
  obtain ⟨v, H', os, bare, un, hok, r, q⟩ := h
  obtain ⟨hh, g, d, t, os'⟩ := s'
  obtain rfl : os' = s.os := os
  exact ⟨v, H', I.call (h' := hh) (g' := g) (d' := d) (t' := t) (ch := []) un hok bare (fun b z => absurd z (by simp)), r, q⟩
end
def tCall (sp : Sp) (dvs : List V) (E : XK) (t : TA) : TE := fun σ H Q => t σ H fun vs H1 => sp (vs ++ dvs) H1 Q E
def Binds (K : PySem.W.Frag) (fd : FuncData) (ps : List Str) (ds : List Value) : Prop :=
  ∀ (s : Shared) (us : List Value), K.In s.heap → (us ++ ds).length = ps.length → BindsTo s fd ⟨us, []⟩ (ps.zip (us ++ ds))
theorem Binds.all {K : PySem.W.Frag} {fd : FuncData} {ps : List Str} (h : ∀ us : List Value, us.length = ps.length → bindArgs fd ⟨us, []⟩ = pure (ps.zip us)) : Binds K fd ps [] := fun s us _ hl => by
  rw [List.append_nil] at hl ⊢
  exact .of_eq (h us hl)
def Passes (CX : CXT) (X : Cx) (E : XK) : Prop := ∀ (pins : List (Addr × Obj)) (σ : St) (H : Hp) (s : Shared) (e : Value) (s' : Shared), Inv X pins σ H s → CX X.stack H s E e s' → X.xe e s'
section
variable {X : Cx} {CX : CXT} {k : Nat} {f C : Addr} {fd : FuncData} {ps : List Str} {sp : Sp} {dvs : List V} {ds : List Value} {E : XK} {x m : Str} {p pos apos : Pos} {e o : Expr} {es : List Expr} {ta : TE} {t : TA}
theorem run_fn {pins : List (Addr × Obj)} {σ : St} {H : Hp} {s : Shared} {Q : VK} {us : List Value} {vs : List V} (F : FnOk X.prog X.w X.K X.mg X.base CX k f fd ps sp) (hr : Room k X.A) (hb : Binds X.K fd ps ds) (hd : Vals dvs ds) (hx : Passes CX X E)
    (I : Inv X pins σ H s) (r : Vals vs us) (h : sp (vs ++ dvs) H Q E) : wpAny (model X.prog X.w) X.A (call (.ref f) us) (EP X pins σ Q) X.xe s := by
  have r2 : Vals (vs ++ dvs) (us ++ ds) := r.append hd
  have hl : (us ++ ds).length = ps.length := by rw [← r2.length]; exact F.len _ _ _ _ h
  refine wpAny_call (codeAny_mono (F.run X.A X.stack s H ⟨us, []⟩ (us ++ ds) (vs ++ dvs) Q E hr I.env0 (hb s us I.kIn hl) r2 h) fun r s' hq => ?_)
  cases r with
  | error e => exact hx pins σ H s e s' I hq
  | ok fl =>
    cases fl with
    | ret u => exact I.after hq
    | next => exact False.elim hq
    | brk => exact False.elim hq
    | cont => exact False.elim hq
theorem pe_call (F : FnOk X.prog X.w X.K X.mg X.base CX k f fd ps sp) (hr : Room k X.A) (hg : Gl X x) (hm : X.mg x = some (.ref f)) (hk : PySem.W.keepIn X.K (.ref f) = true) (hb : Binds X.K fd ps ds) (hd : Vals dvs ds) (hx : Passes CX X E)
    (ha : PA X (e :: es) t) (hdb : (x == ("__debug__" : Str)) = false := by decide) (he : starEach (e :: es) X.env = (false, eval e X.env) :: starEach es X.env := by rfl) (hpl : (backTo pos (starEach es X.env)).any (·.1) = false := by rfl) :
    PE X (.Call (.Name x p) (e :: es) [] pos) (tCall sp dvs E t) := by
  intro pins s σ H Q I h
  refine wpAny_Call_Name_kw (ld_glob I hg hm ?_ hdb)
  refine PySem.W.callWith_K (h₀ := X.base) I.ok.mod.kin hk (thn (ha pos pins s σ H _ I h) fun us s1 ⟨vs, H1, I1, r, q⟩ => ⟨I1.kIn, ?_⟩) he hpl
  exact run_fn F hr hb hd hx I1 r q
structure Mk (K : PySem.W.Frag) (C f : Addr) : Prop where
  makes : PySem.W.makesIn K C = true
  init : PySem.W.findIn K (.ref C) "__init__" = some (some (.ref f))
  fn : PySem.W.isFn K (.ref f) = true
  kp : PySem.W.keepIn K (.ref C) = true
end
section
variable {X : Cx} {CX : CXT} {k : Nat} {f C : Addr} {fd : FuncData} {ps ks : List Str} {sp : Sp} {E : XK} {x m : Str} {p pos apos kpos : Pos} {e o : Expr} {es : List Expr} {kws : List Keyword} {te ta : TE} {t tk : TA} {nm : Option Str}
structure KBinds (K : PySem.W.Frag) (fd : FuncData) (ps ks : List Str) (g : List Value → List Value → List Value) (gV : List V → List V → List V) : Prop where
  to : ∀ (s : Shared) (us ws : List Value), K.In s.heap → (g us ws).length = ps.length → BindsTo s fd ⟨us, ks.zip ws⟩ (ps.zip (g us ws))
  rel : ∀ {vs : List V} {us : List Value} {zs : List V} {ws : List Value}, Vals vs us → Vals zs ws → Vals (gV vs zs) (g us ws)
variable {g : List Value → List Value → List Value} {gV : List V → List V → List V}
end
structure FnScope (N P : List Str) (sc : Scope) : Prop where
  kind : sc.kind = .function
  co : sc.isCoroutine = false
  gen : sc.isGenerator = false
  nd : N.Nodup
  pre : N.take P.length = P
  par : ∀ x ∈ P, sc.names.lookup x = some .local ∨ sc.names.lookup x = some .cell
  nofree : ∀ y ∈ sc.names, y.2 ≠ .free
theorem bindL_out {kindOf : Str → Option NameKind} {x : Str} : ∀ {binds : List (Str × Value)} {m : Str → Option Value}, (∀ v, (x, v) ∉ binds) → bindL kindOf binds m x = m x
  | [], _, _ => rfl
  | (n, v) :: r, m, h => by
    unfold bindL
    rw [bindL_out fun w hw => h w (List.mem_cons_of_mem _ hw)]
    split
    · have : x ≠ n := by rintro rfl; exact h v List.mem_cons_self
      simp [this]
    · rfl
theorem bindC_out {kindOf : Str → Option NameKind} {x : Str} : ∀ {binds : List (Str × Value)} {m : Str → Option Value}, (∀ v, (x, v) ∉ binds) → bindC kindOf binds m x = m x
  | [], _, _ => rfl
  | (n, v) :: r, m, h => by
    unfold bindC
    rw [bindC_out fun w hw => h w (List.mem_cons_of_mem _ hw)]
    split
    · rfl
    · have : x ≠ n := by rintro rfl; exact h v List.mem_cons_self
      simp [this]
theorem bindL_get {kindOf : Str → Option NameKind} {x : Str} {v : Value} : ∀ {P : List Str} {vs : List Value} {i : Nat} {m : Str → Option Value}, P.Nodup → P[i]? = some x → vs[i]? = some v → kindOf x = some .local →
    bindL kindOf (P.zip vs) m x = some v
  | [], _, _, _, _, h, _, _ => by simp at h
  | _ :: _, [], _, _, _, _, h, _ => by simp at h
  | p :: P, w :: vs, 0, m, nd, h1, h2, hk => by
    simp at h1 h2; subst h1; subst h2
    show bindL kindOf ((p, w) :: P.zip vs) m p = _
    unfold bindL
    rw [bindL_out fun v hv => (List.nodup_cons.mp nd).1 (List.of_mem_zip hv).1, if_pos hk]
    simp
  | p :: P, w :: vs, i + 1, m, nd, h1, h2, hk => by
    show bindL kindOf ((p, w) :: P.zip vs) m x = _
    unfold bindL
    exact bindL_get (i := i) (List.nodup_cons.mp nd).2 (by simpa using h1) (by simpa using h2) hk
theorem bindC_get {kindOf : Str → Option NameKind} {x : Str} {v : Value} : ∀ {P : List Str} {vs : List Value} {i : Nat} {m : Str → Option Value}, P.Nodup → P[i]? = some x → vs[i]? = some v → kindOf x ≠ some .local →
    bindC kindOf (P.zip vs) m x = some v
  | [], _, _, _, _, h, _, _ => by simp at h
  | _ :: _, [], _, _, _, _, h, _ => by simp at h
  | p :: P, w :: vs, 0, m, nd, h1, h2, hk => by
    simp at h1 h2; subst h1; subst h2
    show bindC kindOf ((p, w) :: P.zip vs) m p = _
    unfold bindC
    rw [bindC_out fun v hv => (List.nodup_cons.mp nd).1 (List.of_mem_zip hv).1, if_neg hk]
    simp
  | p :: P, w :: vs, i + 1, m, nd, h1, h2, hk => by
    show bindC kindOf ((p, w) :: P.zip vs) m x = _
    unfold bindC
    exact bindC_get (i := i) (List.nodup_cons.mp nd).2 (by simpa using h1) (by simpa using h2) hk
def start (N : List Str) (vs : List V) : St := vs.map some ++ List.replicate (N.length - vs.length) none
def cxOf (CX : CXT) (P : Program) (w : World) (K : PySem.W.Frag) (mg : Str → Option Value) (base : Heap) (N : List Str) (qual : Str) (scope : Scope) (f : Addr) (cd : Value) (A : Around) (outer : List Env) (s : Shared) (H : Hp) (E : XK) : Cx where
  prog := P
  w := w
  K := K
  mg := mg
  base := base
  A := A.deeper (envOfC qual scope s.heap.objs.size f cd)
  N := N
  s₀ := s
  H₀ := H
  env := envOfC qual scope s.heap.objs.size f cd
  outer := outer
  stack := envOfC qual scope s.heap.objs.size f cd :: outer
  ex := []
  calm := true
  fn := fun _ => true
  pn := []
  xe := fun e s' => wpAny (model P w) (A.deeper (envOfC qual scope s.heap.objs.size f cd)) (leaving (envOfC qual scope s.heap.objs.size f cd) e) (fun _ s'' => CX outer H s E e s'') (fun e' s'' => CX outer H s E e' s'') s'
theorem cell_has {sc : Scope} {n : Nat} {x : Str} (h : sc.names.lookup x = some .cell) : ∃ c, (cellsFrom n sc.names []).lookup x = some c := by
  have q := PySem.W.cellsFrom_some sc.names n [] (.inl h)
  exact Option.isSome_iff_exists.mp q
theorem inv_start {CX : CXT} {P : Program} {w : World} {K : PySem.W.Frag} {mg : Str → Option Value} {base : Heap} {N ps : List Str} {qual : Str} {scope : Scope} {f : Addr} {cd : Value} {A : Around} {outer : List Env} {s s1 : Shared} {H : Hp} {E : XK} {us : List Value} {vs : List V}
    (S : FnScope N ps scope) (hd : A.handled = none) (e0 : Env0 P w K mg base A outer s H) (hl : vs.length = ps.length) (r : Vals vs us)
    (x : InCallC s s.heap.objs.size (bindL (envOfC qual scope s.heap.objs.size f cd).kindOf (ps.zip us) fun _ => none) (cellsFrom (s.heap.objs.size + 1) scope.names []) (bindC (envOfC qual scope s.heap.objs.size f cd).kindOf (ps.zip us) fun _ => none) s1) :
    Inv (cxOf CX P w K mg base N qual scope f cd A outer s H E) [] (start N vs) H s1 := by
  have hpl : ps.length ≤ N.length := by have := congrArg List.length S.pre; rw [List.length_take] at this; omega
  obtain ⟨h1, tk, rfl, hk⟩ := x.done
  have noA : ∀ b : Addr, b ∉ (cxOf CX P w K mg base N qual scope f cd A outer s H E).ex := fun b z => absurd (show b ∈ ([] : List Addr) from z) (by simp)
  refine ⟨⟨e0.mod, S.kind, rfl, rfl, Nat.le_refl _, fun y z c h1 h2 => ?_, fun y hy => ?_, fun y c _ h => ?_, fun _ => hd, Around.frames_deeper e0.frames, .inr ⟨rfl, rfl⟩, fun b z => absurd z (noA b), e0.bs, e0.bsz, fun b _ _ => noA b, fun b z => absurd z (noA b), e0.funs, e0.frf⟩,
    rfl, e0.bare, Un.kept hk, ⟨_, x.toInCall.ns, fun i y v h1 h2 h3 => ?_⟩, fun y c h => ⟨_, x.cell y c h⟩, e0.hok.fresh (Nat.le_refl _), fun y c h => ?_, fun p hp => absurd (show p ∈ ([] : List (Addr × Obj)) from hp) (by simp), e0.hok.kept hk, ?_⟩
  · exact name_of_addr x.apart (PySem.mem_of_lookup h1) (PySem.mem_of_lookup h2)
  · have hy : scope.names.lookup y = some .cell ∨ scope.names.lookup y = some .free := hy
    rcases hy with hy | hy
    · exact cell_has hy
    · exact absurd rfl (S.nofree _ (PySem.mem_of_lookup hy))
  · exact Nat.le_of_lt (x.above y c (PySem.mem_of_lookup h))
  · have hi : i < vs.length := by
      unfold start at h2
      by_cases hi : i < vs.length
      · exact hi
      · rw [List.getElem?_append_right (by simpa using hi)] at h2
        rw [List.getElem?_replicate] at h2
        split at h2 <;> cases h2
    have ha : vs[i]? = some v := by
      unfold start at h2
      rw [List.getElem?_append_left (by simpa using hi), List.getElem?_map] at h2
      cases e : vs[i]? with
      | none => rw [e] at h2; cases h2
      | some a => rw [e] at h2; cases h2; rfl
    obtain ⟨u, hu, rv⟩ := r.get ha
    have hp : ps[i]? = some y := by
      rw [← S.pre, List.getElem?_take_of_lt (by omega)]; exact h1
    have ndP : ps.Nodup := by rw [← S.pre]; exact S.nd.sublist (List.take_sublist _ _)
    refine ⟨u, rv, ?_⟩
    rcases S.par y (List.mem_of_getElem? hp) with k | k
    · exact .inl ⟨k, bindL_get ndP hp hu k⟩
    · obtain ⟨c, e⟩ := cell_has (n := s.heap.objs.size + 1) k
      refine .inr ⟨.inl k, c, e, ?_⟩
      have q := x.cell y c e
      rw [bindC_get ndP hp hu (by show scope.names.lookup y ≠ _; rw [k]; decide)] at q
      exact q
  · exact e0.hok.fresh (Nat.le_of_lt (x.above y c (PySem.mem_of_lookup h)))
  · unfold start
    show _ = N.length
    rw [List.length_append, List.length_map, List.length_replicate]
    omega
theorem fn_of {CX : CXT} {P : Program} {w : World} {K : PySem.W.Frag} {mg : Str → Option Value} {base : Heap} {k : Nat} {f : Addr} {name qual : Str} {params : Arguments} {body : List Stmt} {scope : Scope} {dV kV doc pm cdv ct oc : Value} {an od : Option Addr}
    {osl : Array (Option Value)} {N ps : List Str} {sp : Sp} (lk : K.lookup f = some ⟨oc, od, .func (PySem.W.fnOf name qual params body scope dV kV doc pm an cdv ct), osl⟩) (hcd : PySem.W.codeIn K cdv qual = true) (S : FnScope N ps scope)
    (len : ∀ vs H Q E, sp vs H Q E → vs.length = ps.length)
    (hbody : ∀ (A : Around) (outer : List Env) (s : Shared) (H : Hp) (vs : List V) (Q : VK) (E : XK), Room k (A.deeper (envOfC qual scope s.heap.objs.size f cdv)) → sp vs H Q E →
      ∃ t, PSs (cxOf CX P w K mg base N qual scope f cdv A outer s H E) body t ∧ t { nx := fun _ H' => Q .non H', rt := Q } (start N vs) H) :
    FnOk P w K mg base CX (k + 1) f (PySem.W.fnOf name qual params body scope dV kV doc pm an cdv ct) ps sp := by
  refine ⟨len, fun A outer s H args us vs Q E hr e0 hb r hsp => ?_⟩
  have hl := len _ _ _ _ hsp
  have KX : K.In s.heap := e0.mod.kin.keeps fun b o e => (e0.bs b o e).1
  have lim : s.heap.NoLimit := e0.mod.nolimit.keeps fun b o e => (e0.bs b o e).1
  have hkind : ∀ y ∈ ps.zip us, scope.names.lookup y.1 = some .local ∨ (scope.names.lookup y.1 = some .cell ∧ ((cellsFrom (s.heap.objs.size + 1) scope.names []).lookup y.1).isSome = true) := fun ⟨n, v⟩ hy => by
    rcases S.par n (List.of_mem_zip hy).1 with q | q
    · exact .inl q
    · exact .inr ⟨q, PySem.W.cellsFrom_some _ _ _ (.inl q)⟩
  refine codeAny_call_function hr.depth (KX _ _ lk) rfl S.co S.gen rfl (PySem.W.codeRec_of KX hcd) (hb _ _ _ _ ?_)
  refine wpAny_newFunctionEnv_cells S.kind hkind fun env he s1 x => ?_
  subst he
  refine ⟨lim.keeps x.toInCall.keep, codeAny_func ?_⟩
  obtain ⟨t, ht, hq⟩ := hbody A outer s H vs Q E (hr.deeper _) hsp
  have I : Inv (cxOf CX P w K mg base N qual scope f cdv A outer s H E) [] (start N vs) H s1 := inv_start S hr.hd e0 hl r x
  refine wpAny_mono (ht [] s1 (start N vs) H _ I hq) (fun fl s' hs => ?_) fun e s' hs => hs
  have fin : ∀ {σ' : St} {H' : Hp} {v : V} {u : Value}, Inv (cxOf CX P w K mg base N qual scope f cdv A outer s H E) [] σ' H' s' → RelV v u → Q v H' → CE outer P w H s Q u s' :=
    fun {σ' H' v u} J rv q => ⟨v, H', J.os, J.bare, J.base, J.hok, rv, q⟩
  cases fl with
  | ret u =>
    obtain ⟨v, σ', H', J, rv, q⟩ := hs
    exact fin J rv q
  | next =>
    obtain ⟨σ', H', J, q⟩ := hs
    exact fin (v := V.non) (u := Value.none) J rfl q
  | brk =>
    obtain ⟨_, _, _, q⟩ := hs
    exact False.elim q
  | cont =>
    obtain ⟨_, _, _, q⟩ := hs
    exact False.elim q
end L2
namespace L2
open PySem PySem.Spec PyProof.Rows
section
variable {X : Cx} {x : Str} {p pos : Pos} {e : Expr} {es : List Expr} {t : TA} {id T : String} {r : List V → Hp → VK → Prop}
def tCB (r : List V → Hp → VK → Prop) (t : TA) : TE := fun σ H Q => t σ H fun vs H1 => r vs H1 Q
theorem pe_callB (hc : CallR X (.builtin id) r) (hg : Gl X x) (hm : X.mg x = none) (hv : bootBuiltins x = some (.builtin id)) (ha : PA X (e :: es) t) (hn : x ≠ "__name__" := by decide) (hdb : (x == ("__debug__" : Str)) = false := by decide)
    (he : starEach (e :: es) X.env = (false, eval e X.env) :: starEach es X.env := by rfl) (hpl : (backTo pos (starEach es X.env)).any (·.1) = false := by rfl) : PE X (.Call (.Name x p) (e :: es) [] pos) (tCB r t) := by
  intro pins s σ H Q I h
  refine wpAny_Call_Name_kw (ld_blt I hg hm hv ?_ hn hdb)
  exact PyProof.Rows.callWith_builtin1 (thn (ha pos pins s σ H _ I h) fun us s1 ⟨vs, H1, I1, r1, q1⟩ => hc pins s1 σ H1 vs us Q I1 r1 q1) he hpl
theorem pe_callTy (hc : CallR X (.type T) r) (hg : Gl X x) (hm : X.mg x = none) (hv : bootBuiltins x = some (.type T)) (ha : PA X (e :: es) t) (hn : x ≠ "__name__" := by decide) (hdb : (x == ("__debug__" : Str)) = false := by decide)
    (he : starEach (e :: es) X.env = (false, eval e X.env) :: starEach es X.env := by rfl) (hpl : (backTo pos (starEach es X.env)).any (·.1) = false := by rfl) : PE X (.Call (.Name x p) (e :: es) [] pos) (tCB r t) := by
  intro pins s σ H Q I h
  refine wpAny_Call_Name_kw (ld_blt I hg hm hv ?_ hn hdb)
  exact PyProof.Rows.callWith_type1 (thn (ha pos pins s σ H _ I h) fun us s1 ⟨vs, H1, I1, r1, q1⟩ => hc pins s1 σ H1 vs us Q I1 r1 q1) he hpl
end
end L2
namespace HT
open PySem PyProof.Rows
def lexLt : List Int → List Int → Bool
  | [], [] => false
  | [], _ :: _ => true
  | _ :: _, [] => false
  | x :: xs, y :: ys => if x = y then lexLt xs ys else decide (x < y)
theorem lexLt_cons (x y : Int) (xs ys : List Int) : lexLt (x :: xs) (y :: ys) = if x = y then lexLt xs ys else decide (x < y) := rfl
theorem lexLt_nil_nil : lexLt [] [] = false := rfl
theorem lexLt_nil_cons (y : Int) (ys : List Int) : lexLt [] (y :: ys) = true := rfl
theorem lexLt_cons_nil (x : Int) (xs : List Int) : lexLt (x :: xs) [] = false := rfl
theorem eqAt_int (A : Around) (s : Shared) (a : Int) (t : Tok) (c : Int) (u : Tok) : ∃ e, SeqAt.EqAt A s (.int a t) (.int c u) e ∧ (e = true ↔ a = c) :=
  ⟨(a == c), SeqAt.EqAt.int_int a t c u, by simp⟩
theorem rcLt_int (A : Around) (s : Shared) (a : Int) (t : Tok) (c : Int) (u : Tok) (prog : Program) (w : World) (E : Value → Shared → Prop) (Q : Value → Shared → Prop) (h : Q (.bool (decide (a < c))) s) :
    wpAny (model prog w) A (richCompare .Lt (.int a t) (.int c u)) Q E s :=
  (PyProof.Rows.lt_int h : wpAny (model prog w) A (compareOp .Lt (.int a t) (.int c u)) Q E s)
section
open PySem.SeqAt
open PySem.AutoSeq1 (wpAny_loadPart')
open PySem.MeetsSeq PySem.MeetsSeq2 PySem.MeetsSeq3
theorem tuple_lt_ints (l b : Addr) (items items2 : Array Value) (n n2 : Nat) (dd dd2 : Option Addr) (sl sl2 : Array (Option Value)) (ns ms : List Int) (hi : IntsAre items.toList ns) (hj : IntsAre items2.toList ms) :
    Meets (Builtin.«tuple.__lt__» ⟨[.ref l, .ref b], []⟩)
      (fun _ R s => s.heap.get? l = some { cls := .type "tuple", dict := dd, data := .seq items n, slots := sl } ∧ s.heap.get? b = some { cls := .type "tuple", dict := dd2, data := .seq items2 n2, slots := sl2 } ∧
        R (.ok (.ret (.bool (lexLt ns ms)))) s) :=
  .of_wp fun prog w A R s h => by
    obtain ⟨hp, g, d, tk, os⟩ := s; obtain ⟨hl, hb, h⟩ := h
    have f2 := AutoSeq1.sub_tuple_tuple
    have z1 : items.size = ns.length := by rw [← hi.length]; simp
    have z2 : items2.size = ms.length := by rw [← hj.length]; simp
    wp_walk using wpAny_loadPart' hl, wpAny_loadPart' hb, wpAny_forIn_list _ (fun rest b s' => b.1 = none ∧ s' = ⟨hp, g, d, tk, os⟩ ∧ ∃ (vs ws : List Value) (ns' ms' : List Int), rest = vs.zip ws ∧
      IntsAre vs ns' ∧ IntsAre ws ms' ∧ ns'.length + items2.size = ms'.length + items.size ∧ R (.ok (.ret (.bool (lexLt ns' ms')))) ⟨hp, g, d, tk, os⟩) _
    case turn =>
      rintro ⟨y, x⟩ rest b s' ⟨hb', rfl, vs, ws, ns', ms', hz, hvi, hwi, hlen, hR⟩
      cases hvi with
      | nil => rw [List.zip_nil_left] at hz; cases hz
      | cons a t hvi' =>
        cases hwi with
        | nil => rw [List.zip_nil_right] at hz; cases hz
        | cons c u hwi' =>
          rw [List.zip_cons_cons] at hz
          injection hz with hyx hrest
          injection hyx with hy hx
          subst hy hx
          rw [lexLt_cons] at hR
          simp only [List.length_cons] at hlen
          obtain ⟨e, he, hiff⟩ := eqAt_int A.in1 ⟨hp, g, d, tk, os⟩ a t c u
          refine wpAny_bind (he prog w _ _ ?_)
          cases e with
          | true =>
            rw [if_pos (hiff.mp rfl)] at hR
            wp_walk
            exact ⟨rfl, rfl, _, _, _, _, hrest, hvi', hwi', by omega, hR⟩
          | false =>
            rw [if_neg (fun q => absurd (hiff.mpr q) Bool.false_ne_true)] at hR
            have hri := rcLt_int A.in1 ⟨hp, g, d, tk, os⟩ a t c u prog w
            wp_walk using hri
            exact ⟨_, rfl, by simpa using hR⟩
    case fin =>
      rintro ⟨b1, b2⟩ s' ⟨hb', rfl, vs, ws, ns', ms', hz, hvi, hwi, hlen, hR⟩
      simp only at hb'
      subst hb'
      have hv : lexLt ns' ms' = decide (items.size < items2.size) := by
        cases hvi with
        | nil =>
          cases hwi with
          | nil =>
            simp only [List.length_nil] at hlen
            rw [lexLt_nil_nil]
            exact (decide_eq_false (by omega)).symm
          | cons c u hw =>
            simp only [List.length_nil, List.length_cons] at hlen
            rw [lexLt_nil_cons]
            exact (decide_eq_true (by omega)).symm
        | cons a t hv =>
          cases hwi with
          | nil =>
            simp only [List.length_nil, List.length_cons] at hlen
            rw [lexLt_cons_nil]
            exact (decide_eq_false (by omega)).symm
          | cons c u hw =>
            rw [List.zip_cons_cons] at hz
            cases hz
      rw [hv] at hR
      wp_walk
      exact ⟨_, rfl, by simpa [Builtin.Tuple.tupleCompareSizes] using hR⟩
    case h =>
      exact ⟨rfl, rfl, items.toList, items2.toList, ns, ms, rfl, hi, hj, by omega, h⟩
end
section
variable {prog : Program} {w : World} {A : Around} {E : Value → Shared → Prop} {s : Shared}
theorem lt_tupInts {l b : Addr} {items items2 : Array Value} {ns ms : List Int} {Q : Value → Shared → Prop} (hl : IsTup s.heap l items) (hb : IsTup s.heap b items2) (hi : IntsAre items.toList ns) (hj : IntsAre items2.toList ms)
    (hu : A.units < cLine) (h : Q (.bool (lexLt ns ms)) s) : wpAny (model prog w) A (compareOp .Lt (.ref l) (.ref b)) Q E s := by
  obtain ⟨⟨cls, dd, data, sl⟩, ho, hc, n, hd⟩ := id hl
  obtain ⟨⟨cls2, dd2, data2, sl2⟩, ho2, hc2, n2, hd2⟩ := id hb
  simp only at hc hd hc2 hd2
  subst hc hd hc2 hd2
  exact richCompare_meets_room (op := .Lt) ⟨_, ho, rfl⟩ ⟨_, ho2, rfl⟩ PySem.F.slot_tuple_lt PySem.F.entry_tuple_lt (PySem.F.args_tuple_lt_2 _ _) (tuple_lt_ints l b items items2 n n2 dd dd2 sl sl2 ns ms hi hj)
    ⟨ho, ho2, show Value.bool (lexLt ns ms) ≠ Value.notImplemented ∧ Q (.bool (lexLt ns ms)) s from ⟨(fun x => nomatch x), h⟩⟩ hu
theorem cat_tup {t b : Addr} {vs ws : List Value} {Q : Value → Shared → Prop} (ht : IsTup s.heap t vs.toArray) (hb : IsTup s.heap b ws.toArray) (hv : vs ≠ [])
    (h1 : ws = [] → Q (.ref t) s) (h2 : ws ≠ [] → Q (.ref s.heap.objs.size) { s with heap := s.heap.push { cls := .type "tuple", data := .seq (vs ++ ws).toArray } })
    (hsz : vs.length + ws.length ≤ sizeLine) : wpAny (model prog w) A (binaryOp .Add (.ref t) (.ref b)) Q E s := by
  obtain ⟨⟨cls, dd, data, sl⟩, ho, hc, n, hd⟩ := id ht
  obtain ⟨⟨cls2, dd2, data2, sl2⟩, ho2, hc2, n2, hd2⟩ := id hb
  simp only at hc hd hc2 hd2
  subst hc hd hc2 hd2
  have e : vs.toArray ++ ws.toArray = (vs ++ ws).toArray := by simp
  by_cases hw : ws = []
  · exact concat_meets ⟨_, ho, rfl⟩ ⟨_, ho2, rfl⟩ noFill_tuple_add seq_tuple_add PySem.F.slot_tuple_add PySem.F.entry_tuple_add (PySem.F.args_tuple_add_2 _ _)
      (tuple_addW1 t b vs.toArray ws.toArray n n2 dd dd2 sl sl2 (by simpa using hv) (by simp [hw])) ⟨ho, ho2, h1 hw⟩
  · refine concat_meets ⟨_, ho, rfl⟩ ⟨_, ho2, rfl⟩ noFill_tuple_add seq_tuple_add PySem.F.slot_tuple_add PySem.F.entry_tuple_add (PySem.F.args_tuple_add_2 _ _)
      (tuple_addW2 t b vs.toArray ws.toArray n n2 dd dd2 sl sl2 (by simpa using hv) (by simpa using hw) (by rw [List.size_toArray, List.size_toArray]; exact hsz)) ⟨ho, ho2, ?_⟩
    rw [e]
    exact h2 hw
def sIx (n d : Nat) : Option Int → Nat
  | none => d
  | some v => if v < 0 then (v + (n : Int)).toNat else min v.toNat n
theorem sIx_none (n d : Nat) : sIx n d none = d := rfl
theorem sIx_nat (n d k : Nat) : sIx n d (some (k : Int)) = min k n := by
  show (if (k : Int) < 0 then ((k : Int) + (n : Int)).toNat else min (k : Int).toNat n) = min k n
  rw [if_neg (by omega), Int.toNat_natCast]
theorem sIx_le (n d : Nat) (hd : d ≤ n) (o : Option Int) : sIx n d o ≤ n := by
  cases o with
  | none => exact hd
  | some v =>
    show (if v < 0 then (v + (n : Int)).toNat else min v.toNat n) ≤ n
    by_cases hv : v < 0
    · rw [if_pos hv]; omega
    · rw [if_neg hv]; exact Nat.min_le_right _ _
theorem clip_eq (v : Int) (n d : Nat) : (if v < 0 then max (v + (n : Int)) 0 else min v (n : Int)) = ((sIx n d (some v) : Nat) : Int) := by
  show (if v < 0 then max (v + (n : Int)) 0 else min v (n : Int)) = (((if v < 0 then (v + (n : Int)).toNat else min v.toNat n) : Nat) : Int)
  by_cases hv : v < 0
  · simp only [if_pos hv]; omega
  · simp only [if_neg hv]; omega
theorem adjust_gen (lo hi : Option Int) (n : Nat) : Builtin.Slice.sliceAdjust lo hi 1 (n : Int) = (((sIx n 0 lo : Nat) : Int), ((sIx n n hi : Nat) : Int)) := by
  have h1 : ¬ ((1 : Int) < 0) := by omega
  unfold Builtin.Slice.sliceAdjust
  simp only [h1, if_false]
  refine Prod.ext ?_ ?_
  · cases lo with
    | none => rfl
    | some v => exact clip_eq v n 0
  · cases hi with
    | none => rfl
    | some v => exact clip_eq v n n
theorem places_gen (i j : Nat) : Builtin.Slice.slicePlaces (i : Int) (j : Int) 1 = j - i := by
  unfold Builtin.Slice.slicePlaces
  have h1 : (1 : Int) > 0 := by omega
  simp only [h1, if_true, Int.ediv_one]
  split <;> omega
theorem slicePart_ {v : Value} {o : Option Int} {Q : Option Int → Shared → Prop} (p : IsPart v o) (h : Q o s) : wpAny (model prog w) A (Builtin.Slice.slicePartIndex v) Q E s := by
  cases p with
  | none => exact slicePart_none h
  | int i t => exact slicePart_int h
theorem sliceApplied_gen {sl : Addr} {vl vu : Value} {lo hi : Option Int} {n : Nat} {Q : Int × Int × Nat → Shared → Prop} (hs : s.heap.IsSliceOf sl vl vu .none) (pl : IsPart vl lo) (pu : IsPart vu hi)
    (h : Q (((sIx n 0 lo : Nat) : Int), 1, sIx n n hi - sIx n 0 lo) s) : wpAny (model prog w) A (Builtin.Slice.sliceApplied (.ref sl) (pure (n : Int))) Q E s := by
  obtain ⟨os, hos, hcs, hds⟩ := id hs
  unfold Builtin.Slice.sliceApplied Builtin.Slice.sliceFields
  refine wpAny_bind (wpAny_bind (wpAny_field hos hds (x := vl) rfl (wpAny_bind (wpAny_field hos hds (x := vu) rfl (wpAny_bind (wpAny_field hos hds (x := .none) rfl (wpAny_pure ?_)))))))
  refine wpAny_bind (slicePart_none ?_)
  show wpAny _ _ (if ((1 : Int) == 0) = true then _ else _) _ _ s
  rw [if_neg (by decide)]
  refine wpAny_bind (slicePart_ pl (wpAny_bind (slicePart_ pu (wpAny_bind (wpAny_pure ?_)))))
  show wpAny _ _ (match Builtin.Slice.sliceAdjust lo hi 1 (n : Int) with | (lo, hi) => pure (lo, (1 : Int), Builtin.Slice.slicePlaces lo hi 1)) _ _ s
  rw [adjust_gen lo hi n]
  show wpAny _ _ (pure (((sIx n 0 lo : Nat) : Int), (1 : Int), Builtin.Slice.slicePlaces ((sIx n 0 lo : Nat) : Int) ((sIx n n hi : Nat) : Int) 1)) _ _ s
  rw [places_gen]
  exact wpAny_pure h
theorem pick_gen (xs : Array Value) (i k : Nat) : ((List.range k).filterMap fun (m : Nat) => xs[((i : Int) + (m : Int) * 1).toNat]?).toArray = ((xs.toList.drop i).take k).toArray := by
  have e : (fun (m : Nat) => xs[((i : Int) + (m : Int) * 1).toNat]?) = fun m => xs[i + m]? := by
    funext m
    have : ((i : Int) + (m : Int) * 1).toNat = i + m := by omega
    rw [this]
  rw [e]
  have := pick_run xs i k
  rw [List.filterMap_map] at this
  have e2 : ((fun x => xs[x]?) ∘ fun x => i + x) = fun m => xs[i + m]? := rfl
  rw [e2] at this
  rw [this]
theorem getItem_tuple_cut {t sl : Addr} {items : Array Value} {vl vu : Value} {lo hi : Option Int} {Q : Value → Shared → Prop} (ht : IsTup s.heap t items) (hs : s.heap.IsSliceOf sl vl vu .none) (pl : IsPart vl lo) (pu : IsPart vu hi)
    (hw : ¬ (sIx items.size 0 lo = 0 ∧ sIx items.size items.size hi = items.size))
    (h : Q (.ref s.heap.objs.size) { s with heap := s.heap.push { cls := .type "tuple", data := .seq ((items.toList.drop (sIx items.size 0 lo)).take (sIx items.size items.size hi - sIx items.size 0 lo)).toArray } })
    (hsz : items.size ≤ sizeLine) : wpAny (model prog w) A (getItem (.ref t) (.ref sl)) Q E s := by
  have htake : sizeOk (.seq ((items.toList.drop (sIx items.size 0 lo)).take (sIx items.size items.size hi - sIx items.size 0 lo)).toArray) := by
    show ((items.toList.drop (sIx items.size 0 lo)).take (sIx items.size items.size hi - sIx items.size 0 lo)).toArray.size ≤ sizeLine
    rw [List.size_toArray, List.length_take, List.length_drop, Array.length_toList]
    omega
  have hj : sIx items.size items.size hi ≤ items.size := sIx_le _ _ (Nat.le_refl _) hi
  obtain ⟨os, hos, hcs, hds⟩ := id hs
  have hTs : s.TypeIs (.ref sl) "slice" := ⟨os, hos, hcs⟩
  unfold getItem
  try with_reducible refine wpAny_holding ?_
  first | refine wpAny_bind (wpAny_pure ?_) | skip
  refine wpAny_bind (wpAny_sequenceKey ht.typeIs (by decide) ?_)
  refine wpAny_bind (wpAny_callSpecial?_slot (name := Str.ofString "__getitem__") ht.typeIs PyProof.Rows.slot_tuple_getitem
    (wpAny_call_entry PyProof.Rows.slot_tuple_getitem ht.typeIs entry_tuple_getitem ?_ (args_tuple_getitem _ _)))
  show wpAny _ _ (Builtin.Tuple.tupleItemsOf (.ref t) >>= _) _ _ s
  refine wpAny_bind (tupleItemsOf_ ht ?_)
  refine wpAny_bind (wpAny_typeOf hTs ?_)
  rw [if_pos (by decide)]
  refine wpAny_bind (sliceApplied_gen hs pl pu ?_)
  have hno : ¬ ((((sIx items.size 0 lo : Nat) : Int) == 0 && (1 : Int) == 1 && (sIx items.size items.size hi - sIx items.size 0 lo) == items.size) = true) := by
    intro q
    rw [Bool.and_eq_true, Bool.and_eq_true] at q
    have q1 : ((sIx items.size 0 lo : Nat) : Int) = 0 := eq_of_beq q.1.1
    have q2 : sIx items.size items.size hi - sIx items.size 0 lo = items.size := eq_of_beq q.2
    exact hw ⟨by omega, by omega⟩
  show wpAny _ _ (if (((sIx items.size 0 lo : Nat) : Int) == 0 && (1 : Int) == 1 && (sIx items.size items.size hi - sIx items.size 0 lo) == items.size) = true then _ else _) _ _ s
  rw [if_neg hno, pick_gen]
  first
    | exact wpAny_bind (m := Builtin.Tuple.tupleExact _) (wpAny_newObj_type (wpAny_pure ⟨_, rfl, wpAny_pure h⟩) htake)
    | exact wpAny_bind (m := Builtin.Tuple.tupleExact _) (wpAny_newObj_type (wpAny_bind (wpAny_pure (wpAny_pure ⟨_, rfl, wpAny_pure h⟩))) htake)
    | exact wpAny_bind (wpAny_bind (m := Builtin.Tuple.tupleExact _) (wpAny_newObj_type (wpAny_pure (wpAny_pure ⟨_, rfl, wpAny_pure h⟩)) htake))
    | exact wpAny_bind (wpAny_bind (m := Builtin.Tuple.tupleExact _) (wpAny_newObj_type (wpAny_pure ⟨_, rfl, wpAny_pure h⟩) htake))
end
end HT
namespace L2
open PySem PySem.Spec PyProof.Rows
abbrev TO := St → Hp → (Option Int → Hp → Prop) → Prop
def PO (X : Cx) (e : Option Expr) (t : TO) : Prop :=
  ∀ (pins : List (Addr × Obj)) (s : Shared) (σ : St) (H : Hp) (Q : Option Int → Hp → Prop), Inv X pins σ H s → t σ H Q →
    wpAny (model X.prog X.w) X.A (evalPart e X.env) (fun u s' => ∃ o H', Inv X pins σ H' s' ∧ IsPart u o ∧ Q o H') X.xe s
def tNoPart : TO := fun _ H Q => Q none H
def tPart (t : TE) : TO := fun σ H Q => t σ H fun x H1 => ∃ i, x = .int i ∧ Q (some i) H1
theorem intsAre_of {ns : List Int} : ∀ {us : List Value}, Vals (ns.map V.int) us → IntsAre us ns := by
  induction ns with
  | nil => intro us r; rw [List.map_nil] at r; cases r; exact .nil
  | cons n ns ih =>
    intro us r
    rw [List.map_cons] at r
    cases r with
    | cons r1 r2 =>
      obtain ⟨t, e⟩ := r1
      subst e
      exact .cons n t (ih r2)
section
variable {X : Cx} {e : Expr} {te : TE} {lo hi : Option Expr} {tl th : TO} {pos p2 : Pos}
theorem po_none : PO X none tNoPart := by
  intro pins s σ H Q I h
  rw [evalPart_none]
  exact wpAny_pure ⟨none, H, I, .none, h⟩
theorem po_some (h : PE X e te) : PO X (some e) (tPart te) := by
  intro pins s σ H Q I hw
  rw [evalPart_some]
  refine thn (h pins s σ H _ I hw) fun u s1 ⟨x, H1, I1, r1, q1⟩ => ?_
  obtain ⟨i, rfl, q⟩ := q1
  obtain ⟨t, rfl⟩ := r1
  exact ⟨some i, H1, I1, .int i t, q⟩
def SlR (X : Cx) (r : V → Option Int → Option Int → Hp → VK → Prop) : Prop :=
  ∀ (pins : List (Addr × Obj)) (s : Shared) (σ : St) (H : Hp) (x : V) (v vl vu : Value) (lo hi : Option Int) (sl : Addr) (Q : VK), Inv X pins σ H s → RelV x v → s.heap.IsSliceOf sl vl vu .none → IsPart vl lo → IsPart vu hi → r x lo hi H Q →
    ∃ T id, typeLookup (.type T) "__getitem__" = pure (some (.builtin id)) ∧ s.TypeIs v T ∧ wpAny (model X.prog X.w) X.A (getItem v (.ref sl)) (EP X pins σ Q) X.xe s
theorem SlR.or {r r' : V → Option Int → Option Int → Hp → VK → Prop} (h : SlR X r) (h' : SlR X r') : SlR X (fun x lo hi H Q => r x lo hi H Q ∨ r' x lo hi H Q) := by
  intro pins s σ H x v vl vu lo hi sl Q I rx hs pl pu q
  rcases q with q | q
  · exact h pins s σ H x v vl vu lo hi sl Q I rx hs pl pu q
  · exact h' pins s σ H x v vl vu lo hi sl Q I rx hs pl pu q
def tSl (r : V → Option Int → Option Int → Hp → VK → Prop) (te : TE) (tl th : TO) : TE := fun σ H Q => te σ H fun x H1 => tl σ H1 fun l H2 => th σ H2 fun u H3 => r x l u H3 Q
theorem pe_slice {r : V → Option Int → Option Int → Hp → VK → Prop} (hr : SlR X r) (he : PE X e te) (hl : PO X lo tl) (hu : PO X hi th) : PE X (.Subscript e (.Slice lo hi none p2) pos) (tSl r te tl th) := by
  intro pins s σ H Q I h
  refine Subscript_ (thn (he pins s σ H _ I h) fun v s1 ⟨x, H1, I1, r1, q1⟩ => ?_)
  refine wpAny_Slice (thn (hl pins s1 σ H1 _ I1 q1) fun vl s2 ⟨l, H2, I2, pl, q2⟩ => thn (hu pins s2 σ H2 _ I2 q2) fun vu s3 ⟨u, H3, I3, pu, q3⟩ => ?_)
  rw [evalPart_none]
  refine wpAny_pure ?_
  have I4 : Inv X pins σ H3 { s3 with heap := s3.heap.push { cls := .type "slice", data := .fields #[vl, vu, .none] } } := I3.kept (t' := s3.toks) fun b ob q => Heap.get?_push_of_some _ q
  obtain ⟨T, id, hT, ht, hg⟩ := hr pins { s3 with heap := s3.heap.push { cls := .type "slice", data := .fields #[vl, vu, .none] } } σ H3 x v vl vu l u s3.heap.objs.size Q I4 r1 (Heap.IsSliceOf.new ..) pl pu q3
  show wpAny (model X.prog X.w) X.A (subscriptTail e (.Slice lo hi none p2) v (.ref s3.heap.objs.size)) (EP X pins σ Q) X.xe { s3 with heap := s3.heap.push { cls := .type "slice", data := .fields #[vl, vu, .none] } }
  exact tail_any (ops := [.ref s3.heap.objs.size, v]) ht hT hg (by with_unfolding_all rfl)
def cutV (xs : List V) (lo hi : Option Int) : List V := (xs.drop (HT.sIx xs.length 0 lo)).take (HT.sIx xs.length xs.length hi - HT.sIx xs.length 0 lo)
theorem cutV_length (xs : List V) (lo hi : Option Int) : (cutV xs lo hi).length ≤ xs.length := by
  unfold cutV
  rw [List.length_take, List.length_drop]
  omega
def rSlT (K : PySem.W.Frag) : V → Option Int → Option Int → Hp → VK → Prop := fun x lo hi H Q => ∃ a xs, x = .ref a ∧ SqT K H a xs ∧
  ¬ (HT.sIx xs.length 0 lo = 0 ∧ HT.sIx xs.length xs.length hi = xs.length) ∧ ∀ p, H p = none → Q (.ref p) (upd H p (.tup (cutV xs lo hi)))
theorem sl_tup : SlR X (rSlT X.K) := by
  intro pins s σ H x v vl vu lo hi sl Q I rx hs pl pu h
  obtain ⟨a, xs, rfl, hx, hw, q⟩ := h
  cases rx
  obtain ⟨its, r, ht, hz⟩ := I.tuple hx
  have hlen : its.toArray.size = xs.length := by rw [List.size_toArray]; exact r.length.symm
  refine ⟨"tuple", _, PyProof.Rows.slot_tuple_getitem.lookup, ht.typeIs, ?_⟩
  refine HT.getItem_tuple_cut ht hs pl pu (by rw [hlen]; exact hw) ?_ (by rw [hlen]; exact hz)
  rw [hlen]
  refine ⟨.ref s.heap.objs.size, _, I.laid (t' := s.toks) (o := .tup (cutV xs lo hi)) (fun b ob q => Heap.get?_push_of_some _ q) (Nat.le_refl _) ?_, rfl, q _ (I.hok.fresh (Nat.le_refl _))⟩
  exact ⟨Nat.le_trans (cutV_length xs lo hi) hz, _, (r.drop (HT.sIx xs.length 0 lo)).take (HT.sIx xs.length xs.length hi - HT.sIx xs.length 0 lo), IsTup.new _ _⟩
def rLtT (K : PySem.W.Frag) : R2 := fun x y H Q => ∃ a b ns ms, x = .ref a ∧ y = .ref b ∧ SqT K H a (ns.map V.int) ∧ SqT K H b (ms.map V.int) ∧ Q (.bl (HT.lexLt ns ms)) H
theorem op_ltT (hu : X.A.units < cLine) : OpR X (compareOp .Lt) (rLtT X.K) := by
  intro pins s σ H x y v u Q I rx ry h
  obtain ⟨a, b, ns, ms, rfl, rfl, ha, hb, q⟩ := h
  cases rx
  cases ry
  obtain ⟨its, r1, p1, _⟩ := I.tuple ha
  obtain ⟨its2, r2, p2, _⟩ := I.tuple hb
  have i1 : IntsAre its.toArray.toList ns := intsAre_of r1
  have i2 : IntsAre its2.toArray.toList ms := intsAre_of r2
  exact HT.lt_tupInts p1 p2 i1 i2 hu ⟨.bl (HT.lexLt ns ms), H, I, rfl, q⟩
def rCatT (K : PySem.W.Frag) : R2 := fun x y H Q => ∃ a b xs ys, x = .ref a ∧ y = .ref b ∧ SqT K H a xs ∧ SqT K H b ys ∧ xs ≠ [] ∧ xs.length + ys.length ≤ sizeLine ∧
  (ys = [] → Q (.ref a) H) ∧ (ys ≠ [] → ∀ p, H p = none → Q (.ref p) (upd H p (.tup (xs ++ ys))))
theorem Vals.nil_iff {xs : List V} {us : List Value} (r : Vals xs us) : us = [] ↔ xs = [] := by
  cases r with
  | nil => simp
  | cons _ _ => simp
theorem op_catT : OpR X (binaryOp .Add) (rCatT X.K) := by
  intro pins s σ H x y v u Q I rx ry h
  obtain ⟨a, b, xs, ys, rfl, rfl, ha, hb, hx, hz, q1, q2⟩ := h
  cases rx
  cases ry
  obtain ⟨its, r1, p1, _⟩ := I.tuple ha
  obtain ⟨its2, r2, p2, _⟩ := I.tuple hb
  refine HT.cat_tup p1 p2 (fun z => hx (r1.nil_iff.mp z)) (fun z => ⟨.ref a, H, I, rfl, q1 (r2.nil_iff.mp z)⟩) (fun z => ?_) (by rw [← r1.length, ← r2.length]; exact hz)
  refine ⟨.ref s.heap.objs.size, _, I.laid (t' := s.toks) (o := .tup (xs ++ ys)) (fun b ob q => Heap.get?_push_of_some _ q) (Nat.le_refl _) ?_, rfl, q2 (fun w => z (r2.nil_iff.mpr w)) _ (I.hok.fresh (Nat.le_refl _))⟩
  exact ⟨by rw [List.length_append]; exact hz, _, r1.append r2, IsTup.new _ _⟩
end
end L2
namespace L2
open PySem PySem.Spec PyProof.Rows
def ixN (n : Nat) (i : Int) : Option Nat := if 0 ≤ i then (if i < n then some i.toNat else none) else if -(n : Int) ≤ i then some (i + n).toNat else none
def atI {α : Type} (xs : List α) (i : Int) : Option α := (ixN xs.length i).bind fun j => xs[j]?
theorem ixN_seq {n : Nat} {i : Int} {j : Nat} (h : ixN n i = some j) : seqIndex? i n = some j ∧ j < n ∧ -(n : Int) ≤ i ∧ i < n := by
  unfold ixN at h
  by_cases h0 : 0 ≤ i
  · rw [if_pos h0] at h
    by_cases h1 : i < n
    · rw [if_pos h1] at h
      have e : i.toNat = j := Option.some.inj h
      exact ⟨by rw [seqIndex_of h0 h1, e], by omega, by omega, h1⟩
    · rw [if_neg h1] at h; cases h
  · rw [if_neg h0] at h
    by_cases h1 : -(n : Int) ≤ i
    · rw [if_pos h1] at h
      have e : (i + n).toNat = j := Option.some.inj h
      exact ⟨by rw [seqIndex_neg (by omega) h1, e], by omega, h1, by omega⟩
    · rw [if_neg h1] at h; cases h
theorem atI_get {α : Type} {xs : List α} {i : Int} {v : α} (h : atI xs i = some v) : ∃ j, seqIndex? i xs.length = some j ∧ xs[j]? = some v ∧ j < xs.length ∧ -(xs.length : Int) ≤ i ∧ i < xs.length := by
  unfold atI at h
  cases e : ixN xs.length i with
  | none => rw [e] at h; cases h
  | some j =>
    rw [e] at h
    obtain ⟨h1, h2, h3, h4⟩ := ixN_seq e
    exact ⟨j, h1, h, h2, h3, h4⟩
theorem atI_nat {α : Type} {xs : List α} {j : Nat} {v : α} (h : xs[j]? = some v) : atI xs (j : Int) = some v := by
  have hj : j < xs.length := (List.getElem?_eq_some_iff.mp h).1
  have e : ixN xs.length (j : Int) = some j := by
    unfold ixN
    rw [if_pos (by omega), if_pos (by omega)]; simp
  unfold atI; rw [e]; exact h
theorem atI_last {α : Type} (xs : List α) (v : α) : atI (xs ++ [v]) (-1) = some v := by
  have hl : (xs ++ [v]).length = xs.length + 1 := by simp
  have e : ixN (xs ++ [v]).length (-1) = some xs.length := by
    unfold ixN
    rw [hl, if_neg (by decide), if_pos (by omega)]
    congr 1
    omega
  unfold atI
  rw [e]
  show (xs ++ [v])[xs.length]? = some v
  simp
def PlainIx (b : Expr) : Prop := ∀ o i, subscripted b false o i = operate [o, i] (getItem o i)
def IxR (X : Cx) (r : R2) : Prop :=
  ∀ (value slice : Expr) (pins : List (Addr × Obj)) (s : Shared) (σ : St) (H : Hp) (x y : V) (v u : Value) (Q : VK), Inv X pins σ H s → RelV x v → RelV y u → r x y H Q →
    subscripted slice false v u = operate [v, u] (getItem v u) → wpAny (model X.prog X.w) X.A (subscriptTail value slice v u) (EP X pins σ Q) X.xe s
def MtR (X : Cx) (id : String) (r : V → List V → Hp → VK → Prop) : Prop :=
  ∀ (pins : List (Addr × Obj)) (s : Shared) (σ : St) (H : Hp) (x : V) (xs : List V) (v : Value) (us : List Value) (Q : VK), Inv X pins σ H s → RelV x v → Vals xs us → r x xs H Q →
    wpAny (model X.prog X.w) X.A (call (.builtin id) (v :: us)) (EP X pins σ Q) X.xe s
section
variable {X : Cx} {a b : Expr} {ta tb : TE} {pos : Pos}
theorem IxR.or {r r' : R2} (h : IxR X r) (h' : IxR X r') : IxR X (fun x y H Q => r x y H Q ∨ r' x y H Q) := by
  intro value slice pins s σ H x y v u Q I rx ry q hs
  rcases q with q | q
  · exact h value slice pins s σ H x y v u Q I rx ry q hs
  · exact h' value slice pins s σ H x y v u Q I rx ry q hs
theorem MtR.or {id : String} {r r' : V → List V → Hp → VK → Prop} (h : MtR X id r) (h' : MtR X id r') : MtR X id (fun x xs H Q => r x xs H Q ∨ r' x xs H Q) := by
  intro pins s σ H x xs v us Q I rx rs q
  rcases q with q | q
  · exact h pins s σ H x xs v us Q I rx rs q
  · exact h' pins s σ H x xs v us Q I rx rs q
theorem pe_ix {r : R2} (hr : IxR X r) (ha : PE X a ta) (hb : PE X b tb) (hs : PlainIx b) : PE X (.Subscript a b pos) (tOp r ta tb) := by
  intro pins s σ H Q I h
  exact Subscript_ (binT ha hb I h fun v u s2 x y H2 I2 rx ry q => hr a b pins s2 σ H2 x y v u Q I2 rx ry q (hs _ _))
def rIxL (K : PySem.W.Frag) : R2 := fun x y H Q => ∃ p xs i v, x = .ref p ∧ y = .int i ∧ SqL K H p xs ∧ atI xs i = some v ∧ Q v H
def rIxT (K : PySem.W.Frag) : R2 := fun x y H Q => ∃ p xs i v, x = .ref p ∧ y = .int i ∧ SqT K H p xs ∧ atI xs i = some v ∧ Q v H
def rIxS : R2 := fun x y H Q => ∃ z i c, x = .str z ∧ y = .int i ∧ z.length ≤ sizeLine ∧ atI z.cps.toList i = some c ∧ Q (.str ⟨#[c]⟩) H
theorem ix_list : IxR X (rIxL X.K) := by
  intro value slice pins s σ H x y v u Q I rx ry h hs
  obtain ⟨p, xs, i, z, rfl, rfl, hq, he, q⟩ := h
  cases rx
  obtain ⟨t, rfl⟩ := ry
  obtain ⟨its, r, pl, hz⟩ := I.list hq
  obtain ⟨j, h1, h2, h3, h4, h5⟩ := atI_get he
  obtain ⟨w, ew, rw'⟩ := r.get h2
  have hl := r.length
  have hn := line63
  have fin : EP X pins σ Q w s := ⟨z, H, I, rw', q⟩
  by_cases h0 : 0 ≤ i
  · have hj : i.toNat = j := by
      rw [seqIndex_of h0 h5] at h1
      exact Option.some.inj h1
    exact item_listR pl.isList h0 (by omega) (by rw [hj]; simpa using ew) fin hs
  · have hj : (i + (its.toArray.size : Int)).toNat = j := by
      rw [seqIndex_neg (by omega) h4] at h1
      rw [List.size_toArray, ← hl]
      exact Option.some.inj h1
    exact subscriptTail_builtinR (x := w) pl.isList.typeIs slot_list_getitem.lookup
      (wpAny_getItem_list_neg (Q := fun r s' => r = w ∧ EP X pins σ Q r s') pl.isList (by omega) (by rw [List.size_toArray] <;> omega) (by omega) (by rw [hj]; simpa using ew) ⟨rfl, fin⟩) hs
theorem ix_tup : IxR X (rIxT X.K) := by
  intro value slice pins s σ H x y v u Q I rx ry h hs
  obtain ⟨p, xs, i, z, rfl, rfl, hq, he, q⟩ := h
  cases rx
  obtain ⟨t, rfl⟩ := ry
  obtain ⟨its, r, pl, hz⟩ := I.tuple hq
  obtain ⟨j, h1, h2, h3, h4, h5⟩ := atI_get he
  obtain ⟨w, ew, rw'⟩ := r.get h2
  have hl := r.length
  have hn := line63
  have fin : EP X pins σ Q w s := ⟨z, H, I, rw', q⟩
  exact subscriptTail_builtinR (x := w) pl.typeIs slot_tuple_getitem.lookup
    (getItem_tuple (j := j) (Q := fun r s' => r = w ∧ EP X pins σ Q r s') pl (by omega) (by omega) (by rw [List.size_toArray, ← hl]; exact h1) (by simpa using ew) ⟨rfl, fin⟩) hs
theorem ix_str : IxR X rIxS := by
  intro value slice pins s σ H x y v u Q I rx ry h hs
  obtain ⟨z, i, c, rfl, rfl, hz, he, q⟩ := h
  obtain ⟨t, rfl⟩ := rx
  obtain ⟨t', rfl⟩ := ry
  obtain ⟨j, h1, h2, h3, h4, h5⟩ := atI_get he
  have hl : z.cps.toList.length = z.length := by simp [Str.length]
  rw [hl] at h1 h4 h5
  have hn := line63
  exact tail_any (typeIs_str s z t) slot_str_getitem.lookup (getItem_str (c := c) (by
    have e1 : decide (i < -(2 ^ 63 : Int)) = false := decide_eq_false (by omega)
    have e2 : decide (i ≥ 2 ^ 63) = false := decide_eq_false (by omega)
    rw [e1, e2, Bool.or_false]) (by rw [h1]; simpa using h2) ⟨.str ⟨#[c]⟩, H, I.tok _, ⟨_, rfl⟩, q⟩) hs
def rIx (K : PySem.W.Frag) : R2 := fun x y H Q => rIxL K x y H Q ∨ rIxT K x y H Q ∨ rIxS x y H Q
theorem ix_seq : IxR X (rIx X.K) := ix_list.or (ix_tup.or ix_str)
theorem mapSeq_set (its : List Value) (n j : Nat) (u : Value) : Obj.mapSeq (·.setIfInBounds j u) { cls := .type "list", data := .seq its.toArray n } = { cls := .type "list", data := .seq (its.set j u).toArray n } := by
  simp [Obj.mapSeq]
theorem Inv.lst {pins : List (Addr × Obj)} {σ : St} {H : Hp} {s : Shared} {p : Addr} {xs : List V} (I : Inv X pins σ H s) (h : H p = some (.lst xs)) :
    ∃ (its : List Value) (n : Nat), Vals xs its ∧ s.heap.get? p = some { cls := .type "list", data := .seq its.toArray n } ∧ xs.length ≤ sizeLine := by
  obtain ⟨z, its, n, r, e⟩ := I.hok p _ h
  exact ⟨its, n, r, e, z⟩
theorem Inv.lstUpd {pins : List (Addr × Obj)} {σ : St} {H : Hp} {s : Shared} {p : Addr} {xs ys : List V} {its its' : List Value} {n n' : Nat} {f : Obj → Obj} (I : Inv X pins σ H s) (h : H p = some (.lst xs))
    (ho : s.heap.get? p = some { cls := .type "list", data := .seq its.toArray n }) (hf : f { cls := .type "list", data := .seq its.toArray n } = { cls := .type "list", data := .seq its'.toArray n' }) (r : Vals ys its') (hz : ys.length ≤ sizeLine) (t : Nat) :
    Inv X pins σ (upd H p (.lst ys)) { s with heap := s.heap.update p f, toks := t } := by
  have e : (s.heap.update p f).get? p = some { cls := .type "list", data := .seq its'.toArray n' } := by
    rw [Heap.get?_update_self f ho (by rw [hf] <;> rfl), hf]
  refine I.write (x := p) (e := p) (by rw [h]; trivial) (.inl rfl) (fun b u hb q => (Heap.get?_update_other _ _ (Ne.symm hb)).trans q) ⟨_, e⟩ ?_
  exact ⟨hz, its', n', r, e⟩
def rSetL : V → V → V → Hp → (Hp → Prop) → Prop := fun o i v H Q => ∃ p xs k j, o = .ref p ∧ i = .int k ∧ H p = some (.lst xs) ∧ ixN xs.length k = some j ∧ Q (upd H p (.lst (xs.set j v)))
theorem set_list : PSet X rSetL := by
  intro pins s σ H o i v ov iv u Q I ro ri rv h
  obtain ⟨p, xs, k, j, rfl, rfl, hp, hj, q⟩ := h
  cases ro
  obtain ⟨t, rfl⟩ := ri
  obtain ⟨its, n, r, ho, hz⟩ := I.lst hp
  obtain ⟨h1, h2, h3, h4⟩ := ixN_seq hj
  have hl := r.length
  have hn := line63
  have I' : Inv X pins σ (upd H p (.lst (xs.set j v))) { s with heap := s.heap.update p (Obj.mapSeq (·.setIfInBounds j u)) } :=
    I.lstUpd hp ho (mapSeq_set its n j u) (r.set rv j) (by rw [List.length_set]; exact hz) s.toks
  by_cases h0 : 0 ≤ k
  · have hk : k.toNat = j := by
      rw [seqIndex_of h0 h4] at h1
      exact Option.some.inj h1
    exact PySem.W.ki_setAt ho h0 (by omega) (by rw [List.size_toArray, ← hl]; exact h4) (by rw [hk]; exact ⟨_, I', q⟩)
  · have hk : (k + (its.toArray.size : Int)).toNat = j := by
      rw [seqIndex_neg (by omega) h3] at h1
      rw [List.size_toArray, ← hl]
      exact Option.some.inj h1
    exact PySem.W.ki_setBack ho (by omega) (by rw [List.size_toArray, ← hl]; exact h3) (by omega) (by rw [hk]; exact ⟨_, I', q⟩)
theorem slice_bounds (lo hi : Option Int) (n : Nat) : (sliceBounds lo hi none n).1 = ((HT.sIx n 0 lo : Nat) : Int) ∧ (sliceBounds lo hi none n).2.1 = ((HT.sIx n n hi : Nat) : Int) ∧ (sliceBounds lo hi none n).2.2 = 1 := by
  refine ⟨?_, ?_, rfl⟩
  · cases lo with
    | none => simp [sliceBounds, HT.sIx]
    | some i =>
      simp only [sliceBounds, HT.sIx, Option.getD_none, show (1 : Int) > 0 by decide, if_true]
      by_cases h : i < 0
      · simp only [h, if_true] <;> omega
      · simp only [h, if_false] <;> omega
  · cases hi with
    | none => simp [sliceBounds, HT.sIx]
    | some i =>
      simp only [sliceBounds, HT.sIx, Option.getD_none, show (1 : Int) > 0 by decide, if_true]
      by_cases h : i < 0
      · simp only [h, if_true] <;> omega
      · simp only [h, if_false] <;> omega
theorem slicePick_cut (its : List Value) (lo hi : Option Int) : slicePick its.toArray lo hi none = ((its.drop (HT.sIx its.length 0 lo)).take (HT.sIx its.length its.length hi - HT.sIx its.length 0 lo)).toArray := by
  obtain ⟨h1, h2, h3⟩ := slice_bounds lo hi its.toArray.size
  unfold slicePick
  rw [h1, h2, h3]
  simp only [sliceRange_one, pick_run, List.size_toArray] <;> rfl
def rSlL (K : PySem.W.Frag) : V → Option Int → Option Int → Hp → VK → Prop := fun x lo hi H Q => ∃ a xs, x = .ref a ∧ SqL K H a xs ∧ ∀ p, H p = none → Q (.ref p) (upd H p (.lst (cutV xs lo hi)))
theorem sl_list : SlR X (rSlL X.K) := by
  intro pins s σ H x v vl vu lo hi sl Q I rx hs pl pu h
  obtain ⟨a, xs, rfl, hx, q⟩ := h
  cases rx
  obtain ⟨its, r, ht, hz⟩ := I.list hx
  have hlen := r.length
  refine ⟨"list", _, slot_list_getitem.lookup, ht.isList.typeIs, ?_⟩
  refine wpAny_getItem_list_slice ht.isList hs pl pu .none (by simp) ?_ (by rw [List.size_toArray] <;> omega)
  rw [slicePick_cut, ← hlen]
  refine ⟨.ref s.heap.objs.size, _, I.laid (t' := s.toks) (o := .lst (cutV xs lo hi)) (fun b ob q => Heap.get?_push_of_some _ q) (Nat.le_refl _) ?_, rfl, q _ (I.hok.fresh (Nat.le_refl _))⟩
  exact ⟨Nat.le_trans (cutV_length xs lo hi) hz, _, 0, (r.drop (HT.sIx xs.length 0 lo)).take (HT.sIx xs.length xs.length hi - HT.sIx xs.length 0 lo), Heap.get?_push_size _ rfl⟩
theorem call_len_seq : CallR X (.builtin "len") (fun xs H Q => ∃ p ys, xs = [.ref p] ∧ (SqL X.K H p ys ∨ SqT X.K H p ys) ∧ Q (.int ys.length) H) := by
  intro pins s σ H xs us Q I r h
  obtain ⟨p, ys, rfl, hq, q⟩ := h
  obtain ⟨u, rfl, rx⟩ := vals1 r
  cases rx
  have hn := line63
  rcases hq with hq | hq
  · obtain ⟨its, r', pl, hz⟩ := I.list hq
    have hlen := r'.length
    exact Calls.call_len_list pl.isList (by simp only [List.size_toArray] <;> omega) ⟨.int ys.length, H, I.tok _, ⟨s.toks + 1, by rw [List.size_toArray, hlen]⟩, q⟩
  · obtain ⟨its, r', pl, hz⟩ := I.tuple hq
    have hlen := r'.length
    exact len_tuple pl (by simp only [List.size_toArray] <;> omega) ⟨.int ys.length, H, I.tok _, ⟨s.toks + 1, by rw [List.size_toArray, hlen]⟩, q⟩
theorem call_len_str : CallR X (.builtin "len") (fun xs H Q => ∃ z, xs = [.str z] ∧ z.length ≤ sizeLine ∧ Q (.int z.length) H) := by
  intro pins s σ H xs us Q I r h
  obtain ⟨z, rfl, hz, q⟩ := h
  obtain ⟨u, rfl, t, rfl⟩ := vals1 r
  have hn := line63
  exact len_str (by omega) ⟨.int z.length, H, I.tok _, ⟨_, rfl⟩, q⟩
theorem CallR.or {f : Value} {r r' : List V → Hp → VK → Prop} (h : CallR X f r) (h' : CallR X f r') : CallR X f (fun xs H Q => r xs H Q ∨ r' xs H Q) := by
  intro pins s σ H xs us Q I rs q
  rcases q with q | q
  · exact h pins s σ H xs us Q I rs q
  · exact h' pins s σ H xs us Q I rs q
theorem call_tuple_of : CallR X (.type "tuple") (fun xs H Q => ∃ p ys, xs = [.ref p] ∧ ((SqL X.K H p ys ∧ ∀ l, H l = none → Q (.ref l) (upd H l (.tup ys))) ∨ (SqT X.K H p ys ∧ Q (.ref p) H))) := by
  intro pins s σ H xs us Q I r h
  obtain ⟨p, ys, rfl, h⟩ := h
  obtain ⟨u, rfl, rx⟩ := vals1 r
  cases rx
  rcases h with ⟨hq, q⟩ | ⟨hq, q⟩
  · obtain ⟨its, r', pl, hz⟩ := I.list hq
    have hlen := r'.length
    refine call_tuple_list pl.isList (fun h' kp => ?_) (by simp only [List.size_toArray] <;> omega)
    have I1 : Inv X pins σ H { s with heap := h' } := I.kept (t' := s.toks) kp
    have I2 : Inv X pins σ (upd H h'.objs.size (.tup ys)) { s with heap := h'.push { cls := .type "tuple", data := .seq its.toArray } } :=
      I1.laid (t' := s.toks) (fun b o e => Heap.get?_push_of_some _ e) (Nat.le_refl _) (show ObjOk X.prog X.w _ _ _ (.tup ys) from ⟨hz, its, r', IsTup.new _ _⟩)
    exact ⟨.ref h'.objs.size, _, I2, rfl, q _ (I1.hok.fresh (Nat.le_refl _))⟩
  · obtain ⟨its, r', pl, hz⟩ := I.tuple hq
    exact call_tuple_same pl ⟨.ref p, H, I, rfl, q⟩
def tyV (K : PySem.W.Frag) (T : String) (x : V) (H : Hp) : Prop := match x with
  | .str _ => T = "str"
  | .int _ => T = "int"
  | .ref p => (T = "list" ∧ ∃ xs, SqL K H p xs) ∨ (T = "tuple" ∧ ∃ o, K.lookup p = some o ∧ o.cls = .type "tuple" ∧ o.dict = none) ∨
      (T = "dict" ∧ ((∃ kvs, H p = some (.dK kvs)) ∨ ∃ kvs, H p = some (.dT kvs))) ∨ (T = "set" ∧ ∃ S n, H p = some (.set S n))
  | _ => False
theorem tyV_is {pins : List (Addr × Obj)} {σ : St} {H : Hp} {s : Shared} {T : String} {x : V} {v : Value} (I : Inv X pins σ H s) (r : RelV x v) (ty : tyV X.K T x H) :
    s.TypeIs v T ∧ ∀ a, v = .ref a → ∃ ob, s.heap.get? a = some ob ∧ ob.dict = none := by
  cases x with
  | str z =>
    obtain ⟨t, rfl⟩ := r
    cases (show T = "str" from ty)
    exact ⟨typeIs_str s z t, fun _ e => nomatch e⟩
  | int i =>
    obtain ⟨t, rfl⟩ := r
    cases (show T = "int" from ty)
    exact ⟨typeIs_int s i t, fun _ e => nomatch e⟩
  | ref p =>
    cases r
    rcases ty with ⟨rfl, xs, hq⟩ | ⟨rfl, o, hk, hc, hd⟩ | ⟨rfl, hk⟩ | ⟨rfl, S, n, hk⟩
    · obtain ⟨its, _, pl, _⟩ := I.list hq
      refine ⟨pl.isList.typeIs, fun a e => ?_⟩
      cases e
      obtain ⟨o, n, e, c, hd, _⟩ := pl
      exact ⟨o, e, hd⟩
    · refine ⟨⟨o, I.kIn p o hk, hc⟩, fun a e => ?_⟩
      cases e
      exact ⟨o, I.kIn _ o hk, hd⟩
    · have z : ∃ o, s.heap.get? p = some o ∧ o.ExactDict := by
        rcases hk with ⟨kvs, hk⟩ | ⟨kvs, hk⟩
        · obtain ⟨_, _, _, _, o, _, _, e, ex, _⟩ := I.hok p _ hk
          exact ⟨o, e, ex⟩
        · obtain ⟨_, _, _, _, o, _, _, e, ex, _⟩ := I.hok p _ hk
          exact ⟨o, e, ex⟩
      obtain ⟨o, e, ex⟩ := z
      refine ⟨⟨o, e, ex.1⟩, fun a e2 => ?_⟩
      cases e2
      exact ⟨o, e, ex.2.1⟩
    · obtain ⟨o, _, _, _, e, ex, _⟩ := I.hok p _ hk
      refine ⟨⟨o, e, ex.1⟩, fun a e2 => ?_⟩
      cases e2
      exact ⟨o, e, ex.2.1⟩
  | _ => exact False.elim ty
def tBM0 (K : PySem.W.Frag) (T : String) (r : V → List V → Hp → VK → Prop) (to : TE) : TE := fun σ H Q => to σ H fun x H1 => tyV K T x H1 ∧ r x [] H1 Q
def tBM (K : PySem.W.Frag) (T : String) (r : V → List V → Hp → VK → Prop) (to : TE) (t : TA) : TE := fun σ H Q => to σ H fun x H1 => tyV K T x H1 ∧ t σ H1 fun xs H2 => r x xs H2 Q
variable {o e : Expr} {es : List Expr} {to : TE} {t : TA} {name : Str} {apos cpos : Pos} {T id : String} {r : V → List V → Hp → VK → Prop}
theorem pe_bm0 (pa : PlainAttrs T) (slot : Slot T name id) (hty : typeOf (.builtin id) = pure (.type "method_descriptor")) (hm : MtR X id r) (ho : PE X o to)
    (hbase : attributeBase o name X.env (eval o X.env) = eval o X.env := by rfl) (hline : (apos.endLine == cpos.line) = true := by rfl) : PE X (.Call (.Attribute o name apos) [] [] cpos) (tBM0 X.K T r to) := by
  intro pins s σ H Q I h
  refine wpAny_Call_method0_late hbase hline (thn (ho pins s σ H _ I h) fun v s1 ⟨x, H1, I1, r1, ty, q1⟩ => ?_)
  obtain ⟨h1, h2⟩ := tyV_is I1 r1 ty
  exact ⟨T, id, pa, slot, hty, h1, h2, Calls.callWith_builtin rfl (PySem.evalArgs_none (hm pins s1 σ H1 x [] v [] Q I1 r1 .nil q1))⟩
theorem pe_bm (pa : PlainAttrs T) (slot : Slot T name id) (hty : typeOf (.builtin id) = pure (.type "method_descriptor")) (hm : MtR X id r) (ho : PE X o to) (ha : PA X (e :: es) t)
    (hbase : attributeBase o name X.env (eval o X.env) = eval o X.env := by rfl)
    (hfew : ((backTo cpos (starEach (e :: es) X.env)).all (fun x => !x.1) && (backToKw cpos (keywordEach [] X.env)).all (fun x => x.1.isSome)
      && decide ((e :: es).length + ([] : List Keyword).length + (if ([] : List Keyword).isEmpty then 0 else 1) < 30)) = true := by rfl)
    (hline : (apos.endLine == cpos.line) = true := by rfl) (hs : starEach (e :: es) X.env = (false, eval e X.env) :: starEach es X.env := by rfl) (hplain : (backTo cpos (starEach es X.env)).any (·.1) = false := by rfl) :
    PE X (.Call (.Attribute o name apos) (e :: es) [] cpos) (tBM X.K T r to t) := by
  intro pins s σ H Q I h
  refine wpAny_Call_method_late hbase hfew hline rfl (thn (ho pins s σ H _ I h) fun v s1 ⟨x, H1, I1, r1, ty, q1⟩ => ?_)
  obtain ⟨h1, h2⟩ := tyV_is I1 r1 ty
  refine ⟨T, id, pa, slot, hty, h1, h2, ?_⟩
  have hA := ha cpos pins s1 σ H1 _ I1 q1
  rw [hs] at hA ⊢
  refine Calls.callWith_builtin (by show (false || (backTo cpos (starEach es X.env)).any (·.1)) = false; rw [hplain] <;> rfl) (Calls.evalArgs_plain ?_)
  exact thn hA fun us s2 ⟨vs, H2, I2, r2, q2⟩ => hm pins s2 σ H2 x vs v us Q I2 r1 r2 q2
end
end L2
namespace L2
open PySem PySem.Spec PyProof.Rows
def MtM (X : Cx) (id : String) (r : V → List V → Hp → VK → Prop) : Prop :=
  ∀ (pins : List (Addr × Obj)) (s : Shared) (σ : St) (H : Hp) (x : V) (xs : List V) (v : Value) (us : List Value) (Q : VK), Inv X pins σ H s → RelV x v → Vals xs us → r x xs H Q →
    wpAny (model X.prog X.w) X.A (call (.builtin id) (v :: us)) (EP X pins σ Q) X.xe s
theorem Vals.one : ∀ {x : V} {us : List Value}, Vals [x] us → ∃ u, us = [u] ∧ RelV x u
  | _, _, .cons r .nil => ⟨_, rfl, r⟩
theorem Vals.zero : ∀ {us : List Value}, Vals [] us → us = []
  | _, .nil => rfl
theorem Vals.dropLast {xs : List V} {us : List Value} (h : Vals xs us) : Vals xs.dropLast us.dropLast := by
  induction h with
  | nil => exact .nil
  | cons r t ih =>
    cases t with
    | nil => exact .nil
    | cons q t' => exact .cons r ih
theorem Vals.eraseIdx : ∀ {xs : List V} {us : List Value} (i : Nat), Vals xs us → Vals (xs.eraseIdx i) (us.eraseIdx i)
  | _, _, _, .nil => .nil
  | _, _, 0, .cons _ t => t
  | _, _, i + 1, .cons r t => .cons r (Vals.eraseIdx i t)
theorem Vals.rep {xs : List V} {us : List Value} (h : Vals xs us) : ∀ k : Nat, Vals (List.replicate k xs).flatten (List.replicate k us).flatten
  | 0 => .nil
  | k + 1 => by
    rw [List.replicate_succ, List.replicate_succ, List.flatten_cons, List.flatten_cons]
    exact Vals.append h (Vals.rep h k)
theorem erase_last {α : Type} (l : List α) : l.eraseIdx (l.length - 1) = l.dropLast := by
  induction l with
  | nil => rfl
  | cons a r ih =>
    cases r with
    | nil => rfl
    | cons b r =>
      have e : (a :: b :: r).length - 1 = ((b :: r).length - 1) + 1 := by
        have h1 : (a :: b :: r).length = r.length + 2 := rfl
        have h2 : (b :: r).length = r.length + 1 := rfl
        omega
      rw [e, List.eraseIdx_cons_succ, ih]
      all_goals rfl
theorem foldl_rep (its : List Value) : ∀ (k : Nat) (acc : List Value),
    List.foldl (fun x1 x2 => x1 ++ x2) acc.toArray (List.replicate k its.toArray) = (acc ++ (List.replicate k its).flatten).toArray
  | 0, acc => by simp
  | k + 1, acc => by
    have e : acc.toArray ++ its.toArray = (acc ++ its).toArray := by simp
    have e2 : (acc ++ its) ++ (List.replicate k its).flatten = acc ++ (List.replicate (k + 1) its).flatten := by
      rw [List.replicate_succ, List.flatten_cons, List.append_assoc]
    rw [← e2, ← foldl_rep its k (acc ++ its), ← e, List.replicate_succ, List.foldl_cons]
section
variable {X : Cx} {pins : List (Addr × Obj)} {σ : St} {H : Hp} {s : Shared} {l b : Addr} {xs ys zs : List V}
theorem Inv.lset {its its' : List Value} {n : Nat} {f : Array Value → Array Value} {t' : Nat} (I : Inv X pins σ H s) (hH : H l = some (.lst xs))
    (e : s.heap.get? l = some { cls := .type "list", data := .seq its.toArray n }) (hf : f its.toArray = its'.toArray) (hv : Vals ys its') (hz : ys.length ≤ sizeLine) :
    Inv X pins σ (upd H l (.lst ys)) { s with heap := s.heap.update l (Obj.mapSeq f), toks := t' } := by
  have q := PySem.IsL.update e f
  rw [hf] at q
  refine I.write (x := l) (e := l) (by rw [hH]; exact trivial) (.inl rfl) (fun b' u hb hu => (Heap.get?_update_other s.heap (Obj.mapSeq f) (Ne.symm hb)).trans hu) ⟨_, q⟩ ?_
  exact ⟨hz, its', _, hv, q⟩
theorem Inv.lnew {its : List Value} {t' : Nat} (I : Inv X pins σ H s) (hv : Vals ys its) (hz : ys.length ≤ sizeLine) :
    Inv X pins σ (upd H s.heap.objs.size (.lst ys)) { s with heap := s.heap.push { cls := .type "list", data := .seq its.toArray }, toks := t' } :=
  I.laid (fun _ _ q => Heap.get?_push_of_some _ q) (Nat.le_refl _) ⟨hz, its, 0, hv, Heap.get?_push_size _ rfl⟩
theorem Inv.fresh (I : Inv X pins σ H s) : H s.heap.objs.size = none := I.hok.fresh (Nat.le_refl _)
theorem Inv.lstM (I : Inv X pins σ H s) (hH : H l = some (.lst xs)) : xs.length ≤ sizeLine ∧ ∃ (its : List Value) (n : Nat), Vals xs its ∧ xs.length = its.length ∧ s.heap.get? l = some { cls := .type "list", data := .seq its.toArray n } := by
  obtain ⟨z, its, n, r, e⟩ := I.hok l _ hH
  exact ⟨z, its, n, r, r.length, e⟩
theorem notLongL {n : Nat} (h : n ≤ sizeLine) : Builtin.List.listTooLong n = false := by
  unfold Builtin.List.listTooLong
  exact decide_eq_false (by omega)
end
section
variable {X : Cx}
def rAppend : V → List V → Hp → VK → Prop := fun x vs H Q => ∃ l xs y, x = .ref l ∧ vs = [y] ∧ H l = some (.lst xs) ∧ xs.length < sizeLine ∧ Q .non (upd H l (.lst (xs ++ [y])))
theorem mt_append : MtM X "list.append" rAppend := by
  intro pins s σ H x vs v us Q I rx rv h
  obtain ⟨l, xs, y, rfl, rfl, hH, hz, q⟩ := h
  cases rx
  obtain ⟨u, rfl, ru⟩ := rv.one
  obtain ⟨z, its, n, r, hl, e⟩ := I.lstM hH
  refine call_meets F.slot_list_append ⟨_, e, rfl⟩ F.entry_list_append (F.args_list_append_2 _ _) (PySem.list_append l its.toArray n u (by rw [List.size_toArray]; omega)) ⟨e, ?_⟩
  refine ⟨.non, _, I.lset (its' := its ++ [u]) hH e (by simp) (r.append (.cons ru .nil)) ?_, rfl, q⟩
  rw [List.length_append, List.length_singleton]
  omega
def rExtend : V → List V → Hp → VK → Prop := fun x vs H Q => ∃ l b xs zs, x = .ref l ∧ vs = [.ref b] ∧ H l = some (.lst xs) ∧ H b = some (.lst zs) ∧ xs.length + zs.length ≤ sizeLine ∧ Q .non (upd H l (.lst (xs ++ zs)))
theorem mt_extend : MtM X "list.extend" rExtend := by
  intro pins s σ H x vs v us Q I rx rv h
  obtain ⟨l, b, xs, zs, rfl, rfl, hH, hB, hz, q⟩ := h
  cases rx
  obtain ⟨u, rfl, ru⟩ := rv.one
  cases ru
  obtain ⟨z, its, n, r, hl, e⟩ := I.lstM hH
  obtain ⟨z2, its2, n2, r2, hl2, e2⟩ := I.lstM hB
  have hsz : its.toArray.size + its2.toArray.size ≤ sizeLine := by rw [List.size_toArray, List.size_toArray]; omega
  have hlong : ¬ (!its.toArray.isEmpty && Builtin.List.listTooLong (its.toArray.size + its2.toArray.size)) = true := by
    rw [notLongL hsz, Bool.and_false]
    exact Bool.false_ne_true
  refine call_meets F.slot_list_extend ⟨_, e, rfl⟩ F.entry_list_extend (F.args_list_extend_2 _ _)
    (AutoSeq1.list_extend_list_list_0 l its.toArray n b its2.toArray n2 hlong (by rw [List.size_toArray]; omega) (by omega)) ⟨e, e2, ?_⟩
  refine ⟨.non, _, I.lset (its' := its ++ its2) hH e (by simp) (r.append r2) ?_, rfl, q⟩
  rw [List.length_append]
  omega
def rPop : V → List V → Hp → VK → Prop := fun x vs H Q => ∃ l xs y, x = .ref l ∧ vs = [] ∧ H l = some (.lst xs) ∧ xs[xs.length - 1]? = some y ∧ Q y (upd H l (.lst xs.dropLast))
theorem mt_pop : MtM X "list.pop" rPop := by
  intro pins s σ H x vs v us Q I rx rv h
  obtain ⟨l, xs, y, rfl, rfl, hH, hy, q⟩ := h
  cases rx
  have hus := rv.zero
  subst hus
  obtain ⟨z, its, n, r, hl, e⟩ := I.lstM hH
  obtain ⟨u, hu, ru⟩ := r.get hy
  have hy' : its.toArray[its.toArray.size - 1]? = some u := by
    show its.toArray[its.length - 1]? = some u
    rw [← Array.getElem?_toList, ← hl]
    exact hu
  refine call_meets F.slot_list_pop ⟨_, e, rfl⟩ F.entry_list_pop (F.args_list_pop_1 _) (MeetsSeq.list_pop_last l its.toArray n u hy' (by rw [List.size_toArray]; omega)) ⟨e, ?_⟩
  refine ⟨y, _, I.lset (its' := its.dropLast) hH e ?_ r.dropLast ?_, ru, q⟩
  · show its.toArray.eraseIdxIfInBounds (its.toArray.size - 1) = its.dropLast.toArray
    rw [List.size_toArray, List.eraseIdxIfInBounds_toArray, erase_last]
  · rw [List.length_dropLast]
    omega
theorem len_rep {α : Type} (xs : List α) (k : Nat) : (List.replicate k xs).flatten.length = k * xs.length := by
  induction k with
  | zero => simp
  | succ k ih => rw [List.replicate_succ, List.flatten_cons, List.length_append, ih, Nat.succ_mul, Nat.add_comm]
end
end L2
namespace Att
open PySem PySem.W PySem.Calls PyProof.Rows
theorem ints_of_wellAll {P : Params} {h : Heap} : ∀ (ns : List Int) (vs : List Value), WellAll P h vs (ns.map WData.int) → IntsAre vs ns := by
  intro ns
  induction ns with
  | nil =>
    intro vs w
    rw [List.map_nil] at w
    cases w
    exact .nil
  | cons n ns ih =>
    intro vs w
    rw [List.map_cons] at w
    cases w with
    | cons a b =>
      cases a
      exact .cons _ _ (ih _ b)
theorem script_of {l : OpenLaw} {n : Nat} (hn : l.most = some n) {P : Params} {h : Heap} {args : List WData} {vals : List Value}
    (hpre : l.row.toRowW.claim.pre args = true) (hwl : WellAll P h vals args) :
    ∃ a vs ns, vals = [Value.ref a] ∧ args = [WData.list (ns.map WData.int)] ∧ h.get? a = some { cls := .type "list", data := .seq vs.toArray } ∧ IntsAre vs ns ∧ ns.length ≤ n := by
  have hsh : WShape.hasAll [] args [.list .int] = true := (pre_splitW hpre).1
  have hc : l.pre.holds [] { args := args } = true := (pre_splitW hpre).2
  obtain ⟨d, r, rfl, h1, h2⟩ := hasAllW_cons hsh
  obtain rfl := hasAllW_nil h2
  obtain ⟨xs, rfl, h3⟩ := hasW_list h1
  obtain ⟨ns, rfl⟩ := items_int h3
  have hlen : ns.length ≤ n := by
    unfold OpenLaw.pre at hc
    have h4 : (WTm.not (.lt (.lit (.int (n : Int))) (.len (.arg 0)))).holds [] { args := [.list (ns.map .int)] } = true := by
      have h4 := (holds_andW hc).1
      rw [hn] at h4
      exact h4
    have h5 := condW_of h4 (w_not (w_lt w_lit (w_len_list (w_arg rfl))))
    rw [List.length_map] at h5
    refine Nat.le_of_not_lt fun q => ?_
    have q' : (n : Int) < ((ns.length : Nat) : Int) := by omega
    first
      | (rw [decide_eq_true q'] at h5; exact absurd h5 (by decide))
      | (simp at h5; omega)
  cases hwl with
  | cons w1 w2 =>
    cases w2
    cases w1 with
    | list ho hall => exact ⟨_, _, ns, rfl, rfl, ho, ints_of_wellAll ns _ hall, hlen⟩
theorem post_true (l : OpenLaw) (args : List WData) : l.row.toRowW.claim.post args (.bool true) args = true :=
  postW_of (r := l.row.toRowW) (X := (true == true))
    (show WShape.has [] (.bool true) .bool = true by first | rfl | decide | simp [WShape.has, WShape.arms, WShape.armsAll])
    (show (WTm.eq .res (.lit (.bool true))).value [] { args := args, res := some (.bool true), after := args } = some (.bool (true == true)) from w_eq_bool (w_res rfl) w_lit) rfl
theorem attach_call {l : OpenLaw} {n : Nat} {q : Program} {loose : List Str} {XP : (Str → Option Value) → Heap → Prop} {YP : World → Heap → Prop} {d : DefRec}
    (hn : l.most = some n) (hdf : d.params.defaults = [])
    (call : ∀ (w : World) (s₀ s₁ : Shared) (mg mb : Str → Option Value) (fa : Addr) (o : Obj) (pm cd doc : Value) (a : Addr) (vs : List Value) (ns : List Int),
      Ground q loose [] XP w s₀ mg mb s₁.heap → YP w s₁.heap →
      s₁.heap.get? fa = some o → o.data = .func (docDef d.name d.params d.body d.scope pm cd doc) → s₁.heap.CodeRec cd d.name → mg d.name = some (.ref fa) →
      s₁.heap.get? a = some { cls := .type "list", data := .seq vs.toArray } → IntsAre vs ns → ns.length ≤ n → s₁.gens = #[] →
      codeAny (model l.prog w) callerA (.call (.ref fa) ⟨[.ref a], []⟩) (fun r s' => r = .ok (.ret (.bool true)) ∧ OldK s₁.heap s'.heap ∧ s'.os = s₁.os ∧ AllBare s'.gens) s₁) :
    WalkO q loose XP YP l.row.toRowW d [] (fun f vs => PySem.call f vs) := by
  intro w s₀ s₁ mg mb G Y fa o pm cd doc dV kV ho hd hcd hD hmg hg args vals as hpre hlay hrd hwl hlo
  obtain rfl : dV = .none := Dflts.none hD hdf
  obtain rfl : kV = .none := Dflts.noKw hD
  obtain ⟨a, vs, ns, rfl, rfl, hobj, hints, hlen⟩ := script_of hn hpre hwl
  refine enter_call (codeAny_mono (call w s₀ s₁ mg mb fa o pm cd doc a vs ns G Y ho (fd_plain hd) hcd hmg hobj hints hlen hg) fun r s' hq => ?_)
  obtain ⟨rfl, h2, h3, h4⟩ := hq
  exact ⟨.inl ⟨.bool true, .bool true, [], rfl, fun _ => rfl, .bool true, post_true l _, fun _ => ⟨List.Pairwise.nil, fun _ hm => (nomatch hm)⟩⟩, h2, h3, h4⟩
end Att
namespace L2
open PySem PySem.Spec PyProof.Rows
theorem vals_ints : ∀ {vs : List Value} {ns : List Int}, IntsAre vs ns → Vals (ns.map V.int) vs
  | _, _, .nil => .nil
  | _, _, .cons n t h => .cons ⟨t, rfl⟩ (vals_ints h)
def Only (H : Hp) : Prop := ∀ b, H b = none ∨ ∃ o xs, H b = some (.frz o (.lst xs))
theorem law_call {P : Program} {w : World} {K : PySem.W.Frag} {mg mb : Str → Option Value} {CX : CXT} {k : Nat} {fa a : Addr} {fd : FuncData} {x : Str} {sp : Sp} {s₁ : Shared} {vs : List Value} {ns : List Int}
    (KX : K.In s₁.heap) (hns : s₁.heap.Ns mainGlobals mg) (hb : s₁.heap.Ns builtinsNs mb) (hbb : ∀ x : Str, x ≠ "__name__" → mb x = bootBuiltins x) (hlim : s₁.heap.NoLimit) (hg : s₁.gens = #[])
    (ha : s₁.heap.get? a = some { cls := .type "list", data := .seq vs.toArray }) (hi : IntsAre vs ns) (hl : ns.length ≤ sizeLine) (hr : Room k callerA)
    (F : ∀ base : Heap, K.In base → base.Ns mainGlobals mg → FnOk P w K mg base CX k fa fd [x] sp) (hbind : ∀ (s : Shared) (u : Value), BindsTo s fd ⟨[u], []⟩ [(x, u)])
    (hsp : ∀ H : Hp, Only H → SqL K H a (ns.map V.int) → sp [.ref a] H (fun v _ => v = .bl true) fun _ _ _ => False)
    (hCX : ∀ H e s', CX [] H s₁ (fun _ _ _ => False) e s' → False) :
    codeAny (model P w) callerA (.call (.ref fa) ⟨[.ref a], []⟩) (fun r s' => r = .ok (.ret (.bool true)) ∧ OldK s₁.heap s'.heap ∧ s'.os = s₁.os ∧ AllBare s'.gens) s₁ := by
  have rv := vals_ints hi
  have lenV := hi.length
  have core : ∀ H : Hp, Only H → SqL K H a (ns.map V.int) → HOk P w H s₁.heap → (∀ b, H b ≠ none → b = a) → (H a ≠ none → K.lookup a = none) →
      codeAny (model P w) callerA (.call (.ref fa) ⟨[.ref a], []⟩) (fun r s' => r = .ok (.ret (.bool true)) ∧ OldK s₁.heap s'.heap ∧ s'.os = s₁.os ∧ AllBare s'.gens) s₁ := by
    intro H hO hS hok hA hK
    have base_of : ∀ {b : Addr} {o : Obj}, s₁.heap.get? b = some o → H b = none → (hidT s₁.heap H).get? b = some o := fun e n => hidT_get e n
    have noA : ∀ {b : Addr} {o : Obj} {es : Array DictEntry} {ep : Nat}, s₁.heap.get? b = some o → o.data = .dict es ep → H b = none := fun {b o es ep} e d => by
      cases q : H b with
      | none => rfl
      | some u =>
        have e' : b = a := hA b (by rw [q]; simp)
        subst e'
        rw [ha] at e; cases e
        have d' : Data.seq vs.toArray _ = Data.dict es ep := d
        cases d'
    have nsK : ∀ {b : Addr} {m : Str → Option Value}, s₁.heap.Ns b m → (hidT s₁.heap H).Ns b m := fun {b m} ⟨o, es, ep, e, d, r⟩ => ⟨o, es, ep, base_of e (noA e d), d, r⟩
    have hKb : K.In (hidT s₁.heap H) := fun b o e => base_of (KX b o e) (by
      cases q : H b with
      | none => rfl
      | some u =>
        have e' : b = a := hA b (by rw [q]; simp)
        subst e'
        rw [hK (by rw [q]; simp)] at e; cases e)
    have hM : Mod K mg (hidT s₁.heap H) := ⟨hKb, nsK hns, ⟨mb, nsK hb, hbb⟩, let ⟨mc, h1, h2⟩ := hlim; ⟨mc, nsK h1, h2⟩⟩
    have e0 : Env0 P w K mg (hidT s₁.heap H) callerA [] s₁ H := ⟨rfl, hM, fun b o e => of_hidT e, Nat.le_of_eq (hidT_size _ _), trivial, fun b hb => absurd (show b ∈ ([] : List Addr) from hb) (by simp), hok, .of_eq hg⟩
    refine codeAny_mono ((F _ hKb (nsK hns)).run callerA [] s₁ H ⟨[.ref a], []⟩ [.ref a] [.ref a] _ _ hr e0 (hbind s₁ (.ref a)) (.cons rfl .nil) (hsp H hO hS)) fun r s' h => ?_
    cases r with
    | error e => exact (hCX H e s' h).elim
    | ok fl =>
      cases fl with
      | next => exact False.elim h
      | brk => exact False.elim h
      | cont => exact False.elim h
      | ret u =>
        obtain ⟨v, H', os, bare, un, hok', r', q⟩ := h
        have q' : v = .bl true := q
        subst q'
        obtain rfl : u = Value.bool true := r'
        refine ⟨rfl, OldK.of_keep fun b o e => ?_, os, bare⟩
        cases q : H b with
        | none => exact un.keep b o e q (by intro z; exact absurd (show b ∈ ([] : List Addr) from z) (by simp)) (by simp)
        | some u =>
          rcases hO b with z | ⟨ob, xs, z⟩
          · rw [q] at z; cases z
          · have z2 := un.frzs b ob _ z
            obtain ⟨e1, _⟩ := hok b _ z
            obtain ⟨e2, _⟩ := hok' b _ z2
            rw [e] at e1; cases e1
            exact e2
  cases hk : K.lookup a with
  | some o =>
    have e := KX a o hk
    rw [ha] at e
    cases e
    refine core (fun _ => none) (fun _ => .inl rfl) (.inr ⟨_, vs.toArray, _, hk, rfl, rfl, rfl, by rw [List.size_toArray, lenV]; exact hl, by simpa using rv⟩) (fun b u z => by have z' : (none : Option HO) = some u := z; cases z') (fun b z => absurd rfl z) fun z => absurd rfl z
  | none =>
    refine core (fun b => if b = a then some (.frz { cls := .type "list", data := .seq vs.toArray } (.lst (ns.map V.int))) else none) (fun b => ?_) (.inl (.inr ⟨{ cls := .type "list", data := .seq vs.toArray }, if_pos rfl⟩)) (fun b u z => ?_) (fun b z => ?_) fun _ => hk
    · by_cases hb : b = a
      · exact .inr ⟨_, _, if_pos hb⟩
      · exact .inl (if_neg hb)
    · by_cases hb : b = a
      · have z' := (if_pos hb).symm.trans z
        cases z'
        subst hb
        exact ⟨ha, by rw [List.length_map]; exact hl, vs, _, rv, ha⟩
      · have z' := (if_neg hb).symm.trans z
        cases z'
    · by_cases hb : b = a
      · exact hb
      · exact absurd (if_neg hb) z
end L2
namespace L2
open PySem PySem.Spec PyProof.Rows
theorem walk_of {l : PySem.W.OpenLaw} {n k : Nat} {q : Program} {loose : List Str} {XP : (Str → Option Value) → Heap → Prop} {YP : World → Heap → Prop} {d : DefRec} {K : Params → PySem.W.Frag} {CX : World → CXT} {sp : World → Sp} {x : Str}
    (hn : l.most = some n) (hn2 : n ≤ sizeLine) (hdf : d.params.defaults = []) (hr : Room k callerA)
    (hY : ∀ (w : World) (h : Heap), YP w h → (K w.params).In h)
    (F : ∀ (w : World) (mg : Str → Option Value) (fa : Addr) (h : Heap), (K w.params).In h → h.Ns mainGlobals mg → mg d.name = some (.ref fa) →
      ∃ fd : FuncData, (∀ (s : Shared) (u : Value), BindsTo s fd ⟨[u], []⟩ [(x, u)]) ∧
        ∀ base : Heap, (K w.params).In base → base.Ns mainGlobals mg → FnOk l.prog w (K w.params) mg base (CX w) k fa fd [x] (sp w))
    (hsp : ∀ (w : World) (H : Hp) (a : Addr) (ns : List Int), ns.length ≤ n → Only H → SqL (K w.params) H a (ns.map V.int) → sp w [.ref a] H (fun v _ => v = .bl true) fun _ _ _ => False)
    (hCX : ∀ (w : World) (H : Hp) (s : Shared) (e : Value) (s' : Shared), CX w [] H s (fun _ _ _ => False) e s' → False) :
    PySem.W.WalkO q loose XP YP l.row.toRowW d [] (fun f vs => PySem.call f vs) := by
  refine Att.attach_call hn hdf fun w s₀ s₁ mg mb fa o pm cd doc a vs ns G Y ho hd hcd hmg hobj hints hlen hg => ?_
  have KX := hY w _ Y
  obtain ⟨fd, hb, hF⟩ := F w mg fa _ KX G.T.g hmg
  exact law_call KX G.T.g G.T.b G.T.builtins G.T.nolimit hg hobj hints (Nat.le_trans hlen hn2) hr hF hb (fun H hO hS => hsp w H a ns hlen hO hS) fun H e s' => hCX w H s₁ e s'
end L2
namespace L2
open PySem PySem.Spec PyProof.Rows
def defArgs (s : Stmt) : Arguments := match s with
  | .FunctionDef _ a _ _ _ _ _ _ _ _ => a
  | _ => { posonlyargs := [], args := [], vararg := none, kwonlyargs := [], kw_defaults := [], kwarg := none, defaults := [] }
def defBody (s : Stmt) : List Stmt := match s with
  | .FunctionDef _ _ b _ _ _ _ _ _ _ => b
  | _ => []
def defScope (s : Stmt) : Scope := match s with
  | .FunctionDef _ _ _ _ _ _ sc _ _ _ => sc
  | _ => { kind := .function, names := [], isGenerator := false, isCoroutine := false }
abbrev CX0 : CXT := fun _ _ _ _ _ _ => False
abbrev E0 : XK := fun _ _ _ => False
theorem pass0 {X : Cx} : Passes CX0 X E0 := fun _ _ _ _ _ _ _ h => h.elim
structure Fun (K : PySem.W.Frag) (x qual : Str) (st : Stmt) (f : Addr) (fd : FuncData) : Prop where
  ex : ∃ (oc : Value) (od : Option Addr) (kV doc pm : Value) (an : Option Addr) (cdv ct : Value) (osl : Array (Option Value)),
    fd = PySem.W.fnOf x qual (defArgs st) (defBody st) (defScope st) .none kV doc pm an cdv ct ∧ K.lookup f = some ⟨oc, od, .func fd, osl⟩ ∧ PySem.W.codeIn K cdv qual = true
  kp : PySem.W.keepIn K (.ref f) = true
section
variable {P : Program} {w : World} {K : PySem.W.Frag} {mg : Str → Option Value} {base : Heap}
theorem Fun.ok {x qual : Str} {st : Stmt} {f : Addr} {fd : FuncData} {N ps : List Str} {k : Nat} {sp : Sp} (F : Fun K x qual st f fd) (S : FnScope N ps (defScope st)) (len : ∀ vs H Q E, sp vs H Q E → vs.length = ps.length)
    (hbody : ∀ (cdv : Value) (A : Around) (outer : List Env) (s : Shared) (H : Hp) (vs : List V) (Q : VK) (E : XK), Room k (A.deeper (envOfC qual (defScope st) s.heap.objs.size f cdv)) → sp vs H Q E →
      ∃ t, PSs (cxOf CX0 P w K mg base N qual (defScope st) f cdv A outer s H E).nox (defBody st) t ∧ t { nx := fun _ H' => Q .non H', rt := Q } (start N vs) H) : FnOk P w K mg base CX0 (k + 1) f fd ps sp := by
  obtain ⟨oc, od, kV, doc, pm, an, cdv, ct, osl, rfl, lk, hcd⟩ := F.ex
  refine fn_of lk hcd S len fun A outer s H vs Q E hr hsp => ?_
  obtain ⟨t, h, q⟩ := hbody cdv A outer s H vs Q E hr hsp
  exact ⟨t, h.nox, q⟩
theorem Fun.binds {x qual : Str} {st : Stmt} {f : Addr} {fd : FuncData} {ps : List Str} (F : Fun K x qual st f fd)
    (h : ∀ (kV doc pm : Value) (an : Option Addr) (cdv ct : Value) (us : List Value), us.length = ps.length → bindArgs (PySem.W.fnOf x qual (defArgs st) (defBody st) (defScope st) .none kV doc pm an cdv ct) ⟨us, []⟩ = pure (ps.zip us)) : Binds K fd ps [] := by
  obtain ⟨oc, od, kV, doc, pm, an, cdv, ct, osl, rfl, lk, hcd⟩ := F.ex
  exact .all (h kV doc pm an cdv ct)
theorem fun_mk {x qual : Str} {st : Stmt} {f : Addr} {oc : Value} {od an : Option Addr} {osl : Array (Option Value)} {kV doc pm cdv ct : Value} (l : K.lookup f = some ⟨oc, od, .func (PySem.W.fnOf x qual (defArgs st) (defBody st) (defScope st) .none kV doc pm an cdv ct), osl⟩)
    (c : PySem.W.codeIn K cdv qual = true) (k : PySem.W.keepIn K (.ref f) = true) : Fun K x qual st f (PySem.W.fnOf x qual (defArgs st) (defBody st) (defScope st) .none kV doc pm an cdv ct) := ⟨⟨oc, od, kV, doc, pm, an, cdv, ct, osl, rfl, l, c⟩, k⟩
end
theorem small1000 {n : Nat} (h : n ≤ 1000) : n < sizeLine := Nat.lt_of_le_of_lt h (by decide)
section
variable {X : Cx}
theorem pv (i : Nat) {x : Str} {pos : Pos} (hN : X.N[i]? = some x := by rfl) (hv : Vis X.env.scope x := by first | exact Or.inl rfl | exact Or.inr (Or.inl rfl) | exact Or.inr (Or.inr rfl)) (hd : (x == ("__debug__" : Str)) = false := by decide)
    (hcd : (x == ("__classdict__" : Str)) = false := by decide) : PE X (.Name x pos) (tVar i) := pe_var hN hv hd hcd
end
theorem ite2 {c A B : Prop} [Decidable c] (h1 : c → A) (h2 : ¬ c → B) : if c then A else B := by
  by_cases h : c
  · rw [if_pos h]
    exact h1 h
  · rw [if_neg h]
    exact h2 h
def Same (H H' : Hp) : Prop := ∀ b o, H b = some o → H' b = some o
theorem Same.refl (H : Hp) : Same H H := fun _ _ h => h
theorem Same.trans {H H1 H2 : Hp} (a : Same H H1) (b : Same H1 H2) : Same H H2 := fun c o h => b c o (a c o h)
theorem Same.free {H H' : Hp} (e : Same H H') {l : Addr} (h : H' l = Option.none) : H l = Option.none := by
  cases q : H l with
  | none => rfl
  | some o =>
    rw [e l o q] at h
    cases h
theorem Same.seq {K : PySem.W.Frag} {H H' : Hp} {a : Addr} {xs : List V} (e : Same H H') (h : SqL K H a xs) : SqL K H' a xs := by
  rcases h with (h | ⟨o, h⟩) | h
  · exact .inl (.inl (e _ _ h))
  · exact .inl (.inr ⟨o, e _ _ h⟩)
  · exact .inr h
end L2
namespace L2
open PySem PySem.Spec PyProof.Rows
section
variable {κ : Type} [DecidableEq κ]
def valV (kvs : List (κ × V)) (k : κ) : Option V := (kvs.find? fun kv => decide (kv.1 = k)).map (·.2)
def putK (kvs : List (κ × V)) (k : κ) (v : V) : List (κ × V) :=
  if (kvs.any fun kv => decide (kv.1 = k)) = true then kvs.map (fun kv => if kv.1 = k then (kv.1, v) else kv) else kvs ++ [(k, v)]
def dropK (kvs : List (κ × V)) (k : κ) : List (κ × V) := kvs.filter fun kv => decide (kv.1 ≠ k)
theorem valV_pos {p : κ × V} {r : List (κ × V)} {k : κ} (e : p.1 = k) : valV (p :: r) k = some p.2 := by simp [valV, List.find?_cons, e]
theorem valV_neg {p : κ × V} {r : List (κ × V)} {k : κ} (e : ¬ p.1 = k) : valV (p :: r) k = valV r k := by simp [valV, List.find?_cons, e]
theorem valV_any (k : κ) : ∀ kvs : List (κ × V), (kvs.any fun kv => decide (kv.1 = k)) = (valV kvs k).isSome
  | [] => rfl
  | p :: r => by
    rw [List.any_cons]
    by_cases e : p.1 = k
    · simp only [valV_pos e, decide_eq_true e, Bool.true_or, Option.isSome_some]
    · rw [valV_neg e, decide_eq_false e, Bool.false_or]; exact valV_any k r
theorem RelO.isSome_eq {o : Option V} {u : Option Value} (r : RelO o u) : o.isSome = u.isSome := by
  cases o with
  | none => cases u with
    | none => rfl
    | some _ => exact (show False from r).elim
  | some _ => cases u with
    | none => exact (show False from r).elim
    | some _ => rfl
theorem RelO.getD {o : Option V} {u : Option Value} {d : V} {d' : Value} (r : RelO o u) (rd : RelV d d') : RelV (o.getD d) (u.getD d') := by
  cases o with
  | none => cases u with
    | none => exact rd
    | some _ => exact (show False from r).elim
  | some _ => cases u with
    | none => exact (show False from r).elim
    | some _ => exact r
theorem KV.val {kvs : List (κ × V)} {vs : List (κ × Value)} (r : KV kvs vs) (k : κ) : RelO (valV kvs k) (valueAt vs k) := by
  unfold KV at r
  induction r with
  | nil => exact True.intro
  | @cons p q ps qs h t ih =>
    obtain ⟨h1, h2⟩ := h
    by_cases e : p.1 = k
    · have e' : q.1 = k := h1.symm.trans e
      have b : valueAt (q :: qs) k = some q.2 := by simp [valueAt, List.find?_cons, e']
      rw [valV_pos e, b]; exact h2
    · have e' : ¬ q.1 = k := fun z => e (h1.trans z)
      have b : valueAt (q :: qs) k = valueAt qs k := by simp [valueAt, List.find?_cons, e']
      rw [valV_neg e, b]; exact ih
theorem KV.any {kvs : List (κ × V)} {vs : List (κ × Value)} (r : KV kvs vs) (k : κ) : (kvs.any fun kv => decide (kv.1 = k)) = vs.any fun kv => decide (kv.1 = k) := by
  unfold KV at r
  induction r with
  | nil => rfl
  | cons h t ih => rw [List.any_cons, List.any_cons, ih, h.1]
theorem KV.repl {kvs : List (κ × V)} {vs : List (κ × Value)} (r : KV kvs vs) (k : κ) {y : V} {u : Value} (ry : RelV y u) :
    KV (kvs.map fun kv => if kv.1 = k then (kv.1, y) else kv) (vs.map fun kv => if kv.1 = k then (kv.1, u) else kv) := by
  unfold KV at r ⊢
  induction r with
  | nil => exact .nil
  | @cons p q ps qs h t ih =>
    rw [List.map_cons, List.map_cons]
    refine .cons ?_ ih
    obtain ⟨h1, h2⟩ := h
    by_cases e : p.1 = k
    · rw [if_pos e, if_pos (h1.symm.trans e)]; exact ⟨h1, ry⟩
    · rw [if_neg e, if_neg (fun z => e (h1.trans z))]; exact ⟨h1, h2⟩
theorem KV.put {kvs : List (κ × V)} {vs : List (κ × Value)} (r : KV kvs vs) (k : κ) {y : V} {u : Value} (ry : RelV y u) : KV (putK kvs k y) (stored vs k u) := by
  unfold putK stored
  rw [r.any k]
  by_cases e : (vs.any fun kv => decide (kv.1 = k)) = true
  · rw [if_pos e, if_pos e]; exact r.repl k ry
  · rw [if_neg e, if_neg e]; exact Paired.snoc r ⟨rfl, ry⟩
theorem KV.drop {kvs : List (κ × V)} {vs : List (κ × Value)} (r : KV kvs vs) (k : κ) : KV (dropK kvs k) (without vs k) := by
  unfold KV at r ⊢
  unfold dropK without
  induction r with
  | nil => exact .nil
  | @cons p q ps qs h t ih =>
    obtain ⟨h1, h2⟩ := h
    rw [List.filter_cons, List.filter_cons]
    by_cases e : p.1 = k
    · have a : ¬ decide (p.1 ≠ k) = true := by simp [e]
      have b : ¬ decide (q.1 ≠ k) = true := by simp [h1.symm.trans e]
      rw [if_neg a, if_neg b]; exact ih
    · have e' : ¬ q.1 = k := fun z => e (h1.trans z)
      have a : decide (p.1 ≠ k) = true := by simp [e]
      have b : decide (q.1 ≠ k) = true := by simp [e']
      rw [if_pos a, if_pos b]; exact .cons ⟨h1, h2⟩ ih
theorem KV.length {kvs : List (κ × V)} {vs : List (κ × Value)} (r : KV kvs vs) : kvs.length = vs.length := Paired.length r
end
theorem kV_is {P : Program} {w : World} {k : Key} {u : Value} (r : RelV (kV k) u) : (mixKind P w).is k u = true := by
  cases k with
  | inl i => obtain ⟨t, e⟩ := (show ∃ t, u = Value.int i t from r); subst e; exact mixKind_int P w i t
  | inr x => obtain ⟨t, e⟩ := (show ∃ t, u = Value.str x t from r); subst e; exact mixKind_str P w x t
abbrev KT (H : Hp) : List (List Key × V) → List (List Key × Addr × Value) → Prop := Paired fun p q => p.1 = q.1 ∧ H q.2.1 = some (.tup (p.1.map kV)) ∧ RelV p.2 q.2.2
theorem KT.val {H : Hp} {kvs : List (List Key × V)} {xs : List (List Key × Addr × Value)} (r : KT H kvs xs) (k : List Key) : RelO (valV kvs k) ((atKey xs k).map (·.2)) := by
  induction r with
  | nil => exact True.intro
  | @cons p q ps qs h t ih =>
    obtain ⟨h1, _, h2⟩ := h
    by_cases e : p.1 = k
    · have e' : q.1 = k := h1.symm.trans e
      have b : atKey (q :: qs) k = some q.2 := by simp [atKey, List.find?_cons, e']
      rw [valV_pos e, b]; exact h2
    · have e' : ¬ q.1 = k := fun z => e (h1.trans z)
      have b : atKey (q :: qs) k = atKey qs k := by simp [atKey, List.find?_cons, e']
      rw [valV_neg e, b]; exact ih
theorem KT.repl {H : Hp} {kvs : List (List Key × V)} {xs : List (List Key × Addr × Value)} (r : KT H kvs xs) (k : List Key) {y : V} {u : Value} (ry : RelV y u) :
    KT H (kvs.map fun kv => if kv.1 = k then (kv.1, y) else kv) (xs.map (putAt k u)) := by
  induction r with
  | nil => exact .nil
  | @cons p q ps qs h t ih =>
    rw [List.map_cons, List.map_cons]
    refine .cons ?_ ih
    obtain ⟨h1, h2, h3⟩ := h
    unfold putAt
    by_cases e : p.1 = k
    · rw [if_pos e, if_pos (h1.symm.trans e)]; exact ⟨h1, h2, ry⟩
    · rw [if_neg e, if_neg (fun z => e (h1.trans z))]; exact ⟨h1, h2, h3⟩
theorem KT.put {H : Hp} {kvs : List (List Key × V)} {xs : List (List Key × Addr × Value)} (r : KT H kvs xs) (k : List Key) {b : Addr} {y : V} {u : Value} (hb : H b = some (.tup (k.map kV))) (ry : RelV y u) :
    KT H (putK kvs k y) (storedH xs k b u) := by
  have e : (kvs.any fun kv => decide (kv.1 = k)) = (atKey xs k).isSome := by
    rw [valV_any, (r.val k).isSome_eq, Option.isSome_map]
  unfold putK storedH
  rw [e]
  by_cases q : (atKey xs k).isSome = true
  · rw [if_pos q, if_pos q]; exact r.repl k ry
  · rw [if_neg q, if_neg q]; exact Paired.snoc r ⟨rfl, hb, ry⟩
theorem KT.keeps {H H' : Hp} {kvs : List (List Key × V)} {xs : List (List Key × Addr × Value)} (r : KT H kvs xs) (ht : ∀ b ys, H b = some (.tup ys) → H' b = some (.tup ys)) : KT H' kvs xs :=
  Paired.mapP r fun _ _ z => ⟨z.1, ht _ _ z.2.1, z.2.2⟩
def DGet (H : Hp) (a : Addr) (y : V) (r : Option V) : Prop :=
  (∃ kvs k, Rd H a (.dK kvs) ∧ y = kV k ∧ r = valV kvs k) ∨ ∃ kvs k b, Rd H a (.dT kvs) ∧ y = .ref b ∧ H b = some (.tup (k.map kV)) ∧ r = valV kvs k
def DPut (H : Hp) (a : Addr) (y v : V) (H' : Hp) : Prop :=
  (∃ kvs k, H a = some (.dK kvs) ∧ y = kV k ∧ kvs.length < sizeLine ∧ H' = upd H a (.dK (putK kvs k v))) ∨
  ∃ kvs k b, H a = some (.dT kvs) ∧ y = .ref b ∧ H b = some (.tup (k.map kV)) ∧ kvs.length < sizeLine ∧ H' = upd H a (.dT (putK kvs k v))
theorem DGet.k {H : Hp} {a : Addr} {kvs : List (Key × V)} {k : Key} (e : H a = some (.dK kvs)) : DGet H a (kV k) (valV kvs k) := .inl ⟨kvs, k, .inl e, rfl, rfl⟩
theorem DGet.t {H : Hp} {a b : Addr} {kvs : List (List Key × V)} {k : List Key} (e : H a = some (.dT kvs)) (eb : H b = some (.tup (k.map kV))) : DGet H a (.ref b) (valV kvs k) := .inr ⟨kvs, k, b, .inl e, rfl, eb, rfl⟩
theorem DPut.k {H : Hp} {a : Addr} {kvs : List (Key × V)} {k : Key} {v : V} (e : H a = some (.dK kvs)) (hl : kvs.length < sizeLine) : DPut H a (kV k) v (upd H a (.dK (putK kvs k v))) := .inl ⟨kvs, k, e, rfl, hl, rfl⟩
theorem DPut.t {H : Hp} {a b : Addr} {kvs : List (List Key × V)} {k : List Key} {v : V} (e : H a = some (.dT kvs)) (eb : H b = some (.tup (k.map kV))) (hl : kvs.length < sizeLine) :
    DPut H a (.ref b) v (upd H a (.dT (putK kvs k v))) := .inr ⟨kvs, k, b, e, rfl, eb, hl, rfl⟩
def NoSl (i : Expr) : Prop := ∀ ov iv, subscripted i false ov iv = operate [ov, iv] (getItem ov iv)
theorem subD_of {prog : Program} {w : World} {A : Around} {E : Value → Shared → Prop} {s : Shared} {env : Env} {value slice : Expr} {pos : Pos} {T id : String} {Q : Value → Shared → Prop}
    (hl : typeLookup (.type T) "__getitem__" = pure (some (.builtin id))) (hs : NoSl slice)
    (h : wpAny (model prog w) A (eval value env) (fun o s₁ => wpAny (model prog w) A (eval slice env) (fun i s₂ => s₂.TypeIs o T ∧ wpAny (model prog w) A (getItem o i) Q E s₂) E s₁) E s) :
    wpAny (model prog w) A (eval (.Subscript value slice pos) env) Q E s := by
  refine Subscript_ (wpAny_mono h (fun o s₁ h₁ => wpAny_mono h₁ (fun i s₂ h₂ => ?_) fun _ _ x => x) fun _ _ x => x)
  obtain ⟨hT, h₂⟩ := h₂
  unfold subscriptTail
  refine wpAny_bind ?_
  rw [getitemInPython_of_ne hT.not_modules]
  refine wpAny_bind (wpAny_specialOf hT hl ?_)
  have fin : wpAny (model prog w) A (subscripted slice false o i) (fun r s₃ => wpAny (model prog w) A (letTemporaryGo value o r >>= fun _ => pure r) Q E s₃) E s₂ := by
    rw [hs o i]
    exact wpAny_operating (wpAny_mono h₂ (fun r s₃ h₃ => wpAny_bind (wpAny_letTemporaryGo (wpAny_pure h₃))) fun _ _ x => x)
  first
    | exact wpAny_pure (wpAny_bind fin)
    | exact wpAny_bind (wpAny_pure (wpAny_bind fin))
    | exact wpAny_bind fin
structure M1 (X : Cx) (o : Expr) (m : Str) (apos : Pos) (e : Expr) (cpos : Pos) : Prop where
  base : attributeBase o m X.env (eval o X.env) = eval o X.env
  few : ((backTo cpos (starEach [e] X.env)).all (fun x => !x.1) && (backToKw cpos (keywordEach [] X.env)).all (fun x => x.1.isSome)
    && decide (([e] : List Expr).length + ([] : List Keyword).length + (if ([] : List Keyword).isEmpty then 0 else 1) < 30)) = true
  line : (apos.endLine == cpos.line) = true
  trees : backTo cpos (starEach [e] X.env) = [(false, eval e X.env)]
structure M2 (X : Cx) (o : Expr) (m : Str) (apos : Pos) (e f : Expr) (cpos : Pos) : Prop where
  base : attributeBase o m X.env (eval o X.env) = eval o X.env
  few : ((backTo cpos (starEach [e, f] X.env)).all (fun x => !x.1) && (backToKw cpos (keywordEach [] X.env)).all (fun x => x.1.isSome)
    && decide (([e, f] : List Expr).length + ([] : List Keyword).length + (if ([] : List Keyword).isEmpty then 0 else 1) < 30)) = true
  line : (apos.endLine == cpos.line) = true
  trees : backTo cpos (starEach [e, f] X.env) = [(false, eval e X.env), (false, eval f X.env)]
end L2
namespace L2
open PySem PySem.Spec PyProof.Rows
structure Dn (K : PySem.W.Frag) (mg : Str → Option Value) (x : Str) (st : Stmt) (ps : List Str) (f : Addr) (fd : FuncData) : Prop where
  F : Fun K x x st f fd
  b : Binds K fd ps []
  m : mg x = some (.ref f)
section
variable {X : Cx} {x : Str} {st : Stmt} {ps : List Str} {f : Addr} {fd : FuncData} {k : Nat} {sp : Sp} {p pos : Pos} {e : Expr} {es : List Expr} {t : TA}
theorem pe_fn (D : Dn X.K X.mg x st ps f fd) (G : FnOk X.prog X.w X.K X.mg X.base CX0 k f fd ps sp) (hr : Room k X.A) (hg : Gl X x) (ha : PA X (e :: es) t)
    (hdb : (x == ("__debug__" : Str)) = false := by decide) (he : starEach (e :: es) X.env = (false, eval e X.env) :: starEach es X.env := by rfl) (hpl : (backTo pos (starEach es X.env)).any (·.1) = false := by rfl) :
    PE X (.Call (.Name x p) (e :: es) [] pos) (tCall sp [] E0 t) := pe_call G hr hg D.m D.F.kp D.b .nil pass0 ha hdb he hpl
end
theorem Same.seqT {K : PySem.W.Frag} {H H' : Hp} {a : Addr} {xs : List V} (e : Same H H') (h : SqT K H a xs) : SqT K H' a xs := by
  rcases h with (h | ⟨o, h⟩) | h
  · exact .inl (.inl (e _ _ h))
  · exact .inl (.inr ⟨o, e _ _ h⟩)
  · exact .inr h
theorem same_new {H : Hp} {p : Addr} (h : H p = none) (o : HO) : Same H (upd H p o) := fun b u q => by rw [upd_ne (ne_of_none q h)]; exact q
theorem small {n : Nat} (h : n ≤ 1000) : n ≤ sizeLine := Nat.le_of_lt (small1000 h)
def tyName (H : Hp) : V → Option String
  | .non => some "NoneType"
  | .bl _ => some "bool"
  | .int _ => some "int"
  | .str _ => some "str"
  | .ref a => match H a with
    | some (.lst _) => some "list"
    | some (.frz _ (.lst _)) => some "list"
    | some (.tup _) => some "tuple"
    | some (.dK _) => some "dict"
    | _ => none
  | _ => none
def isKit (t c : String) : Bool := decide (t = c) || (decide (t = "bool") && decide (c = "int"))
def kinds : List String := ["NoneType", "bool", "int", "str", "list", "tuple", "dict"]
theorem kit_base (K : PySem.W.Frag) : ∀ t ∈ kinds, ∀ c ∈ ["bool", "int", "str", "list", "tuple", "dict"], PySem.W.kitOne K (.type t) (.type c) = some (isKit t c) := by
  intro t ht c hc
  simp only [kinds, List.mem_cons, List.not_mem_nil, or_false] at ht hc
  rcases ht with rfl | rfl | rfl | rfl | rfl | rfl | rfl <;> rcases hc with rfl | rfl | rfl | rfl | rfl | rfl <;> rfl
theorem tyName_of {K : PySem.W.Frag} {H : Hp} {x : V} {t : String} (h : tyName H x = some t) : TyOf K H x (.type t) ∧ t ∈ kinds := by
  cases x with
  | non => cases h; exact ⟨.non, by decide⟩
  | bl b => cases h; exact ⟨.bl b, by decide⟩
  | int i => cases h; exact ⟨.int i, by decide⟩
  | str x => cases h; exact ⟨.str x, by decide⟩
  | ref a =>
    have h' : (match H a with
      | some (.lst _) => some "list"
      | some (.frz _ (.lst _)) => some "list"
      | some (.tup _) => some "tuple"
      | some (.dK _) => some "dict"
      | _ => none) = some t := h
    cases e : H a with
    | none => rw [e] at h'; cases h'
    | some o =>
      rw [e] at h'
      cases o with
      | lst xs => cases h'; exact ⟨.lst e, by decide⟩
      | tup xs => cases h'; exact ⟨.tup e, by decide⟩
      | dK kvs => cases h'; exact ⟨.dK e, by decide⟩
      | frz ob u =>
        cases u with
        | lst xs => cases h'; exact ⟨.frz e, by decide⟩
        | _ => cases h'
      | _ => cases h'
  | _ => cases h
section
variable {X : Cx}
theorem call_isi : CallR X (.builtin "isinstance") (fun xs H Q => ∃ x c t, xs = [x, .ty c] ∧ tyName H x = some t ∧ c ∈ ["bool", "int", "str", "list", "tuple", "dict"] ∧ Q (.bl (isKit t c)) H) := by
  intro pins s σ H xs us Q I r h
  obtain ⟨x, c, t, rfl, ht, hc, q⟩ := h
  obtain ⟨u, v, rfl, rx, rc⟩ := vals2 r
  cases (show v = Value.type c from rc)
  obtain ⟨ty, hk⟩ := tyName_of (K := X.K) ht
  exact isinst_ok I rx ty (kit_base X.K t hk c hc) fun tk => ⟨.bl (isKit t c), H, I.tok tk, rfl, q⟩
def sLt (i j : Str) : Bool := decide (i.cps.toList < j.cps.toList)
theorem op_le_str : OpR X (compareOp .LtE) (fun x y H Q => ∃ i j, x = .str i ∧ y = .str j ∧ Q (.bl (!sLt j i)) H) := by
  intro pins s σ H x y v u Q I rx ry h
  obtain ⟨i, j, rfl, rfl, q⟩ := h
  obtain ⟨t, rfl⟩ := rx
  obtain ⟨t', rfl⟩ := ry
  exact PySem.P.le_str (fin_bl I q rfl)
end
end L2
namespace L2
open PySem PySem.Spec PyProof.Rows
theorem closure_go {env : Env} : ∀ (names : List (Str × NameKind)) (cs : List (Str × Addr)),
    (∀ y ∈ names, y.2 = .free → ∃ c, env.cells.lookup y.1 = some c) → (∀ x c, cs.lookup x = some c → env.cells.lookup x = some c) →
    ∃ cl, (forIn names cs fun (y : Str × NameKind) (r : List (Str × Addr)) =>
        (if (y.2 == .free) = true then (do let a ← cellOf env y.1; pure (ForInStep.yield ((y.1, a) :: r))) else pure (ForInStep.yield r) : Sem (ForInStep (List (Str × Addr))))) = pure cl ∧
      (∀ x c, cl.lookup x = some c → env.cells.lookup x = some c) ∧ (∀ x c, cs.lookup x = some c → ∃ c', cl.lookup x = some c') ∧ (∀ y ∈ names, y.2 = .free → ∃ c, cl.lookup y.1 = some c)
  | [], cs, _, hc => ⟨cs, rfl, hc, fun x c h => ⟨c, h⟩, fun y hy => absurd hy (List.not_mem_nil)⟩
  | (n, k) :: r, cs, hn, hc => by
    have hr : ∀ y ∈ r, y.2 = .free → ∃ c, env.cells.lookup y.1 = some c := fun y hy => hn y (List.mem_cons_of_mem _ hy)
    by_cases hk : k = .free
    · subst hk
      obtain ⟨c, e⟩ := hn (n, .free) List.mem_cons_self rfl
      have hc' : ∀ x c', ((n, c) :: cs).lookup x = some c' → env.cells.lookup x = some c' := fun x c' h => by
        rw [List.lookup_cons] at h
        cases hx : x == n with
        | true =>
          rw [hx] at h
          have e1 : x = n := by simpa using hx
          have e2 : c = c' := Option.some.inj h
          rw [e1, ← e2]; exact e
        | false => rw [hx] at h; exact hc x c' h
      obtain ⟨cl, h1, h2, h3, h4⟩ := closure_go (env := env) r ((n, c) :: cs) hr hc'
      refine ⟨cl, ?_, h2, fun x c' h => ?_, fun y hy hf => ?_⟩
      · rw [List.forIn_cons]
        have e0 : cellOf env n = pure c := by unfold cellOf; rw [e]
        simp only [e0]
        exact h1
      · cases hx : x == n with
        | true =>
          have e1 : x = n := by simpa using hx
          exact h3 x c (by rw [List.lookup_cons, hx])
        | false => exact h3 x c' (by rw [List.lookup_cons, hx]; exact h)
      · rcases List.mem_cons.mp hy with e1 | hy
        · rw [e1]; exact h3 n c (by rw [List.lookup_cons]; simp)
        · exact h4 y hy hf
    · obtain ⟨cl, h1, h2, h3, h4⟩ := closure_go (env := env) r cs hr hc
      refine ⟨cl, ?_, h2, h3, fun y hy hf => ?_⟩
      · rw [List.forIn_cons]
        have e0 : (k == NameKind.free) = false := by simpa using hk
        simp only [e0]
        exact h1
      · rcases List.mem_cons.mp hy with e1 | hy
        · rw [e1] at hf; exact absurd hf hk
        · exact h4 y hy hf
theorem closure_ok {env : Env} {scope : Scope} (h : ∀ y ∈ scope.names, y.2 = .free → ∃ c, env.cells.lookup y.1 = some c) :
    ∃ cl, closureFor scope env = pure cl ∧ (∀ x c, cl.lookup x = some c → env.cells.lookup x = some c) ∧ (∀ y ∈ scope.names, y.2 = .free → ∃ c, cl.lookup y.1 = some c) := by
  obtain ⟨cl, h1, h2, _, h4⟩ := closure_go (env := env) scope.names [] h (fun x c e => by simp at e)
  refine ⟨cl, ?_, h2, h4⟩
  have e : ((forIn scope.names [] fun (y : Str × NameKind) (r : List (Str × Addr)) =>
        (if (y.2 == .free) = true then (do let a ← cellOf env y.1; pure (ForInStep.yield ((y.1, a) :: r))) else pure (ForInStep.yield r) : Sem (ForInStep (List (Str × Addr))))) >>= fun s => pure s) = pure cl := by rw [h1]; rfl
  exact e
structure CScope (sc : Scope) (NX N : List Str) (pick : List (Option Nat)) (scope : Scope) : Prop where
  kind : scope.kind = .function
  nocell : ∀ y ∈ scope.names, y.2 ≠ .cell
  names : ∀ y ∈ scope.names, y.2 = .local → scope.names.lookup y.1 = some .local
  frees : ∀ y ∈ scope.names, y.2 = .free → sc.names.lookup y.1 = some .cell ∨ sc.names.lookup y.1 = some .free
  pk : ∀ p ∈ N.zip pick, ∀ j ∈ p.2, NX[j]? = some p.1 ∧ scope.names.lookup p.1 = some .free
  nd : N.Nodup
  len : pick.length = N.length
def subS (pick : List (Option Nat)) (σ : St) : St := pick.map fun o => o.bind fun j => (σ[j]?).join
def cxB (X : Cx) (N : List Str) (scope : Scope) (cl : List (Str × Addr)) (fp : List Addr) (s : Shared) (H : Hp) : Cx where
  prog := X.prog
  w := X.w
  K := X.K
  mg := X.mg
  base := X.base
  A := X.A
  N := N
  s₀ := s
  H₀ := H
  env := compEnvC scope cl s.heap.objs.size X.env
  outer := X.stack
  stack := X.stack
  ex := fp
  fn := fun _ => false
  calm := X.calm
  pn := []
  xe := fun _ _ => False
def PTs (X : Cx) (ifs : List Expr) (t : TT) : Prop :=
  ∀ (pins : List (Addr × Obj)) (s : Shared) (σ : St) (H : Hp) (Q : Bool → Hp → Prop), Inv X pins σ H s → t σ H Q →
    wpAny (model X.prog X.w) X.A (forIn ifs true fun c r => if r = true then do let ok ← isTrue c X.env (eval c X.env); pure (ForInStep.yield ok) else pure (ForInStep.yield r)) (TP X pins σ Q) X.xe s
def tYes : TT := fun _ H Q => Q true H
theorem ct_nil {X : Cx} : PTs X [] tYes := fun pins s σ H Q I h => wpAny_tests_nil ⟨H, I, h⟩
theorem ct_one {X : Cx} {c : Expr} {t : TT} (h : PT X c t) : PTs X [c] t := fun pins s σ H Q I q => wpAny_tests_one (h pins s σ H Q I q)
section
variable {prog : Program} {w : World} {A : Around} {R : Result → Shared → Prop} {s : Shared}
theorem comp_loop {elt target iter : Expr} {ifs : List Expr} {scope : Scope} {pos : Pos} {it acc : Value} {env : Env} (I : Nat → Shared → Prop)
    (turn : ∀ n s, I n s → wpAny (model prog w) A (pyNext it) (fun r s1 => match r with
      | none => R (.ok .next) s1
      | some v => wpAny (model prog w) A (letOwnedTupleGo target it v) (fun _ s1 => wpAny (model prog w) A (assign target env v) (fun _ s2 =>
          wpAny (model prog w) A (forIn ifs true fun c r => if r = true then do let ok ← isTrue c env (eval c env); pure (ForInStep.yield ok) else pure (ForInStep.yield r)) (fun ok s3 =>
            if ok = true then wpAny (model prog w) A (eval elt env) (fun x s4 =>
              wpAny (model prog w) A (call (.builtin "list.append") [acc, x]) (fun _ s5 => ∃ m, m < n ∧ I m s5) (fun _ _ => False) s4) (fun _ _ => False) s3
            else ∃ m, m < n ∧ I m s3) (fun _ _ => False) s2) (fun _ _ => False) s1) (fun _ _ => False) s1) (fun _ _ => False) s)
    (n : Nat) (h : I n s) : codeAny (model prog w) A (.compLoop (.ListComp elt [⟨target, iter, ifs, 0⟩] scope pos) 0 it acc env) R s := by
  refine codeAny_loop rfl I (fun n s hI => ?_) n h
  show wpAny _ A ((compTurn (.ListComp elt [⟨target, iter, ifs, 0⟩] scope pos) 0 it acc env).onRaise (fun x => do noteFrame x env; theTreesLotGoes x)) _ _ s
  refine wpAny_noted ?_
  rw [compTurn_list]
  refine wpAny_bind (wpAny_standAt (wpAny_bind (wpAny_mono (turn n s hI) (fun r s1 h1 => ?_) fun _ _ z => z.elim)))
  cases r with
  | none => exact wpAny_pure h1
  | some v =>
    refine wpAny_bind (wpAny_mono h1 (fun _ s1 h1 => wpAny_bind (wpAny_mono h1 (fun _ s2 h2 => wpAny_bind (wpAny_mono h2 (fun ok s3 h3 => ?_) fun _ _ z => z.elim)) fun _ _ z => z.elim)) fun _ _ z => z.elim)
    cases ok with
    | false => exact wpAny_pure ⟨rfl, h3⟩
    | true =>
      exact wpAny_bind (wpAny_bind (wpAny_mono h3 (fun x s4 h4 => wpAny_bind (wpAny_mono h4 (fun _ s5 h5 => wpAny_pure (wpAny_pure ⟨rfl, h5⟩)) fun _ _ z => z.elim)) fun _ _ z => z.elim))
end
def tCompK (pick : List (Option Nat)) (wi : TI) (g : TG) (tt : TT) (te : TE) (σ : St) (H : Hp) (Q : Addr → Hp → Prop) : Prop := wi σ H fun J H1 => ∀ D, H1 D = none →
  ∃ W : Nat → Nat → St → Hp → Prop, (∃ m, W 0 m (subS pick σ) (upd H1 D (.lst []))) ∧ ∀ i m σ' H', W i m σ' H' →
    (J.stop i H' ∧ Q D H') ∨ (J.go i H' ∧ ∀ x H2, J.yld i H' x H2 → g x σ' H2 fun σ3 H3 => tt σ3 H3 fun b H4 =>
      if b = true then te σ3 H4 fun y H5 => ∃ ys, H5 D = some (.lst ys) ∧ ys.length < sizeLine ∧ ∃ m', m' < m ∧ W (i + 1) m' σ3 (upd H5 D (.lst (ys ++ [y]))) else ∃ m', m' < m ∧ W (i + 1) m' σ3 H4)
def tComp (pick : List (Option Nat)) (wi : TI) (g : TG) (tt : TT) (te : TE) : TE := fun σ H Q => tCompK pick wi g tt te σ H fun D H' => Q (.ref D) H'
section
variable {X : Cx} {sc : Scope} {NX N : List Str} {pick : List (Option Nat)} {elt tg iter : Expr} {ifs : List Expr} {scope : Scope} {pos : Pos} {wi : TI} {g : TG} {tt : TT} {te : TE}
theorem lookup_relabel_free {env : Env} : ∀ {names : List (Str × NameKind)} {x : Str} {k : NameKind}, (∀ y ∈ names, y.2 ≠ .cell) →
    (names.map fun (n, k) => if (k == NameKind.free && env.scope.kind == .function && env.kindOf n == some .cell) then (n, NameKind.cell) else (n, k)).lookup x = some k → (k = .cell ∨ k = .free) → (x, NameKind.free) ∈ names
  | [], _, _, _, h, _ => by simp at h
  | (n, k0) :: r, x, k, hn, h, hk => by
    have hr : ∀ y ∈ r, y.2 ≠ .cell := fun y hy => hn y (List.mem_cons_of_mem _ hy)
    have h' : List.lookup x ((if (k0 == NameKind.free && env.scope.kind == .function && env.kindOf n == some .cell) = true then (n, NameKind.cell) else (n, k0)) :: (r.map fun (n, k) => if (k == NameKind.free && env.scope.kind == .function && env.kindOf n == some .cell) then (n, NameKind.cell) else (n, k))) = some k := h
    by_cases hc : (k0 == NameKind.free && env.scope.kind == .function && env.kindOf n == some .cell) = true
    · rw [if_pos hc, List.lookup_cons] at h'
      cases hx : x == n with
      | true =>
        have e1 : x = n := by simpa using hx
        have e2 : k0 = .free := by
          simp only [Bool.and_eq_true, beq_iff_eq] at hc
          exact hc.1.1
        rw [e1, e2]; exact List.mem_cons_self
      | false => rw [hx] at h'; exact List.mem_cons_of_mem _ (lookup_relabel_free hr h' hk)
    · rw [if_neg hc, List.lookup_cons] at h'
      cases hx : x == n with
      | true =>
        rw [hx] at h'
        have e1 : x = n := by simpa using hx
        have e2 : k0 = k := Option.some.inj h'
        have e3 : k0 = .free := by
          rcases hk with z | z
          · exact absurd (e2.trans z) (hn (n, k0) List.mem_cons_self)
          · exact e2.trans z
        rw [e1, e3]; exact List.mem_cons_self
      | false => rw [hx] at h'; exact List.mem_cons_of_mem _ (lookup_relabel_free hr h' hk)
theorem relabel_of_free {env : Env} : ∀ {names : List (Str × NameKind)} {x : Str}, names.lookup x = some .free →
    (names.map fun (n, k) => if (k == NameKind.free && env.scope.kind == .function && env.kindOf n == some .cell) then (n, NameKind.cell) else (n, k)).lookup x = some .cell ∨
    (names.map fun (n, k) => if (k == NameKind.free && env.scope.kind == .function && env.kindOf n == some .cell) then (n, NameKind.cell) else (n, k)).lookup x = some .free
  | [], _, h => by simp at h
  | (n, k0) :: r, x, h => by
    have ih := @relabel_of_free env r x
    show List.lookup x ((if (k0 == NameKind.free && env.scope.kind == .function && env.kindOf n == some .cell) = true then (n, NameKind.cell) else (n, k0)) :: _) = _ ∨ List.lookup x ((if (k0 == NameKind.free && env.scope.kind == .function && env.kindOf n == some .cell) = true then (n, NameKind.cell) else (n, k0)) :: _) = _
    rw [List.lookup_cons] at h
    cases hx : x == n with
    | true =>
      rw [hx] at h
      have e : k0 = .free := Option.some.inj h
      subst e
      by_cases hc : (NameKind.free == NameKind.free && env.scope.kind == .function && env.kindOf n == some .cell) = true
      · rw [if_pos hc]; left; rw [List.lookup_cons, hx]
      · rw [if_neg hc]; right; rw [List.lookup_cons, hx]
    | false =>
      rw [hx] at h
      rcases ih h with z | z
      · left
        by_cases hc : (k0 == NameKind.free && env.scope.kind == .function && env.kindOf n == some .cell) = true
        · rw [if_pos hc, List.lookup_cons, hx]; exact z
        · rw [if_neg hc, List.lookup_cons, hx]; exact z
      · right
        by_cases hc : (k0 == NameKind.free && env.scope.kind == .function && env.kindOf n == some .cell) = true
        · rw [if_pos hc, List.lookup_cons, hx]; exact z
        · rw [if_neg hc, List.lookup_cons, hx]; exact z
theorem inv_block {pins : List (Addr × Obj)} {σ : St} {H : Hp} {s : Shared} {cl : List (Str × Addr)} {fp : List Addr} {h' : Heap} {tk : Nat} (S : CScope sc NX N pick scope) (hsc : X.env.scope = sc) (hNX : X.N = NX)
    (I : Inv X pins σ H s) (hf : ∀ b ∈ fp, FpOk X pins H b) (ho : ∀ b ∈ fp, ∃ o, s.heap.get? b = some o)
    (c1 : ∀ x c, cl.lookup x = some c → X.env.cells.lookup x = some c) (c2 : ∀ y ∈ scope.names, y.2 = .free → ∃ c, cl.lookup y.1 = some c)
    (hns : h'.Ns s.heap.objs.size fun _ => none) (hk : ∀ b o, s.heap.get? b = some o → h'.get? b = some o) :
    Inv (cxB X N scope cl fp s H) [] (subS pick σ) H { s with heap := h', toks := tk } := by
  have lt : ∀ b ∈ fp, b < s.heap.objs.size := fun b hb => by obtain ⟨o, e⟩ := ho b hb; exact Heap.lt_size e
  refine ⟨⟨I.ok.mod, S.kind, I.ok.glob, I.ok.blt, Nat.le_refl _, fun x y c h1 h2 => I.ok.inj x y c (c1 x c h1) (c1 y c h2), fun x hx => ?_, fun x c z => absurd z (by simp [cxB]), I.ok.hd, I.ok.frames, .inl rfl,
    fun b hb => ⟨Nat.ne_of_lt (lt b hb), fun x c e => (hf b hb).2.2.2.2.1 x c (c1 x c e)⟩, I.bs, Nat.le_trans I.ok.bsz I.sz, fun b o e hb => ?_, fun b hb z => ?_, I.stack, I.stkFree⟩,
    rfl, I.bare, Un.kept hk, ⟨_, hns, fun i x v h1 h2 h3 => ?_⟩, fun x c e => ?_, I.hok.fresh (Nat.le_refl _), fun x c e => I.freeC x c (c1 x c e), fun p hp => absurd (show p ∈ ([] : List (Addr × Obj)) from hp) (by simp), I.hok.kept hk, ?_⟩
  · have hx' : (relabel scope X.env).names.lookup x = some .cell ∨ (relabel scope X.env).names.lookup x = some .free := hx
    have hm : (x, NameKind.free) ∈ scope.names := by
      rcases hx' with z | z
      · exact lookup_relabel_free S.nocell z (.inl rfl)
      · exact lookup_relabel_free S.nocell z (.inr rfl)
    exact c2 _ hm rfl
  · rcases (hf b hb).2.2.2.1 with z | z
    · exact I.ok.noex b o e z
    · exact absurd (Nat.lt_of_lt_of_le (Heap.lt_size e) (Nat.le_trans I.ok.bsz z)) (Nat.lt_irrefl _)
  · rcases List.mem_cons.mp (I.stkSub b z) with z | z
    · exact (hf b hb).2.1 z
    · exact (hf b hb).2.2.1 z
  ·
    have hN' : N[i]? = some x := h1
    have h2' : (subS pick σ)[i]? = some (some v) := h2
    unfold subS at h2'
    rw [List.getElem?_map] at h2'
    cases ep : pick[i]? with
    | none => rw [ep] at h2'; cases h2'
    | some o =>
      rw [ep] at h2'
      cases o with
      | none => cases h2'
      | some j =>
        have h4 : (σ[j]?).join = some v := Option.some.inj h2'
        have h5 : σ[j]? = some (some v) := by
          cases e : σ[j]? with
          | none => rw [e] at h4; cases h4
          | some q => rw [e] at h4; exact congrArg some h4
        have hz : (x, some j) ∈ N.zip pick := by
          refine List.mem_of_getElem? (i := i) ?_
          rw [List.getElem?_zip_eq_some]; exact ⟨hN', ep⟩
        obtain ⟨h6, h7⟩ := S.pk _ hz j rfl
        have hfr : (x, NameKind.free) ∈ scope.names := PySem.mem_of_lookup h7
        have hcf := S.frees _ hfr rfl
        have hcf' : X.env.kindOf x = some .cell ∨ X.env.kindOf x = some .free := by
          show X.env.scope.names.lookup x = _ ∨ X.env.scope.names.lookup x = _
          rw [hsc]; exact hcf
        obtain ⟨m, hn, hl⟩ := I.loc
        obtain ⟨u, ru, lk⟩ := hl j x v (by rw [hNX]; exact h6) h5 (.inr hcf')
        refine ⟨u, ru, .inr ⟨relabel_of_free h7, ?_⟩⟩
        obtain ⟨c, ec⟩ := c2 _ hfr rfl
        refine ⟨c, ec, ?_⟩
        rcases lk with ⟨k1, _⟩ | ⟨_, c', ec', hcell⟩
        · rcases hcf' with z | z
          · rw [k1] at z; cases z
          · rw [k1] at z; cases z
        · have e' := c1 x c ec
          rw [ec'] at e'
          cases e'
          obtain ⟨o, e1, e2⟩ := hcell
          exact ⟨o, hk _ _ e1, e2⟩
  · obtain ⟨v, o, e1, e2⟩ := I.cell x c (c1 x c e)
    exact ⟨v, o, hk _ _ e1, e2⟩
  · show (subS pick σ).length = N.length
    unfold subS
    rw [List.length_map]; exact S.len
theorem inv_behind {pins : List (Addr × Obj)} {σ σ' : St} {H H' : Hp} {s s' : Shared} {cl : List (Str × Addr)} {fp : List Addr} (I : Inv X pins σ H s) (hf : ∀ b ∈ fp, FpOk X pins H b)
    (J : Inv (cxB X N scope cl fp s H) [] σ' H' s') : Inv X pins σ H' s' :=
  I.call' (ch := fp) J.os J.base J.hok J.bare fun b hb => ⟨(hf b hb).2.2.2.1, (hf b hb).2.1, (hf b hb).2.2.2.2.1, (hf b hb).2.2.2.2.2⟩
theorem comp_block {pins : List (Addr × Obj)} {σ : St} {H2 : Hp} {s2 : Shared} {cl : List (Str × Addr)} {J : It} {fp : List Addr} {it : Addr} {tn : Nat → Heap → Prop} {RR : Value → Addr → Result → Shared → Prop} {E : Value → Shared → Prop} {Q : Addr → Hp → Prop}
    (S : CScope sc NX N pick scope) (hsc : X.env.scope = sc) (hNX : X.N = NX) (hc : X.calm = true)
    (hg : ∀ cl fp s H, PG (cxB X N scope cl fp s H) tg g) (ht : ∀ cl fp s H, PTs (cxB X N scope cl fp s H) ifs tt) (he : ∀ cl fp s H, PE (cxB X N scope cl fp s H) elt te)
    (I2 : Inv X pins σ H2 s2) (T : Turn X.prog X.w X.K tg J fp it tn) (st2 : tn 0 s2.heap) (f2 : ∀ b ∈ fp, FpOk X pins H2 b)
    (c1 : ∀ x c, cl.lookup x = some c → X.env.cells.lookup x = some c) (c2 : ∀ y ∈ scope.names, y.2 = .free → ∃ c, cl.lookup y.1 = some c)
    (q : ∀ D, H2 D = none → ∃ W : Nat → Nat → St → Hp → Prop, (∃ m, W 0 m (subS pick σ) (upd H2 D (.lst []))) ∧ ∀ i m σ' H', W i m σ' H' →
      (J.stop i H' ∧ Q D H') ∨ (J.go i H' ∧ ∀ x H2, J.yld i H' x H2 → g x σ' H2 fun σ3 H3 => tt σ3 H3 fun b H4 =>
        if b = true then te σ3 H4 fun y H5 => ∃ ys, H5 D = some (.lst ys) ∧ ys.length < sizeLine ∧ ∃ m', m' < m ∧ W (i + 1) m' σ3 (upd H5 D (.lst (ys ++ [y]))) else ∃ m', m' < m ∧ W (i + 1) m' σ3 H4))
    (fin : ∀ D C H' s', Inv X pins σ H' s' → H' C = none → X.s₀.heap.objs.size ≤ C → C ≠ X.env.locals → (∀ x c, X.env.cells.lookup x = some c → c ≠ C) → (∀ p ∈ X.pn ++ pins, p.1 ≠ C) → (∃ m, s'.heap.Ns C m) → Q D H' → RR (.ref D) C (.ok .next) s') :
    wpAny (model X.prog X.w) X.A (newList []) (fun acc s3 => wpAny (model X.prog X.w) X.A (newFunctionEnv scope X.env.globals cl [] X.env.qual none .none (some X.env)) (fun cenv s4 =>
      codeAny (model X.prog X.w) X.A (.compStart (.ListComp elt [⟨tg, iter, ifs, 0⟩] scope pos) 0 (.ref it) acc { cenv with scope := relabel scope X.env }) (RR acc cenv.locals) s4) E s3) E s2 := by
  have hD : H2 s2.heap.objs.size = none := I2.hok.fresh (Nat.le_refl _)
  obtain ⟨W, ⟨m0, w0⟩, turn⟩ := q _ hD
  refine wpAny_newObj_type (wpAny_newFunctionEnv S.nocell (by intro y hy; simp at hy) (fun h1 hns hsb => ?_) S.kind)
  have I3 : Inv X pins σ (upd H2 s2.heap.objs.size (.lst [])) { s2 with heap := s2.heap.push { cls := .type "list", dict := none, data := .seq ([] : List Value).toArray } } :=
    I2.lnew (t' := s2.toks) (its := []) (ys := []) .nil (Nat.zero_le _)
  have ne : ∀ b ∈ fp, b ≠ s2.heap.objs.size := fun b hb z => by
    obtain ⟨o, e, _⟩ := T.obj _ _ st2 b hb
    exact absurd (Heap.lt_size e) (by rw [z]; exact Nat.lt_irrefl _)
  have f3 : ∀ b ∈ fp, FpOk X pins (upd H2 s2.heap.objs.size (.lst [])) b := fun b hb => ⟨by rw [upd_ne (ne b hb)]; exact (f2 b hb).1, (f2 b hb).2⟩
  have ho3 : ∀ b ∈ fp, ∀ o, s2.heap.get? b = some o → (s2.heap.push { cls := .type "list", dict := none, data := .seq ([] : List Value).toArray }).get? b = some o := fun b _ o e => Heap.get?_push_of_some _ e
  have st3 := T.keep _ _ _ st2 ho3
  generalize hH3 : s2.heap.push { cls := .type "list", dict := none, data := .seq ([] : List Value).toArray } = H3 at hns hsb I3 ho3 st3 ⊢
  dsimp only at hns hsb ⊢
  have hk : ∀ b o, H3.get? b = some o → h1.get? b = some o := fun b o e => hsb.extBut b o (Nat.ne_of_lt (Heap.lt_size e)) (Heap.get?_push_of_some _ e)
  have B0 : Inv (cxB X N scope cl fp { s2 with heap := H3 } (upd H2 s2.heap.objs.size (.lst []))) [] (subS pick σ) (upd H2 s2.heap.objs.size (.lst [])) { s2 with heap := h1, toks := s2.toks + ([] : List (Str × Value)).length } :=
    inv_block (s := { s2 with heap := H3 }) S hsc hNX I3 f3 (fun b hb => by obtain ⟨o, e, _⟩ := T.obj _ _ st3 b hb; exact ⟨o, e⟩) c1 c2 hns hk
  have st4 : tn 0 h1 := T.keep _ _ _ st3 fun b _ o e => hk b o e
  have fpY : ∀ {H' : Hp}, (∀ b ∈ fp, H' b = none) → ∀ b ∈ fp, FpOk (cxB X N scope cl fp { s2 with heap := H3 } (upd H2 s2.heap.objs.size (.lst []))) [] H' b := fun hn b hb =>
    ⟨hn b hb, (B0.ok.exf b hb).1, B0.ok.exfs b hb, .inl hb, (B0.ok.exf b hb).2, fun p hp => absurd (show p ∈ ([] : List (Addr × Obj)) from hp) (by simp)⟩
  have loop : ∀ s4 : Shared, s4 = { s2 with heap := h1, toks := s2.toks + ([] : List (Str × Value)).length } →
      codeAny (model X.prog X.w) X.A (.compLoop (.ListComp elt [⟨tg, iter, ifs, 0⟩] scope pos) 0 (.ref it) (.ref s2.heap.objs.size) (compEnvC scope cl H3.objs.size X.env)) (RR (.ref s2.heap.objs.size) H3.objs.size) s4 := by
    rintro s4 rfl
    refine comp_loop (fun n s' => ∃ i σ' H', Inv (cxB X N scope cl fp { s2 with heap := H3 } (upd H2 s2.heap.objs.size (.lst []))) [] σ' H' s' ∧ tn i s'.heap ∧ (∀ b ∈ fp, H' b = none) ∧ W i n σ' H') ?_ m0
      ⟨0, _, _, B0, st4, fun b hb => (f3 b hb).1, w0⟩
    rintro n s5 ⟨i, σ5, H5, I5, st5, fr5, w5⟩
    rcases turn i n σ5 H5 w5 with ⟨stop, qn⟩ | ⟨go, step⟩
    · refine thn (T.done (cxB X N scope cl fp { s2 with heap := H3 } (upd H2 s2.heap.objs.size (.lst []))) rfl rfl rfl hc i [] s5 σ5 H5 _ I5 (fpY fr5) st5 stop) fun r s6 ⟨hr, I6⟩ => ?_
      subst hr
      obtain ⟨m, hm, _⟩ := I6.loc
      have sz : X.s₀.heap.objs.size ≤ H3.objs.size := I3.sz
      refine fin _ _ H5 s6 (inv_behind I3 f3 I6) I6.free sz (Nat.ne_of_gt I3.lt) (fun x c e z => ?_) (fun p hp z => ?_) ⟨m, hm⟩ qn
      · obtain ⟨v, z2⟩ := I3.cell x c e
        exact absurd z2.lt (by rw [z]; exact Nat.lt_irrefl _)
      · exact absurd (Heap.lt_size (I3.pin p hp).1) (by rw [z]; exact Nat.lt_irrefl _)
    · refine thn (T.item (cxB X N scope cl fp { s2 with heap := H3 } (upd H2 s2.heap.objs.size (.lst []))) rfl rfl rfl hc i [] s5 σ5 H5 _ I5 (fpY fr5) st5 go) fun r s6 ⟨u, hr, h6⟩ => ?_
      subst hr
      refine thn h6 fun _ s7 ⟨x, H7, I7, r7, y7, st7, fr7⟩ => ?_
      have I7' := I7.pinned (fpY fr7) (T.obj _ _ st7)
      have back : ∀ {σ8 : St} {H8 : Hp} {s8 : Shared}, Inv (cxB X N scope cl fp { s2 with heap := H3 } (upd H2 s2.heap.objs.size (.lst []))) ([] ++ pinsAt fp s7.heap) σ8 H8 s8 →
          tn (i + 1) s8.heap ∧ ∀ b ∈ fp, H8 b = none := fun {σ8 H8 s8} I8 => by
        refine ⟨T.keep _ _ _ st7 fun b hb o e => (I8.pin (b, o) (List.mem_append_right _ (List.mem_append_right _ (mem_pinsAt hb e)))).1, fun b hb => ?_⟩
        obtain ⟨o, e, d⟩ := T.obj _ _ st7 b hb
        exact (I8.pin (b, o) (List.mem_append_right _ (List.mem_append_right _ (mem_pinsAt hb e)))).2.1
      refine thn (hg _ _ _ _ _ s7 σ5 H7 x u _ I7' r7 (step x H7 y7)) fun _ s8 ⟨σ8, H8, I8, q8⟩ => ?_
      refine thn (ht _ _ _ _ _ s8 σ8 H8 _ I8 q8) fun ok s9 ⟨H9, I9, q9⟩ => ?_
      cases ok with
      | false =>
        rw [if_neg (by decide)] at q9 ⊢
        obtain ⟨m', hm, w9⟩ := q9
        obtain ⟨b1, b2⟩ := back I9
        exact ⟨m', hm, i + 1, σ8, H9, I9.unpinned, b1, b2, w9⟩
      | true =>
        rw [if_pos rfl] at q9 ⊢
        refine thn (he _ _ _ _ _ s9 σ8 H9 _ I9 q9) fun v s10 ⟨y, H10, I10, ry, ys, hys, hlen, m', hm, w10⟩ => ?_
        have ap := mt_append (X := cxB X N scope cl fp { s2 with heap := H3 } (upd H2 s2.heap.objs.size (.lst []))) ([] ++ pinsAt fp s7.heap) s10 σ8 H10 (.ref s2.heap.objs.size) [y] (.ref s2.heap.objs.size) [v]
          (fun z H' => z = .non ∧ H' = upd H10 s2.heap.objs.size (.lst (ys ++ [y]))) I10 rfl (.cons ry .nil) ⟨_, ys, y, rfl, rfl, hys, hlen, rfl, rfl⟩
        refine thn ap fun z s11 ⟨z', H11, I11, _, _, e11⟩ => ?_
        subst e11
        obtain ⟨b1, b2⟩ := back I11
        exact ⟨m', hm, i + 1, σ8, _, I11.unpinned, b1, b2, w10⟩
  exact codeAny_compStart_list (loop _ rfl) (T.self _ _ _ _ _ st4 (loop _ rfl))
theorem pe_comp (S : CScope sc NX N pick scope) (hsc : X.env.scope = sc) (hNX : X.N = NX) (hc : X.calm = true) (hi : PI X tg iter wi)
    (hg : ∀ cl fp s H, PG (cxB X N scope cl fp s H) tg g) (ht : ∀ cl fp s H, PTs (cxB X N scope cl fp s H) ifs tt) (he : ∀ cl fp s H, PE (cxB X N scope cl fp s H) elt te)
    (hs : ∀ x, foldedSetIterable iter X.env x = pure x := by intro _; rfl) : PE X (.ListComp elt [⟨tg, iter, ifs, 0⟩] scope pos) (tComp pick wi g tt te) := by
  intro pins s σ H Q I h
  rw [eval_ListComp]
  have hfr : ∀ y ∈ scope.names, y.2 = .free → ∃ c, X.env.cells.lookup y.1 = some c := fun y hy hf => I.ok.has y.1 (by
    show X.env.scope.names.lookup y.1 = _ ∨ X.env.scope.names.lookup y.1 = _
    rw [hsc]; exact S.frees y hy hf)
  obtain ⟨cl, hcl, c1, c2⟩ := closure_ok hfr
  refine wpAny_comprehension_free (use := none) rfl hs hcl S.kind S.names (thn (hi pins s σ H _ I h) fun v s1 h1 => thn h1 fun itv s2 h2 => ?_)
  obtain ⟨it, fp, tn, J, H2, e, I2, T, st2, f2, q⟩ := h2
  subst e
  refine comp_block (RR := fun acc C => compPost (model X.prog X.w) X.A X.xe none (EP X pins σ Q) acc C) (Q := fun D H' => Q (.ref D) H') S hsc hNX hc hg ht he I2 T st2 f2 c1 c2 q ?_
  intro D C H' s' I' n1 n2 n3 n4 n5 ⟨m, hm⟩ q'
  exact ⟨m, hm, fun h' hb => ⟨.ref D, H', I'.turned (t' := s'.toks) (it := C) (fun b o hbc e => (hb.2 b hbc).trans e) n1 n3 (.inr n2) n4 n5, rfl, q'⟩⟩
end
end L2
namespace L2
open PySem PySem.Spec PyProof.Rows
section
variable {X : Cx} {tg : Expr}
theorem strs_are : ∀ {ys : List Str} {us : List Value}, Vals (ys.map V.str) us → StrsAre us ys
  | [], _, .nil => .nil
  | y :: ys, _, .cons r t => by
    obtain ⟨k, rfl⟩ := r
    exact .cons y k (strs_are t)
theorem mt_join : MtR X "str.join" (fun x xs H Q => ∃ (z : Str) (a : Addr) (ys : List Str), x = .str z ∧ xs = [.ref a] ∧ SqL X.K H a (ys.map V.str) ∧ z.length ≤ 16 ∧ (ys.map (·.length)).sum + ys.length ≤ 1048576 ∧ Q (.str (Txt.join z ys)) H) := by
  intro pins s σ H x xs v us Q I rx r h
  obtain ⟨z, a, ys, rfl, rfl, hq, hz, hw, q⟩ := h
  obtain ⟨t, rfl⟩ := rx
  obtain ⟨u, rfl, ru⟩ := vals1 r
  cases (show u = Value.ref a from ru)
  obtain ⟨its, rv, p, hl⟩ := I.list hq
  exact join_listW p.isList (by simpa using strs_are rv) hz hw fun t' k => ⟨.str _, H, I.tok k, ⟨_, rfl⟩, q⟩
end
end L2
namespace L2
open PySem PySem.Spec PyProof.Rows
section
variable {X : Cx}
theorem sl_str : SlR X (fun x lo hi H Q => ∃ z : Str, x = .str z ∧ z.length ≤ sizeLine ∧ Q (.str (Txt.slice z lo hi)) H) := by
  intro pins s σ H x v vl vu lo hi sl Q I rx hs pl pu h
  obtain ⟨z, rfl, hz, q⟩ := h
  obtain ⟨t, rfl⟩ := rx
  refine ⟨"str", _, F.slot_str_getitem.lookup, typeIs_str _ _ _, ?_⟩
  have fin : ∀ t' k, EP X pins σ Q (.str (Txt.slice z lo hi) t') { s with toks := k } := fun t' k => ⟨.str _, H, I.tok k, ⟨_, rfl⟩, q⟩
  cases pl with
  | none =>
    cases pu with
    | none => exact wpAny_getItem_str_slice (l := none) (u := none) (st := none) hs rfl (post_val_or_str ⟨Nat.le_trans (Txt.slice_le z _ _) hz, fun t' k => fin t' k⟩)
    | int j u => exact wpAny_getItem_str_slice (l := none) (u := some (j, u)) (st := none) hs rfl (post_val_or_str ⟨Nat.le_trans (Txt.slice_le z _ _) hz, fun t' k => fin t' k⟩)
  | int i u' =>
    cases pu with
    | none => exact wpAny_getItem_str_slice (l := some (i, u')) (u := none) (st := none) hs rfl (post_val_or_str ⟨Nat.le_trans (Txt.slice_le z _ _) hz, fun t' k => fin t' k⟩)
    | int j u => exact wpAny_getItem_str_slice (l := some (i, u')) (u := some (j, u)) (st := none) hs rfl (post_val_or_str ⟨Nat.le_trans (Txt.slice_le z _ _) hz, fun t' k => fin t' k⟩)
end
end L2
namespace L2
open PySem PySem.Spec PyProof.Rows
mutual
inductive Dp (K : PySem.W.Frag) (H : Hp) : V → PyData → Prop
  | non : Dp K H .non .none
  | bl (b : Bool) : Dp K H (.bl b) (.bool b)
  | int (i : Int) : Dp K H (.int i) (.int i)
  | str (x : Str) : Dp K H (.str x) (.str x)
  | lst {a : Addr} {xs : List V} {ds : List PyData} : SqL K H a xs → DpAll K H xs ds → Dp K H (.ref a) (.list ds)
  | tup {a : Addr} {xs : List V} {ds : List PyData} : SqT K H a xs → DpAll K H xs ds → Dp K H (.ref a) (.tuple ds)
inductive DpAll (K : PySem.W.Frag) (H : Hp) : List V → List PyData → Prop
  | nil : DpAll K H [] []
  | cons {v : V} {vs : List V} {d : PyData} {ds : List PyData} : Dp K H v d → DpAll K H vs ds → DpAll K H (v :: vs) (d :: ds)
end
section
variable {X : Cx} {pins : List (Addr × Obj)} {σ : St} {H : Hp} {s : Shared}
mutual
theorem Dp.reads (I : Inv X pins σ H s) : ∀ {v : V} {d : PyData} {u : Value}, Dp X.K H v d → RelV v u → ∃ as, Reads s.heap u d as
  | _, _, u, .non, r => by cases (show u = Value.none from r); exact ⟨_, .none⟩
  | _, _, u, .bl b, r => by cases (show u = Value.bool b from r); exact ⟨_, .bool b⟩
  | _, _, u, .int i, r => by obtain ⟨t, rfl⟩ := r; exact ⟨_, .int i t⟩
  | _, _, u, .str x, r => by obtain ⟨t, rfl⟩ := r; exact ⟨_, .str x t⟩
  | _, _, u, .lst (a := a) h hs, r => by
    cases (show u = Value.ref a from r)
    obtain ⟨its, rv, p, hz⟩ := I.list h
    obtain ⟨as, ra⟩ := DpAll.reads I hs rv
    obtain ⟨o, e, c, n, d⟩ := p.isList
    exact ⟨_, .list e c d (by simpa using ra)⟩
  | _, _, u, .tup (a := a) h hs, r => by
    cases (show u = Value.ref a from r)
    obtain ⟨its, rv, p, hz⟩ := I.tuple h
    obtain ⟨as, ra⟩ := DpAll.reads I hs rv
    obtain ⟨o, e, c, n, d⟩ := p
    exact ⟨_, .tuple e c d (by simpa using ra)⟩
theorem DpAll.reads (I : Inv X pins σ H s) : ∀ {vs : List V} {ds : List PyData} {us : List Value}, DpAll X.K H vs ds → Vals vs us → ∃ as, ReadsAll s.heap us ds as
  | _, _, _, .nil, .nil => ⟨_, .nil⟩
  | _, _, _, .cons h hs, .cons r rs => by
    obtain ⟨as, ra⟩ := Dp.reads I h r
    obtain ⟨bs, rb⟩ := DpAll.reads I hs rs
    exact ⟨_, .cons ra rb⟩
end
end
section
variable {X : Cx}
def rEqD (K : PySem.W.Frag) (neg : Bool) : R2 := fun x y H Q => ∃ d e, Dp K H x d ∧ Dp K H y e ∧ d.canLay0 = true ∧ e.canLay0 = true ∧ d.depth ≤ 60 ∧ Q (.bl (if neg then !PyData.eqv d e else PyData.eqv d e)) H
theorem op_eqD (hu : X.A.units + 64 < cLine) : OpR X (compareOp .Eq) (rEqD X.K false) := by
  intro pins s σ H x y v u Q I rx ry h
  obtain ⟨d, e, hx, hy, cx, cy, dz, q⟩ := h
  obtain ⟨as, ra⟩ := hx.reads I rx
  obtain ⟨bs, rb⟩ := hy.reads I ry
  exact SeqAt.compareEq_reads ra rb cx cy (by have := Nat.min_le_left d.depth e.depth; omega) ⟨.bl _, H, I, rfl, q⟩
theorem op_neD (hu : X.A.units + 64 < cLine) : OpR X (compareOp .NotEq) (rEqD X.K true) := by
  intro pins s σ H x y v u Q I rx ry h
  obtain ⟨d, e, hx, hy, cx, cy, dz, q⟩ := h
  obtain ⟨as, ra⟩ := hx.reads I rx
  obtain ⟨bs, rb⟩ := hy.reads I ry
  exact SeqAt.compareNe_reads ra rb cx cy (by have := Nat.min_le_left d.depth e.depth; omega) ⟨.bl _, H, I, rfl, q⟩
end
mutual
theorem Dp.same {K : PySem.W.Frag} {H H' : Hp} (e : Same H H') : ∀ {v : V} {d : PyData}, Dp K H v d → Dp K H' v d
  | _, _, .non => .non
  | _, _, .bl b => .bl b
  | _, _, .int i => .int i
  | _, _, .str x => .str x
  | _, _, .lst h hs => .lst (e.seq h) (DpAll.same e hs)
  | _, _, .tup h hs => .tup (Same.seqT e h) (DpAll.same e hs)
theorem DpAll.same {K : PySem.W.Frag} {H H' : Hp} (e : Same H H') : ∀ {vs : List V} {ds : List PyData}, DpAll K H vs ds → DpAll K H' vs ds
  | _, _, .nil => .nil
  | _, _, .cons h hs => .cons (Dp.same e h) (DpAll.same e hs)
end
theorem lay_strs : ∀ {ys : List Str}, (∀ y ∈ ys, y.cps.all (· < 128) = true) → PyData.canLayAll0 (ys.map PyData.str) = true
  | [], _ => rfl
  | y :: ys, h => by
    show (PyData.canLay0 (.str y) && PyData.canLayAll0 (ys.map PyData.str)) = true
    rw [lay_strs (fun z hz => h z (List.mem_cons_of_mem _ hz)), Bool.and_true]
    show (y.cps.all (· < 0x110000)) = true
    rw [Array.all_eq_true]
    intro i hi
    have := Array.all_eq_true.mp (h y List.mem_cons_self) i hi
    simp only [decide_eq_true_eq] at this ⊢
    omega
theorem depth_strs : ∀ ys : List Str, PyData.depthAll (ys.map PyData.str) = 0
  | [] => rfl
  | y :: ys => by
    show max (PyData.depth (.str y)) (PyData.depthAll (ys.map PyData.str)) = 0
    rw [depth_strs ys]; rfl
theorem eqv_strs : ∀ xs ys : List Str, PyData.eqvAll (xs.map PyData.str) (ys.map PyData.str) = decide (xs = ys)
  | [], [] => rfl
  | [], y :: ys => rfl
  | x :: xs, [] => rfl
  | x :: xs, y :: ys => by
    show (PyData.eqv (.str x) (.str y) && PyData.eqvAll (xs.map PyData.str) (ys.map PyData.str)) = _
    rw [eqv_strs xs ys]
    show ((x == y) && decide (xs = ys)) = decide (x :: xs = y :: ys)
    by_cases h1 : x = y
    · subst h1
      by_cases h2 : xs = ys
      · subst h2; simp
      · rw [decide_eq_false h2, decide_eq_false (fun z => h2 (List.cons.inj z).2)]; simp
    · rw [decide_eq_false (fun z => h1 (List.cons.inj z).1), beq_eq_false_iff_ne.mpr h1]; simp
end L2
namespace L2
open PySem PySem.Spec PyProof.Rows
section
variable {prog : Program} {w : World} {A : Around} {E : Value → Shared → Prop} {s : Shared} {env : Env}
theorem assign_list {l : Addr} {items : Array Value} {elts : List Expr} {k : Nat} {pos : Pos} {Q : Unit → Shared → Prop} (hh : A.handled = none) (hl : s.heap.IsList l items) (hn : (assignEach elts env).length = items.size)
    (hstar : (assignEach elts env).findIdx? (·.1) = none) (h : ∀ h', Heap.ExtBut s.heap.objs.size s.heap h' → wpAny (model prog w) A (assignInOrder ((assignEach elts env).map (·.2)) items.toList) Q E { s with heap := h' }) :
    wpAny (model prog w) A (assign (.Tuple elts k pos) env (.ref l)) Q E s := by
  rw [assign_Tuple]
  refine wpAny_bind (wpAny_standAt ?_)
  unfold unpack
  rw [hn, hstar]
  exact wpAny_bind (wpAny_holding (PySem.W.kun_itemsOf hh hl h))
end
section
variable {X : Cx} {pos : Pos}
def gLst (K : PySem.W.Frag) (n : Nat) (t : TGs) : TG := fun v σ H Q => ∃ a xs, v = .ref a ∧ SqL K H a xs ∧ xs.length = n ∧ t xs σ H Q
theorem pg_lst {es : List Expr} {k : Nat} {t : TGs} {n : Nat} (hc : X.calm = true) (h : PGs X es t)
    (hn : (assignEach es X.env).length = n := by rfl) (hst : (assignEach es X.env).findIdx? (·.1) = none := by rfl) : PG X (.Tuple es k pos) (gLst X.K n t) := by
  intro pins s σ H v u Q I r hw
  obtain ⟨a, xs, e1, hq, hl, hw⟩ := hw
  subst e1
  cases r
  obtain ⟨its, rv, ht, hz⟩ := I.list hq
  refine assign_list (I.ok.hd hc) ht.isList (by simp [hn, ← hl, rv.length]) hst fun h' hx => ?_
  have I1 : Inv X pins σ H { s with heap := h' } := I.kept (t' := s.toks) fun b o e => hx b o (Nat.ne_of_lt (Heap.lt_size e)) e
  exact h pins _ σ H xs _ Q I1 (by simpa using rv) hw
end
section
variable {prog : Program} {w : World} {A : Around} {E : Value → Shared → Prop} {s : Shared}
theorem getItem_tuple_all {t sl : Addr} {items : Array Value} {vl vu : Value} {lo hi : Option Int} {Q : Value → Shared → Prop} (ht : IsTup s.heap t items) (hs : s.heap.IsSliceOf sl vl vu .none) (pl : IsPart vl lo) (pu : IsPart vu hi)
    (hw : HT.sIx items.size 0 lo = 0 ∧ HT.sIx items.size items.size hi = items.size) (h : Q (.ref t) s) : wpAny (model prog w) A (getItem (.ref t) (.ref sl)) Q E s := by
  obtain ⟨os, hos, hcs, hds⟩ := id hs
  have hTs : s.TypeIs (.ref sl) "slice" := ⟨os, hos, hcs⟩
  unfold getItem
  try with_reducible refine wpAny_holding ?_
  first | refine wpAny_bind (wpAny_pure ?_) | skip
  refine wpAny_bind (wpAny_sequenceKey ht.typeIs (by decide) ?_)
  refine wpAny_bind (wpAny_callSpecial?_slot (name := Str.ofString "__getitem__") ht.typeIs PyProof.Rows.slot_tuple_getitem
    (wpAny_call_entry PyProof.Rows.slot_tuple_getitem ht.typeIs entry_tuple_getitem ?_ (args_tuple_getitem _ _)))
  show wpAny _ _ (Builtin.Tuple.tupleItemsOf (.ref t) >>= _) _ _ s
  refine wpAny_bind (tupleItemsOf_ ht ?_)
  refine wpAny_bind (wpAny_typeOf hTs ?_)
  rw [if_pos (by decide)]
  refine wpAny_bind (HT.sliceApplied_gen hs pl pu ?_)
  show wpAny _ _ (if (((HT.sIx items.size 0 lo : Nat) : Int) == 0 && (1 : Int) == 1 && (HT.sIx items.size items.size hi - HT.sIx items.size 0 lo) == items.size) = true then _ else _) _ _ s
  rw [if_pos (by rw [hw.1, hw.2]; simp)]
  refine wpAny_bind (m := Builtin.Tuple.tupleIsExact _) ?_
  unfold Builtin.Tuple.tupleIsExact
  refine wpAny_bind (wpAny_typeOf ht.typeIs (wpAny_pure ?_))
  rw [if_pos (by decide)]
  exact wpAny_bind (wpAny_rule (wpAny_pure ⟨_, rfl, wpAny_pure h⟩))
end
section
variable {X : Cx}
def rSlW (K : PySem.W.Frag) : V → Option Int → Option Int → Hp → VK → Prop := fun x lo hi H Q => ∃ a xs, x = .ref a ∧ SqT K H a xs ∧
  (HT.sIx xs.length 0 lo = 0 ∧ HT.sIx xs.length xs.length hi = xs.length → Q (.ref a) H) ∧ ∀ p, H p = none → Q (.ref p) (upd H p (.tup (cutV xs lo hi)))
theorem sl_tupW : SlR X (rSlW X.K) := by
  intro pins s σ H x v vl vu lo hi sl Q I rx hs pl pu h
  obtain ⟨a, xs, rfl, hx, q1, q2⟩ := h
  by_cases hw : HT.sIx xs.length 0 lo = 0 ∧ HT.sIx xs.length xs.length hi = xs.length
  · cases rx
    obtain ⟨its, r, ht, hz⟩ := I.tuple hx
    have hlen : its.toArray.size = xs.length := by rw [List.size_toArray]; exact r.length.symm
    refine ⟨"tuple", _, PyProof.Rows.slot_tuple_getitem.lookup, ht.typeIs, ?_⟩
    exact getItem_tuple_all ht hs pl pu (by rw [hlen]; exact hw) ⟨.ref a, H, I, rfl, q1 hw⟩
  · exact sl_tup pins s σ H _ v vl vu lo hi sl Q I rx hs pl pu ⟨a, xs, rfl, hx, hw, q2⟩
end
end L2
namespace L2
open PySem PySem.Spec PyProof.Rows
inductive AreC : List Expr → List V → Prop
  | nil : AreC [] []
  | int {i : Int} {j : Nat} {pos : Pos} {es : List Expr} {vs : List V} : AreC es vs → AreC (.Constant (.int i) j pos :: es) (.int i :: vs)
  | str {x : Str} {j : Nat} {pos : Pos} {es : List Expr} {vs : List V} : AreC es vs → AreC (.Constant (.str x) j pos :: es) (.str x :: vs)
  | bl {b : Bool} {j : Nat} {pos : Pos} {es : List Expr} {vs : List V} : AreC es vs → AreC (.Constant (.bool b) j pos :: es) (.bl b :: vs)
  | non {j : Nat} {pos : Pos} {es : List Expr} {vs : List V} : AreC es vs → AreC (.Constant .none j pos :: es) (.non :: vs)
def tVals (vs : List V) : TA := fun _ H Q => Q vs H
theorem pa_consts {X : Cx} {es : List Expr} {vs : List V} (h : AreC es vs) : PA X es (tVals vs) := by
  induction h with
  | nil => exact pa_nil
  | int _ ih => exact fun pos pins s σ H Q I q => pa_cons (t := tVals _) pe_int ih rfl pos pins s σ H Q I q
  | str _ ih => exact fun pos pins s σ H Q I q => pa_cons (t := tVals _) pe_str ih rfl pos pins s σ H Q I q
  | bl _ ih => exact fun pos pins s σ H Q I q => pa_cons (t := tVals _) pe_bl ih rfl pos pins s σ H Q I q
  | non _ ih => exact fun pos pins s σ H Q I q => pa_cons (t := tVals _) pe_non ih rfl pos pins s σ H Q I q
end L2
namespace L2
open PySem PySem.Spec PyProof.Rows
inductive D where
  | non | bl (b : Bool) | int (i : Int) | str (x : Str) | ty (n : String)
  | tup (xs : List D) | con (xs : List D) | lst (o : Bool) (xs : List D) | dic (o : Bool) (ks : List Key) (vs : List D) | obj (o : Bool) (C : Str) (ns : List Str) (vs : List D)
mutual
def D.imm : D → Bool
  | .tup xs => D.imms xs
  | .con xs => D.imms xs
  | .lst o xs => !o && D.imms xs
  | .dic o _ vs => !o && D.imms vs
  | .obj o _ _ vs => !o && D.imms vs
  | _ => true
def D.imms : List D → Bool
  | [] => true
  | d :: ds => d.imm && D.imms ds
end
def kd : HO → Bool
  | .lst _ => true
  | .tup _ => true
  | .dK _ => true
  | .ins _ _ _ => true
  | .frz _ _ => true
  | _ => false
def tf : HO → Bool
  | .tup _ => true
  | .frz _ _ => true
  | _ => false
theorem kd_of_tf {o : HO} (h : tf o = true) : kd o = true := by cases o <;> first | rfl | cases h
def SqF (K : PySem.W.Frag) (H : Hp) (a : Addr) (xs : List V) : Prop := (∃ o, H a = some (.frz o (.lst xs))) ∨
  ∃ (o : Obj) (its : Array Value) (n : Nat), K.lookup a = some o ∧ o.cls = .type "list" ∧ o.dict = none ∧ o.data = .seq its n ∧ its.size ≤ sizeLine ∧ Vals xs its.toList
mutual
inductive Rep (K : PySem.W.Frag) (κ : Str → Addr) (H : Hp) : V → D → List Addr → Prop
  | non : Rep K κ H .non .non []
  | bl (b : Bool) : Rep K κ H (.bl b) (.bl b) []
  | int (i : Int) : Rep K κ H (.int i) (.int i) []
  | str (x : Str) : Rep K κ H (.str x) (.str x) []
  | ty (n : String) : Rep K κ H (.ty n) (.ty n) []
  | tup {a : Addr} {vs : List V} {ds : List D} : SqT K H a vs → Reps K κ H vs ds [] → Rep K κ H (.ref a) (.tup ds) []
  | con {a : Addr} {vs : List V} {ds : List D} : SqF K H a vs → Reps K κ H vs ds [] → Rep K κ H (.ref a) (.con ds) []
  | lst {a : Addr} {vs : List V} {ds : List D} {fp : List Addr} : H a = some (.lst vs) → Reps K κ H vs ds fp → Rep K κ H (.ref a) (.lst true ds) (a :: fp)
  | lstF {a : Addr} {o : Obj} {vs : List V} {ds : List D} : H a = some (.frz o (.lst vs)) → Reps K κ H vs ds [] → Rep K κ H (.ref a) (.lst false ds) []
  | dic {a : Addr} {kvs : List (Key × V)} {ks : List Key} {ds : List D} {fp : List Addr} : H a = some (.dK kvs) → kvs.map (·.1) = ks → Reps K κ H (kvs.map (·.2)) ds fp → Rep K κ H (.ref a) (.dic true ks ds) (a :: fp)
  | dicF {a : Addr} {o : Obj} {kvs : List (Key × V)} {ks : List Key} {ds : List D} : H a = some (.frz o (.dK kvs)) → kvs.map (·.1) = ks → Reps K κ H (kvs.map (·.2)) ds [] → Rep K κ H (.ref a) (.dic false ks ds) []
  | obj {a dx : Addr} {C : Str} {fs : List (Str × V)} {ns : List Str} {ds : List D} {fp : List Addr} : H a = some (.ins (κ C) dx fs) → fs.map (·.1) = ns → Reps K κ H (fs.map (·.2)) ds fp → Rep K κ H (.ref a) (.obj true C ns ds) (a :: fp)
  | objF {a dx : Addr} {o : Obj} {C : Str} {fs : List (Str × V)} {ns : List Str} {ds : List D} : H a = some (.frz o (.ins (κ C) dx fs)) → fs.map (·.1) = ns → Reps K κ H (fs.map (·.2)) ds [] → Rep K κ H (.ref a) (.obj false C ns ds) []
inductive Reps (K : PySem.W.Frag) (κ : Str → Addr) (H : Hp) : List V → List D → List Addr → Prop
  | nil : Reps K κ H [] [] []
  | cons {v : V} {vs : List V} {d : D} {ds : List D} {f g : List Addr} : Rep K κ H v d f → Reps K κ H vs ds g → Reps K κ H (v :: vs) (d :: ds) (f ++ g)
end
section
variable {K : PySem.W.Frag} {κ : Str → Addr} {H H' : Hp}
theorem SqT.tf (t : ∀ a o, H a = some o → tf o = true → H' a = some o) {a : Addr} {xs : List V} (h : SqT K H a xs) : SqT K H' a xs := by
  rcases h with (h | ⟨o, h⟩) | h
  · exact .inl (.inl (t _ _ h rfl))
  · exact .inl (.inr ⟨o, t _ _ h rfl⟩)
  · exact .inr h
theorem SqF.tf (t : ∀ a o, H a = some o → tf o = true → H' a = some o) {a : Addr} {xs : List V} (h : SqF K H a xs) : SqF K H' a xs := h.elim (fun ⟨o, h⟩ => .inl ⟨o, t _ _ h rfl⟩) .inr
theorem SqF.l {a : Addr} {xs : List V} (h : SqF K H a xs) : SqL K H a xs := h.elim (fun ⟨o, h⟩ => .inl (.inr ⟨o, h⟩)) .inr
mutual
theorem Rep.move (t : ∀ a o, H a = some o → tf o = true → H' a = some o) : ∀ {v : V} {d : D} {fp : List Addr}, Rep K κ H v d fp → (∀ a ∈ fp, H' a = H a) → Rep K κ H' v d fp
  | _, _, _, .non, _ => .non
  | _, _, _, .bl b, _ => .bl b
  | _, _, _, .int b, _ => .int b
  | _, _, _, .str b, _ => .str b
  | _, _, _, .ty b, _ => .ty b
  | _, _, _, .tup h hs, _ => .tup (h.tf t) (Reps.move t hs (fun a ha => absurd ha (by simp)))
  | _, _, _, .con h hs, _ => .con (h.tf t) (Reps.move t hs (fun a ha => absurd ha (by simp)))
  | _, _, _, .lst h hs, k => .lst (by rw [k _ List.mem_cons_self]; exact h) (Reps.move t hs fun a ha => k a (List.mem_cons_of_mem _ ha))
  | _, _, _, .lstF h hs, _ => .lstF (t _ _ h rfl) (Reps.move t hs (fun a ha => absurd ha (by simp)))
  | _, _, _, .dic h e hs, k => .dic (by rw [k _ List.mem_cons_self]; exact h) e (Reps.move t hs fun a ha => k a (List.mem_cons_of_mem _ ha))
  | _, _, _, .dicF h e hs, _ => .dicF (t _ _ h rfl) e (Reps.move t hs (fun a ha => absurd ha (by simp)))
  | _, _, _, .obj h e hs, k => .obj (by rw [k _ List.mem_cons_self]; exact h) e (Reps.move t hs fun a ha => k a (List.mem_cons_of_mem _ ha))
  | _, _, _, .objF h e hs, _ => .objF (t _ _ h rfl) e (Reps.move t hs (fun a ha => absurd ha (by simp)))
theorem Reps.move (t : ∀ a o, H a = some o → tf o = true → H' a = some o) : ∀ {vs : List V} {ds : List D} {fp : List Addr}, Reps K κ H vs ds fp → (∀ a ∈ fp, H' a = H a) → Reps K κ H' vs ds fp
  | _, _, _, .nil, _ => .nil
  | _, _, _, .cons h hs, k => .cons (Rep.move t h fun a ha => k a (List.mem_append_left _ ha)) (Reps.move t hs fun a ha => k a (List.mem_append_right _ ha))
end
mutual
theorem Rep.own : ∀ {v : V} {d : D} {fp : List Addr}, Rep K κ H v d fp → ∀ a ∈ fp, ∃ o, H a = some o ∧ kd o = true ∧ tf o = false
  | _, _, _, .non, _, h => absurd h (by simp)
  | _, _, _, .bl _, _, h => absurd h (by simp)
  | _, _, _, .int _, _, h => absurd h (by simp)
  | _, _, _, .str _, _, h => absurd h (by simp)
  | _, _, _, .ty _, _, h => absurd h (by simp)
  | _, _, _, .tup _ _, _, h => absurd h (by simp)
  | _, _, _, .con _ _, _, h => absurd h (by simp)
  | _, _, _, .lstF _ _, _, h => absurd h (by simp)
  | _, _, _, .dicF _ _ _, _, h => absurd h (by simp)
  | _, _, _, .objF _ _ _, _, h => absurd h (by simp)
  | _, _, _, .lst h hs, a, ha => (List.mem_cons.mp ha).elim (fun e => e ▸ ⟨_, h, rfl, rfl⟩) fun z => Reps.own hs a z
  | _, _, _, .dic h _ hs, a, ha => (List.mem_cons.mp ha).elim (fun e => e ▸ ⟨_, h, rfl, rfl⟩) fun z => Reps.own hs a z
  | _, _, _, .obj h _ hs, a, ha => (List.mem_cons.mp ha).elim (fun e => e ▸ ⟨_, h, rfl, rfl⟩) fun z => Reps.own hs a z
theorem Reps.own : ∀ {vs : List V} {ds : List D} {fp : List Addr}, Reps K κ H vs ds fp → ∀ a ∈ fp, ∃ o, H a = some o ∧ kd o = true ∧ tf o = false
  | _, _, _, .nil, _, h => absurd h (by simp)
  | _, _, _, .cons h hs, a, ha => (List.mem_append.mp ha).elim (fun z => Rep.own h a z) fun z => Reps.own hs a z
end
mutual
theorem Rep.imm : ∀ {v : V} {d : D} {fp : List Addr}, Rep K κ H v d fp → d.imm = true → fp = []
  | _, _, _, .non, _ => rfl
  | _, _, _, .bl _, _ => rfl
  | _, _, _, .int _, _ => rfl
  | _, _, _, .str _, _ => rfl
  | _, _, _, .ty _, _ => rfl
  | _, _, _, .tup _ _, _ => rfl
  | _, _, _, .con _ _, _ => rfl
  | _, _, _, .lstF _ _, _ => rfl
  | _, _, _, .dicF _ _ _, _ => rfl
  | _, _, _, .objF _ _ _, _ => rfl
  | _, _, _, .lst _ _, h => absurd h (by simp [D.imm])
  | _, _, _, .dic _ _ _, h => absurd h (by simp [D.imm])
  | _, _, _, .obj _ _ _, h => absurd h (by simp [D.imm])
end
theorem Reps.imm : ∀ {vs : List V} {ds : List D} {fp : List Addr}, Reps K κ H vs ds fp → D.imms ds = true → fp = []
  | _, _, _, .nil, _ => rfl
  | _, _, _, .cons h hs, e => by
    rw [D.imms, Bool.and_eq_true] at e
    rw [h.imm e.1, Reps.imm hs e.2]; rfl
theorem Reps.length : ∀ {vs : List V} {ds : List D} {fp : List Addr}, Reps K κ H vs ds fp → vs.length = ds.length
  | _, _, _, .nil => rfl
  | _, _, _, .cons _ hs => by rw [List.length_cons, List.length_cons, Reps.length hs]
theorem Reps.get : ∀ {vs : List V} {ds : List D} {fp : List Addr} {i : Nat} {d : D}, Reps K κ H vs ds fp → ds[i]? = some d → ∃ v f, vs[i]? = some v ∧ Rep K κ H v d f ∧ ∀ a ∈ f, a ∈ fp
  | _, _, _, _, _, .nil, e => by simp at e
  | _, _, _, 0, _, .cons h _, e => by simp at e; subst e; exact ⟨_, _, rfl, h, fun a ha => List.mem_append_left _ ha⟩
  | _, _, _, i + 1, _, .cons _ hs, e => by
    obtain ⟨v, f, h1, h2, h3⟩ := Reps.get (i := i) hs (by simpa using e)
    exact ⟨v, f, by simpa using h1, h2, fun a ha => List.mem_append_right _ (h3 a ha)⟩
theorem Reps.append : ∀ {vs : List V} {ds : List D} {f : List Addr} {us : List V} {es : List D} {g : List Addr}, Reps K κ H vs ds f → Reps K κ H us es g → Reps K κ H (vs ++ us) (ds ++ es) (f ++ g)
  | _, _, _, _, _, _, .nil, r => r
  | _, _, _, _, _, _, .cons h hs, r => by rw [List.append_assoc]; exact .cons h (Reps.append hs r)
theorem Reps.one {v : V} {d : D} {f : List Addr} (h : Rep K κ H v d f) : Reps K κ H [v] [d] f := by have := Reps.cons h (Reps.nil (K := K) (κ := κ) (H := H)); rwa [List.append_nil] at this
theorem Reps.split : ∀ {vs : List V} {d : D} {ds : List D} {fp : List Addr}, Reps K κ H vs (d :: ds) fp → ∃ v us f g, vs = v :: us ∧ Rep K κ H v d f ∧ Reps K κ H us ds g ∧ fp = f ++ g
  | _, _, _, _, .cons h hs => ⟨_, _, _, _, rfl, h, hs, rfl⟩
theorem Reps.nilp : ∀ {vs : List V} {ds : List D}, Reps K κ H vs ds [] → Paired (fun v d => Rep K κ H v d []) vs ds := by
  intro vs ds h
  generalize e : ([] : List Addr) = fp at h
  induction h using Reps.rec (motive_1 := fun _ _ _ _ => True) with
  | nil => exact .nil
  | cons h hs _ ih =>
    obtain ⟨e1, e2⟩ := List.append_eq_nil_iff.mp e.symm
    subst e1; subst e2
    exact .cons h (ih rfl)
  | _ => trivial
theorem Reps.ofp : ∀ {vs : List V} {ds : List D}, Paired (fun v d => Rep K κ H v d []) vs ds → Reps K κ H vs ds []
  | _, _, .nil => .nil
  | _, _, .cons h hs => .cons (f := []) (g := []) h (Reps.ofp hs)
end
theorem Paired.takeN {α β : Type} {R : α → β → Prop} : ∀ {l₁ : List α} {l₂ : List β} (n : Nat), Paired R l₁ l₂ → Paired R (l₁.take n) (l₂.take n)
  | _, _, 0, _ => .nil
  | _, _, _ + 1, .nil => .nil
  | _, _, n + 1, .cons h t => .cons h (Paired.takeN n t)
theorem Paired.dropN {α β : Type} {R : α → β → Prop} : ∀ {l₁ : List α} {l₂ : List β} (n : Nat), Paired R l₁ l₂ → Paired R (l₁.drop n) (l₂.drop n)
  | _, _, 0, r => r
  | _, _, _ + 1, .nil => .nil
  | _, _, n + 1, .cons _ t => Paired.dropN n t
theorem Paired.app {α β : Type} {R : α → β → Prop} : ∀ {l₁ : List α} {l₂ : List β} {m₁ : List α} {m₂ : List β}, Paired R l₁ l₂ → Paired R m₁ m₂ → Paired R (l₁ ++ m₁) (l₂ ++ m₂)
  | _, _, _, _, .nil, r => r
  | _, _, _, _, .cons h t, r => .cons h (Paired.app t r)
theorem Paired.repl {α β : Type} {R : α → β → Prop} {l₁ : List α} {l₂ : List β} (r : Paired R l₁ l₂) : ∀ k : Nat, Paired R (List.replicate k l₁).flatten (List.replicate k l₂).flatten
  | 0 => .nil
  | k + 1 => by rw [List.replicate_succ, List.replicate_succ, List.flatten_cons, List.flatten_cons]; exact Paired.app r (Paired.repl r k)
structure SameK (H H' : Hp) : Prop where
  keep : ∀ a o, H a = some o → kd o = true → H' a = some o
  grow : ∀ a, H' a = none → H a = none
theorem SameK.refl (H : Hp) : SameK H H := ⟨fun _ _ h _ => h, fun _ h => h⟩
theorem SameK.trans {H H1 H2 : Hp} (a : SameK H H1) (b : SameK H1 H2) : SameK H H2 := ⟨fun c o h k => b.keep c o (a.keep c o h k) k, fun c h => a.grow c (b.grow c h)⟩
theorem SameK.of {H H' : Hp} (h : Same H H') : SameK H H' := ⟨fun a o e _ => h a o e, fun a e => h.free e⟩
theorem SameK.new {H : Hp} {p : Addr} (h : H p = none) (o : HO) : SameK H (upd H p o) := .of (same_new h o)
section
variable {K : PySem.W.Frag} {κ : Str → Addr} {H H' : Hp}
theorem Rep.same (e : SameK H H') {v : V} {d : D} {fp : List Addr} (r : Rep K κ H v d fp) : Rep K κ H' v d fp :=
  r.move (fun a o h t => e.keep a o h (kd_of_tf t)) fun a ha => by obtain ⟨o, h, k, _⟩ := r.own a ha; rw [h]; exact e.keep a o h k
theorem Reps.same (e : SameK H H') {v : List V} {d : List D} {fp : List Addr} (r : Reps K κ H v d fp) : Reps K κ H' v d fp :=
  r.move (fun a o h t => e.keep a o h (kd_of_tf t)) fun a ha => by obtain ⟨o, h, k, _⟩ := r.own a ha; rw [h]; exact e.keep a o h k
end
theorem PE.imp {X : Cx} {e : Expr} {t t' : TE} (h : PE X e t) (k : ∀ σ H Q, t' σ H Q → t σ H Q) : PE X e t' := fun pins s σ H Q I q => h pins s σ H Q I (k σ H Q q)
theorem PT.imp {X : Cx} {e : Expr} {t t' : TT} (h : PT X e t) (k : ∀ σ H Q, t' σ H Q → t σ H Q) : PT X e t' := fun pins s σ H Q I q => h pins s σ H Q I (k σ H Q q)
theorem PW.imp {X : Cx} {e : Expr} {t t' : TT} (h : PW X e t) (k : ∀ σ H Q, t' σ H Q → t σ H Q) : PW X e t' := fun wh pins s σ H Q I q => h wh pins s σ H Q I (k σ H Q q)
theorem PA.imp {X : Cx} {e : List Expr} {t t' : TA} (h : PA X e t) (k : ∀ σ H Q, t' σ H Q → t σ H Q) : PA X e t' := fun pos pins s σ H Q I q => h pos pins s σ H Q I (k σ H Q q)
theorem PS.imp {X : Cx} {st : Stmt} {t t' : TS} (h : PS X st t) (k : ∀ D σ H, t' D σ H → t D σ H) : PS X st t' := fun pins s σ H D I q => h pins s σ H D I (k D σ H q)
theorem PSs.imp {X : Cx} {st : List Stmt} {t t' : TS} (h : PSs X st t) (k : ∀ D σ H, t' D σ H → t D σ H) : PSs X st t' := fun pins s σ H D I q => h pins s σ H D I (k D σ H q)
abbrev PSt := List (Option D)
def WS (K : PySem.W.Frag) (κ : Str → Addr) (H : Hp) (σ : St) (ps : PSt) : Prop := ∀ (i : Nat) (d : D), ps[i]? = some (some d) → ∃ v fp, σ[i]? = some (some v) ∧ Rep K κ H v d fp
theorem WS.same {K : PySem.W.Frag} {κ : Str → Addr} {H H' : Hp} {σ : St} {ps : PSt} (w : WS K κ H σ ps) (e : SameK H H') : WS K κ H' σ ps := fun i d h => by
  obtain ⟨v, fp, h1, h2⟩ := w i d h
  exact ⟨v, fp, h1, h2.same e⟩
def NewV (K : PySem.W.Frag) (κ : Str → Addr) (H : Hp) (d : D) (Q : VK) : Prop := ∀ v H' fv, SameK H H' → (∀ a ∈ fv, H a = none) → fv.Nodup → Rep K κ H' v d fv → Q v H'
def SeeV (K : PySem.W.Frag) (κ : Str → Addr) (H : Hp) (d : D) (Q : VK) : Prop := ∀ v H' fp, SameK H H' → Rep K κ H' v d fp → Q v H'
def tV (K : PySem.W.Frag) (κ : Str → Addr) (f : PSt → Option D) : TE := fun σ H Q => ∃ ps d, WS K κ H σ ps ∧ f ps = some d ∧ SeeV K κ H d Q
def tP (K : PySem.W.Frag) (κ : Str → Addr) (f : PSt → Option D) : TE := fun σ H Q => ∃ ps d, WS K κ H σ ps ∧ f ps = some d ∧ NewV K κ H d Q
def tQ (K : PySem.W.Frag) (κ : Str → Addr) (f : PSt → Option Bool) : TT := fun σ H Q => ∃ ps b, WS K κ H σ ps ∧ f ps = some b ∧ ∀ H', SameK H H' → Q b H'
def tVA (K : PySem.W.Frag) (κ : Str → Addr) (f : PSt → Option (List D)) : TA := fun σ H Q => ∃ ps ds, WS K κ H σ ps ∧ f ps = some ds ∧ ∀ vs H' fp, SameK H H' → Reps K κ H' vs ds fp → Q vs H'
def tPA (K : PySem.W.Frag) (κ : Str → Addr) (f : PSt → Option (List D)) : TA := fun σ H Q => ∃ ps ds, WS K κ H σ ps ∧ f ps = some ds ∧ ∀ vs H' fv, SameK H H' → (∀ a ∈ fv, H a = none) → fv.Nodup → Reps K κ H' vs ds fv → Q vs H'
abbrev QV (X : Cx) (κ : Str → Addr) (e : Expr) (f : PSt → Option D) : Prop := PE X e (tV X.K κ f)
abbrev QP (X : Cx) (κ : Str → Addr) (e : Expr) (f : PSt → Option D) : Prop := PE X e (tP X.K κ f)
abbrev QT (X : Cx) (κ : Str → Addr) (e : Expr) (f : PSt → Option Bool) : Prop := PT X e (tQ X.K κ f)
abbrev QW (X : Cx) (κ : Str → Addr) (e : Expr) (f : PSt → Option Bool) : Prop := PW X e (tQ X.K κ f)
abbrev QVA (X : Cx) (κ : Str → Addr) (es : List Expr) (f : PSt → Option (List D)) : Prop := PA X es (tVA X.K κ f)
abbrev QPA (X : Cx) (κ : Str → Addr) (es : List Expr) (f : PSt → Option (List D)) : Prop := PA X es (tPA X.K κ f)
theorem NewV.see {K : PySem.W.Frag} {κ : Str → Addr} {H : Hp} {d : D} {Q : VK} (h : SeeV K κ H d Q) : NewV K κ H d Q := fun v H' fv s _ _ r => h v H' fv s r
theorem NewV.after {K : PySem.W.Frag} {κ : Str → Addr} {H H1 : Hp} {d : D} {Q : VK} (h : NewV K κ H d Q) (s : SameK H H1) : NewV K κ H1 d Q :=
  fun v H' fv s' n nd r => h v H' fv (s.trans s') (fun a ha => s.grow a (n a ha)) nd r
theorem NewV.now {K : PySem.W.Frag} {κ : Str → Addr} {H : Hp} {d : D} {Q : VK} {v : V} (h : NewV K κ H d Q) (r : Rep K κ H v d []) : Q v H := h v H [] (.refl H) (fun _ h => absurd h (by simp)) List.nodup_nil r
theorem NewV.at {K : PySem.W.Frag} {κ : Str → Addr} {H : Hp} {d : D} {Q : VK} {p : Addr} {o : HO} {fv : List Addr} (h : NewV K κ H d Q) (hp : H p = none) (hn : ∀ a ∈ fv, H a = none) (nd : fv.Nodup) (r : Rep K κ (upd H p o) (.ref p) d fv) : Q (.ref p) (upd H p o) :=
  h _ _ fv (.new hp o) hn nd r
theorem SeeV.after {K : PySem.W.Frag} {κ : Str → Addr} {H H1 : Hp} {d : D} {Q : VK} (h : SeeV K κ H d Q) (s : SameK H H1) : SeeV K κ H1 d Q := fun v H' fp s' r => h v H' fp (s.trans s') r
section
variable {X : Cx} {κ : Str → Addr} {e a b : Expr} {f fa fb : PSt → Option D}
theorem QP.v (h : QP X κ e f) : QV X κ e f := h.imp fun _ _ _ ⟨ps, d, w, e, q⟩ => ⟨ps, d, w, e, .see q⟩
def fImm (f : PSt → Option D) : PSt → Option D := fun ps => (f ps).bind fun d => if d.imm = true then some d else none
theorem QV.p (h : QV X κ e f) : QP X κ e (fImm f) := h.imp fun σ H Q ⟨ps, d, w, e, q⟩ => by
  unfold fImm at e
  cases e1 : f ps with
  | none => rw [e1] at e; cases e
  | some d1 =>
    rw [e1] at e
    by_cases hi : d1.imm = true
    · have e2 : d1 = d := by simpa [hi] using e
      subst e2
      refine ⟨ps, d1, w, e1, fun v H' fp s r => ?_⟩
      have := r.imm hi; subst this
      exact q v H' [] s (fun _ h => absurd h (by simp)) List.nodup_nil r
    · simp [hi] at e
def fVar (i : Nat) : PSt → Option D := fun ps => (ps[i]?).join
theorem qv_name (i : Nat) {x : Str} {pos : Pos} (hN : X.N[i]? = some x := by rfl) (hv : Vis X.env.scope x := by first | exact Or.inl rfl | exact Or.inr (Or.inl rfl) | exact Or.inr (Or.inr rfl)) (hd : (x == ("__debug__" : Str)) = false := by decide)
    (hcd : (x == ("__classdict__" : Str)) = false := by decide) : QV X κ (.Name x pos) (fVar i) := (pe_var hN hv hd hcd).imp fun σ H Q ⟨ps, d, w, e, q⟩ => by
  have e' : ps[i]? = some (some d) := by
    unfold fVar at e
    cases q : ps[i]? with
    | none => rw [q] at e; cases e
    | some o => rw [q] at e; exact congrArg some e
  obtain ⟨v, fp, h1, h2⟩ := w i d e'
  exact ⟨v, h1, q v H fp (.refl H) h2⟩
def fC (d : D) : PSt → Option D := fun _ => some d
theorem qp_int {i j pos} : QP X κ (.Constant (.int i) j pos) (fC (.int i)) := pe_int.imp fun σ H Q ⟨ps, d, w, e, q⟩ => by cases e; exact q _ H [] (.refl H) (fun _ h => absurd h (by simp)) List.nodup_nil (.int i)
theorem qp_str {x j pos} : QP X κ (.Constant (.str x) j pos) (fC (.str x)) := pe_str.imp fun σ H Q ⟨ps, d, w, e, q⟩ => by cases e; exact q _ H [] (.refl H) (fun _ h => absurd h (by simp)) List.nodup_nil (.str x)
theorem qp_bl {b j pos} : QP X κ (.Constant (.bool b) j pos) (fC (.bl b)) := pe_bl.imp fun σ H Q ⟨ps, d, w, e, q⟩ => by cases e; exact q _ H [] (.refl H) (fun _ h => absurd h (by simp)) List.nodup_nil (.bl b)
theorem qp_glob {x : Str} {v : V} {u : Value} {d : D} {pos : Pos} (hg : Gl X x) (hm : X.mg x = some u) (r : RelV v u) (hd : ∀ H, Rep X.K κ H v d []) (hdb : (x == ("__debug__" : Str)) = false := by decide) : QP X κ (.Name x pos) (fC d) :=
  (pe_glob hg hm r hdb).imp fun σ H Q ⟨ps, d, w, e, q⟩ => by cases e; exact q _ H [] (.refl H) (fun _ h => absurd h (by simp)) List.nodup_nil (hd H)
theorem qp_ty {x : Str} {n : String} {pos : Pos} (hg : Gl X x) (hm : X.mg x = none) (hv : bootBuiltins x = some (.type n)) (hn : x ≠ "__name__" := by decide) (hd : (x == ("__debug__" : Str)) = false := by decide) : QP X κ (.Name x pos) (fC (.ty n)) :=
  (pe_bltn (v := .ty n) hg hm hv rfl hn hd).imp fun σ H Q ⟨ps, d, w, e, q⟩ => by cases e; exact q _ H [] (.refl H) (fun _ h => absurd h (by simp)) List.nodup_nil (.ty n)
def f2 (g : D → D → Option D) (fa fb : PSt → Option D) : PSt → Option D := fun ps => (fa ps).bind fun x => (fb ps).bind fun y => g x y
def POp (K : PySem.W.Frag) (κ : Str → Addr) (g : D → D → Option D) : R2 := fun x y H Q => ∃ dx dy d fx fy, Rep K κ H x dx fx ∧ Rep K κ H y dy fy ∧ g dx dy = some d ∧ NewV K κ H d Q
theorem f2_some {g : D → D → Option D} {fa fb : PSt → Option D} {ps : PSt} {d : D} (h : f2 g fa fb ps = some d) : ∃ x y, fa ps = some x ∧ fb ps = some y ∧ g x y = some d := by
  unfold f2 at h
  cases e1 : fa ps with
  | none => rw [e1] at h; cases h
  | some x =>
    rw [e1] at h
    cases e2 : fb ps with
    | none => rw [e2] at h; cases h
    | some y => rw [e2] at h; exact ⟨x, y, rfl, rfl, h⟩
theorem tOp_of {r : R2} {g : D → D → Option D} {σ : St} {H : Hp} {Q : VK} (hr : ∀ x y H Q, POp X.K κ g x y H Q → r x y H Q) (h : tP X.K κ (f2 g fa fb) σ H Q) : tOp r (tV X.K κ fa) (tV X.K κ fb) σ H Q := by
  obtain ⟨ps, d, w, e, q⟩ := h
  obtain ⟨x, y, e1, e2, e3⟩ := f2_some e
  exact ⟨ps, x, w, e1, fun v H1 fp s1 r1 => ⟨ps, y, w.same s1, e2, fun u H2 fq s2 r2 => hr _ _ _ _ ⟨x, y, d, fp, fq, r1.same s2, r2, e3, q.after (s1.trans s2)⟩⟩⟩
theorem qp_op {op : Operator} {g : D → D → Option D} {pos : Pos} (ho : OpR X (binaryOp op) (POp X.K κ g)) (ha : QV X κ a fa) (hb : QV X κ b fb) : QP X κ (.BinOp a op b pos) (f2 g fa fb) :=
  (pe_op ho ha hb).imp fun _ _ _ h => tOp_of (fun _ _ _ _ h => h) h
theorem qp_cmp {op : CmpOp} {g : D → D → Option D} {pos : Pos} (ho : OpR X (compareOp op) (POp X.K κ g)) (ha : QV X κ a fa) (hb : QV X κ b fb) (hm : behindInMarks op b = false) : QP X κ (.Compare a [op] [b] pos) (f2 g fa fb) :=
  (pe_cmpR ho ha hb hm).imp fun _ _ _ h => tOp_of (fun _ _ _ _ h => h) h
def dB : D → Option Bool
  | .bl b => some b
  | _ => none
def fB (f : PSt → Option D) : PSt → Option Bool := fun ps => (f ps).bind dB
theorem fB_some {f : PSt → Option D} {ps : PSt} {b : Bool} (h : fB f ps = some b) : f ps = some (.bl b) := by
  unfold fB at h
  cases e : f ps with
  | none => rw [e] at h; cases h
  | some d => rw [e] at h; cases d <;> first | (cases h; rfl) | cases h
theorem Rep.is_bl {K : PySem.W.Frag} {H : Hp} {v : V} {b : Bool} {fp : List Addr} (r : Rep K κ H v (.bl b) fp) : v = .bl b := by cases r; rfl
theorem Rep.is_int {K : PySem.W.Frag} {H : Hp} {v : V} {b : Int} {fp : List Addr} (r : Rep K κ H v (.int b) fp) : v = .int b := by cases r; rfl
theorem Rep.is_str {K : PySem.W.Frag} {H : Hp} {v : V} {b : Str} {fp : List Addr} (r : Rep K κ H v (.str b) fp) : v = .str b := by cases r; rfl
theorem qt_cmp {op : CmpOp} {g : D → D → Option D} {pos : Pos} (ho : OpR X (compareOp op) (POp X.K κ g)) (ha : QV X κ a fa) (hb : QV X κ b fb) (hm : behindInMarks op b = false) : QT X κ (.Compare a [op] [b] pos) (fB (f2 g fa fb)) :=
  (pt_cmpR ho ha hb hm).imp fun σ H Q ⟨ps, c, w, e, q⟩ => tOp_of (Q := fun x H' => ∃ k, x = .bl k ∧ Q k H') (fun _ _ _ _ h => h) ⟨ps, _, w, fB_some e, fun v H' fv s _ _ r => ⟨c, r.is_bl, q H' s⟩⟩
def f3 (g g' : D → D → Option D) (fa fb fc : PSt → Option D) : PSt → Option D := fun ps => (fa ps).bind fun x => (fb ps).bind fun y => (g x y).bind fun k => match k with
  | .bl true => (fc ps).bind fun z => g' y z
  | .bl false => some (.bl false)
  | _ => none
def dTru : D → Option Bool
  | .non => some false
  | .bl b => some b
  | .int i => some (i != 0)
  | .str y => if y.length ≤ sizeLine then some ((y.length : Int) != 0) else none
  | .lst _ xs => some (!xs.isEmpty)
  | .tup xs => some (!xs.isEmpty)
  | .con xs => some (!xs.isEmpty)
  | _ => none
theorem isEmpty_reps {K : PySem.W.Frag} {H : Hp} {vs : List V} {ds : List D} {fp : List Addr} (r : Reps K κ H vs ds fp) : ds.isEmpty = vs.isEmpty := by cases r <;> rfl
theorem dTru_ok {K : PySem.W.Frag} {H : Hp} {v : V} {d : D} {fp : List Addr} {b : Bool} (r : Rep K κ H v d fp) (h : dTru d = some b) : TruV K v H b := by
  cases r with
  | non => cases h; rfl
  | bl b => cases h; rfl
  | int i => cases h; rfl
  | str x =>
    rw [dTru] at h
    split at h
    · cases h; exact ⟨by assumption, rfl⟩
    · cases h
  | tup s rs => cases h; exact .inr (.inl ⟨_, s, by rw [isEmpty_reps rs]⟩)
  | con s rs => cases h; exact .inl ⟨_, s.l, by rw [isEmpty_reps rs]⟩
  | lst s rs => cases h; exact .inl ⟨_, .inl (.inl s), by rw [isEmpty_reps rs]⟩
  | lstF s rs => cases h; exact .inl ⟨_, .inl (.inr ⟨_, s⟩), by rw [isEmpty_reps rs]⟩
  | _ => cases h
def fT (f : PSt → Option D) : PSt → Option Bool := fun ps => (f ps).bind dTru
theorem fT_some {f : PSt → Option D} {ps : PSt} {b : Bool} (h : fT f ps = some b) : ∃ d, f ps = some d ∧ dTru d = some b := by
  unfold fT at h
  cases e : f ps with
  | none => rw [e] at h; cases h
  | some d => rw [e] at h; exact ⟨d, rfl, h⟩
theorem qt_val (ha : QV X κ a fa) (he : ∀ whole, isTrue a X.env whole = (do let v ← whole; standAt a.pos; holding [v] (truthy v)) := by intro _; rfl) : QT X κ a (fT fa) :=
  (pt_truth ha he).imp fun σ H Q ⟨ps, c, w, e, q⟩ => by
    obtain ⟨d, e1, e2⟩ := fT_some e
    exact ⟨ps, d, w, e1, fun v H' fp s r => ⟨c, dTru_ok r e2, q H' s⟩⟩
def tAndF (f g : PSt → Option Bool) : PSt → Option Bool := fun ps => (f ps).bind fun c => if c = true then g ps else some false
def tOrF (f g : PSt → Option Bool) : PSt → Option Bool := fun ps => (f ps).bind fun c => if c = true then some true else g ps
def tNotF (f : PSt → Option Bool) : PSt → Option Bool := fun ps => (f ps).map (!·)
variable {pos : Pos} {rest : List Expr} {ta tb : PSt → Option Bool}
theorem qw_and1 (ha : QT X κ a ta) : QW X κ (.BoolOp .And [a] pos) ta := pw_and1 ha
theorem qw_or1 (ha : QT X κ a ta) : QW X κ (.BoolOp .Or [a] pos) ta := pw_or1 ha
theorem qw_and (ha : QT X κ a ta) (hb : QW X κ (.BoolOp .And (b :: rest) pos) tb) : QW X κ (.BoolOp .And (a :: b :: rest) pos) (tAndF ta tb) :=
  (pw_and ha hb).imp fun σ H Q ⟨ps, c, w, e, q⟩ => by
    unfold tAndF at e
    cases e1 : ta ps with
    | none => rw [e1] at e; cases e
    | some k =>
      rw [e1] at e
      refine ⟨ps, k, w, e1, fun H1 s1 => ?_⟩
      cases k with
      | true => rw [if_pos rfl]; exact ⟨ps, c, w.same s1, by simpa using e, fun H2 s2 => q H2 (s1.trans s2)⟩
      | false =>
        rw [if_neg Bool.false_ne_true]
        have : c = false := by simpa using e.symm
        subst this; exact q H1 s1
theorem qw_or (ha : QT X κ a ta) (hb : QW X κ (.BoolOp .Or (b :: rest) pos) tb) : QW X κ (.BoolOp .Or (a :: b :: rest) pos) (tOrF ta tb) :=
  (pw_or ha hb).imp fun σ H Q ⟨ps, c, w, e, q⟩ => by
    unfold tOrF at e
    cases e1 : ta ps with
    | none => rw [e1] at e; cases e
    | some k =>
      rw [e1] at e
      refine ⟨ps, k, w, e1, fun H1 s1 => ?_⟩
      cases k with
      | true =>
        rw [if_pos rfl]
        have : c = true := by simpa using e.symm
        subst this; exact q H1 s1
      | false => rw [if_neg Bool.false_ne_true]; exact ⟨ps, c, w.same s1, by simpa using e, fun H2 s2 => q H2 (s1.trans s2)⟩
theorem qt_w (h : QW X κ a ta) : QT X κ a ta := PW.pt h
theorem qt_not (ha : QT X κ a ta) : QT X κ (.UnaryOp .Not a pos) (tNotF ta) :=
  (pt_not ha).imp fun σ H Q ⟨ps, c, w, e, q⟩ => by
    unfold tNotF at e
    cases e1 : ta ps with
    | none => rw [e1] at e; cases e
    | some k =>
      rw [e1] at e
      have : c = !k := by simpa using e.symm
      subst this
      exact ⟨ps, k, w, e1, fun H1 s1 => q H1 s1⟩
def fNeg (f : PSt → Option D) : PSt → Option D := fun ps => (f ps).bind fun c => match c with
  | .int i => some (.int (-i))
  | _ => none
theorem qp_neg (ha : QV X κ a fa) : QP X κ (.UnaryOp .USub a pos) (fNeg fa) :=
  (pe_un un_neg ha).imp fun σ H Q ⟨ps, d, w, e, q⟩ => by
    unfold fNeg at e
    cases e1 : fa ps with
    | none => rw [e1] at e; cases e
    | some k =>
      rw [e1] at e
      cases k with
      | int i => cases e; exact ⟨ps, _, w, e1, fun v H1 fp s1 r1 => ⟨i, r1.is_int, (q.after s1).now (.int _)⟩⟩
      | _ => cases e
end
end L2
namespace L2
open PySem PySem.Spec PyProof.Rows
section
variable {X : Cx} {κ : Str → Addr}
theorem Inv.lstR {pins : List (Addr × Obj)} {σ : St} {H : Hp} {s : Shared} {l : Addr} {xs : List V} (I : Inv X pins σ H s) (h : Rd H l (.lst xs)) :
    xs.length ≤ sizeLine ∧ ∃ (its : List Value) (n : Nat), Vals xs its ∧ xs.length = its.length ∧ s.heap.get? l = some { cls := .type "list", data := .seq its.toArray n } := by
  obtain ⟨z, its, n, r, e⟩ := h.ok I.hok
  exact ⟨z, its, n, r, r.length, e⟩
theorem op_catR : OpR X (binaryOp .Add) (fun x y H Q => ∃ l b xs zs, x = .ref l ∧ y = .ref b ∧ Rd H l (.lst xs) ∧ Rd H b (.lst zs) ∧ xs.length + zs.length ≤ sizeLine ∧ ∀ p, H p = none → Q (.ref p) (upd H p (.lst (xs ++ zs)))) := by
  intro pins s σ H x y v u Q I rx ry h
  obtain ⟨l, b, xs, zs, rfl, rfl, hH, hB, hz, q⟩ := h
  cases rx
  cases ry
  obtain ⟨z, its, n, r, hl, e⟩ := I.lstR hH
  obtain ⟨z2, its2, n2, r2, hl2, e2⟩ := I.lstR hB
  refine PySem.P.add_list e e2 ?_ (by rw [List.size_toArray, List.size_toArray]; omega)
  have ea : its.toArray ++ its2.toArray = (its ++ its2).toArray := by simp
  rw [ea]
  exact ⟨.ref _, _, I.lnew (t' := s.toks) (r.append r2) (by rw [List.length_append]; omega), rfl, q _ I.fresh⟩
theorem op_repR : OpR X (binaryOp .Mult) (fun x y H Q => ∃ l k xs, x = .ref l ∧ y = .int k ∧ Rd H l (.lst xs) ∧ -(2 ^ 63) ≤ k ∧ k < 2 ^ 63 ∧ xs.length * k.toNat ≤ sizeLine ∧
    ∀ p, H p = none → Q (.ref p) (upd H p (.lst (List.replicate k.toNat xs).flatten))) := by
  intro pins s σ H x y v u Q I rx ry h
  obtain ⟨l, k, xs, rfl, rfl, hH, h1, h2, hz, q⟩ := h
  cases rx
  obtain ⟨t, rfl⟩ := ry
  obtain ⟨z, its, n, r, hl, e⟩ := I.lstR hH
  have hlen : its.toArray.size * k.toNat ≤ sizeLine := by rw [List.size_toArray, ← hl]; exact hz
  have hcap : ¬ its.toArray.size * k.toNat > (2 ^ 63 - 1) / 8 := by
    have : (sizeLine : Nat) ≤ (2 ^ 63 - 1) / 8 := by decide
    omega
  have hfit : ¬ (!Builtin.List.listFitsIndex k) = true := by
    rw [fitsIndex_both h1 h2]
    exact Bool.false_ne_true
  have hlong : ¬ Builtin.List.listTooLong (its.toArray.size * k.toNat) = true := by
    rw [notLongL hlen]
    exact Bool.false_ne_true
  have hnew : List.foldl (fun x1 x2 => x1 ++ x2) #[] (List.replicate (if its.toArray.isEmpty = true then 0 else k.toNat) its.toArray) = (List.replicate k.toNat its).flatten.toArray := by
    have f0 : ∀ m : Nat, List.foldl (fun x1 x2 => x1 ++ x2) #[] (List.replicate m its.toArray) = (List.replicate m its).flatten.toArray := fun m => by
      have := foldl_rep its m []
      rw [List.nil_append] at this
      exact this
    rw [f0]
    cases its with
    | nil => simp
    | cons a r' => rw [if_neg (by simp)]
  refine wpAny_binaryOp_repeat_ref (T := "list") (U := "int") (by decide) ⟨_, e, rfl⟩ (fun s' => typeIs_int s' k t) noFill_list_mul F.fills_int_mul F.slot_int_rmul repeat_list F.slot_int_index.lookup
    (call_meets F.slot_int_rmul (typeIs_int s k t) F.entry_int_rmul (F.args_int_rmul_2 _ _) (int___rmul___int_list k t l its.toArray n)
      ⟨e, rfl, ⟨_, e, rfl⟩, call_meets F.slot_list_mul ⟨_, e, rfl⟩ F.entry_list_mul (F.args_list_mul_2 _ _) (AutoListH.list___mul___list_int_3 l its.toArray n k t hfit hcap hlong) ⟨e, ?_⟩⟩)
  rw [hnew]
  exact ⟨.ref _, _, I.lnew (t' := s.toks) (r.rep k.toNat) (by rw [len_rep, Nat.mul_comm]; exact hz), rfl, q _ I.fresh⟩
theorem op_catT0 : OpR X (binaryOp .Add) (fun x y H Q => ∃ a b ys, x = .ref a ∧ y = .ref b ∧ SqT X.K H a [] ∧ SqT X.K H b ys ∧ Q (.ref b) H) := by
  intro pins s σ H x y v u Q I rx ry h
  obtain ⟨a, b, ys, rfl, rfl, ha, hb, q⟩ := h
  cases rx
  cases ry
  obtain ⟨its, r1, p1, _⟩ := I.tuple ha
  obtain ⟨its2, r2, p2, _⟩ := I.tuple hb
  cases r1
  obtain ⟨⟨cls, dd, data, sl⟩, ho, hc, n, hd⟩ := id p1
  obtain ⟨⟨cls2, dd2, data2, sl2⟩, ho2, hc2, n2, hd2⟩ := id p2
  simp only at hc hd hc2 hd2
  subst hc hd hc2 hd2
  exact concat_meets ⟨_, ho, rfl⟩ ⟨_, ho2, rfl⟩ noFill_tuple_add seq_tuple_add PySem.F.slot_tuple_add PySem.F.entry_tuple_add (PySem.F.args_tuple_add_2 _ _)
      (tuple_addW0 a b _ _ n n2 dd dd2 sl sl2 rfl) ⟨ho, ho2, ⟨.ref b, H, I, rfl, q⟩⟩
theorem Rep.lst_inv {K : PySem.W.Frag} {H : Hp} {v : V} {o : Bool} {ds : List D} {fp : List Addr} (r : Rep K κ H v (.lst o ds) fp) : ∃ a vs g, v = .ref a ∧ Rd H a (.lst vs) ∧ Reps K κ H vs ds g ∧ g.Sublist fp := by
  cases r with
  | lst h hs => exact ⟨_, _, _, rfl, .inl h, hs, List.sublist_cons_self _ _⟩
  | lstF h hs => exact ⟨_, _, _, rfl, .inr ⟨_, h⟩, hs, .refl _⟩
theorem Rep.tup_inv {K : PySem.W.Frag} {H : Hp} {v : V} {ds : List D} {fp : List Addr} (r : Rep K κ H v (.tup ds) fp) : ∃ a vs, v = .ref a ∧ SqT K H a vs ∧ Reps K κ H vs ds [] := by
  cases r with
  | tup h hs => exact ⟨_, _, rfl, h, hs⟩
theorem Reps.pair {K : PySem.W.Frag} {H : Hp} {vs : List V} {ds : List D} {fp : List Addr} (r : Reps K κ H vs ds fp) (h : D.imms ds = true) : Paired (fun v d => Rep K κ H v d []) vs ds := by
  have e := r.imm h
  subst e
  exact r.nilp
theorem Rep.con_inv {K : PySem.W.Frag} {H : Hp} {v : V} {ds : List D} {fp : List Addr} (r : Rep K κ H v (.con ds) fp) : ∃ a vs, v = .ref a ∧ SqF K H a vs ∧ Reps K κ H vs ds [] := by
  cases r with
  | con h hs => exact ⟨_, _, rfl, h, hs⟩
theorem new_lst {K : PySem.W.Frag} {H : Hp} {vs : List V} {ds : List D} {Q : VK} {p : Addr} (hp : H p = none) (r : Paired (fun v d => Rep K κ H v d []) vs ds) (q : NewV K κ H (.lst true ds) Q) : Q (.ref p) (upd H p (.lst vs)) :=
  q.at hp (fv := [p]) (fun a ha => by simp at ha; subst ha; exact hp) (by simp) (.lst upd_same ((Reps.ofp r).same (.new hp _)))
theorem new_tup {K : PySem.W.Frag} {H : Hp} {vs : List V} {ds : List D} {Q : VK} {p : Addr} (hp : H p = none) (r : Paired (fun v d => Rep K κ H v d []) vs ds) (q : NewV K κ H (.tup ds) Q) : Q (.ref p) (upd H p (.tup vs)) :=
  q.at hp (fv := []) (fun a ha => by simp at ha) (by simp) (.tup (.inl (.inl upd_same)) ((Reps.ofp r).same (.new hp _)))
def dAdd : D → D → Option D
  | .int i, .int j => some (.int (i + j))
  | .str x, .str y => if x.length + y.length ≤ sizeLine then some (.str (x ++ y)) else none
  | .lst _ xs, .lst _ ys => if (D.imms xs && D.imms ys && decide (xs.length + ys.length ≤ sizeLine)) = true then some (.lst true (xs ++ ys)) else none
  | .tup xs, .tup ys => if xs.length + ys.length ≤ sizeLine then some (.tup (xs ++ ys)) else none
  | _, _ => none
theorem o_add : OpR X (binaryOp .Add) (POp X.K κ dAdd) := by
  intro pins s σ H x y v u Q I rx ry ⟨dx, dy, d, fx, fy, r1, r2, e, q⟩
  cases dx with
  | int i => cases dy with
    | int j => cases e; exact op_add pins s σ H x y v u Q I rx ry ⟨i, j, r1.is_int, r2.is_int, q.now (.int _)⟩
    | _ => cases e
  | str i => cases dy with
    | str j =>
      rw [dAdd] at e
      split at e
      · cases e; exact op_add_str pins s σ H x y v u Q I rx ry ⟨i, j, r1.is_str, r2.is_str, by assumption, q.now (.str _)⟩
      · cases e
    | _ => cases e
  | lst o xs => cases dy with
    | lst o' ys =>
      rw [dAdd] at e
      split at e
      · rename_i hc
        simp only [Bool.and_eq_true, decide_eq_true_eq] at hc
        cases e
        obtain ⟨a, vs, g, rfl, h1, s1, _⟩ := r1.lst_inv
        obtain ⟨b, us, g', rfl, h2, s2, _⟩ := r2.lst_inv
        have l1 := s1.length; have l2 := s2.length
        exact op_catR pins s σ H _ _ v u Q I rx ry ⟨a, b, vs, us, rfl, rfl, h1, h2, by omega, fun p hp => new_lst hp (Paired.app (s1.pair hc.1.1) (s2.pair hc.1.2)) q⟩
      · cases e
    | _ => cases e
  | tup xs => cases dy with
    | tup ys =>
      rw [dAdd] at e
      split at e
      · rename_i hc
        cases e
        obtain ⟨a, vs, rfl, h1, s1⟩ := r1.tup_inv
        obtain ⟨b, us, rfl, h2, s2⟩ := r2.tup_inv
        have l1 := s1.length; have l2 := s2.length
        cases vs with
        | nil =>
          cases s1
          exact op_catT0 pins s σ H _ _ v u Q I rx ry ⟨a, b, us, rfl, rfl, h1, h2, q.now (.tup h2 s2)⟩
        | cons w ws =>
          refine op_catT pins s σ H _ _ v u Q I rx ry ⟨a, b, _, us, rfl, rfl, h1, h2, by simp, by omega, fun z => ?_, fun z p hp => new_tup hp (Paired.app s1.nilp s2.nilp) q⟩
          subst z
          cases s2
          rw [List.append_nil] at q
          exact q.now (.tup h1 s1)
      · cases e
    | _ => cases e
  | _ => cases dy <;> cases e
def dII (C : Int → Int → Bool) (g : Int → Int → D) : D → D → Option D
  | .int i, .int j => if C i j = true then some (g i j) else none
  | _, _ => none
theorem dII_some {C : Int → Int → Bool} {g : Int → Int → D} {x y d : D} (h : dII C g x y = some d) : ∃ i j, x = .int i ∧ y = .int j ∧ C i j = true ∧ d = g i j := by
  cases x with
  | int i => cases y with
    | int j =>
      rw [dII] at h
      split at h
      · cases h; exact ⟨i, j, rfl, rfl, by assumption, rfl⟩
      · cases h
    | _ => cases h
  | _ => cases y <;> cases h
def mulOkB (i j : Int) : Bool := (decide (-(2 ^ 64) < i) && decide (i < 2 ^ 64)) || (decide (-(2 ^ 64) < j) && decide (j < 2 ^ 64))
def dMul : D → D → Option D
  | .int i, .int j => if mulOkB i j = true then some (.int (i * j)) else none
  | .lst _ xs, .int k => if (D.imms xs && decide (-(2 ^ 63) ≤ k) && decide (k < 2 ^ 63) && decide (xs.length * k.toNat ≤ sizeLine)) = true then some (.lst true (List.replicate k.toNat xs).flatten) else none
  | .str x, .int n => if (decide (x.length ≤ 1) && decide (-(2 ^ 63) ≤ n) && decide (n ≤ 16777216)) = true then some (.str (Txt.mul x n)) else none
  | _, _ => none
theorem op_mul_str : OpR X (binaryOp .Mult) (fun x y H Q => ∃ z n, x = .str z ∧ y = .int n ∧ MulOk z n ∧ Q (.str (Txt.mul z n)) H) := by
  intro pins s σ H x y v u Q I rx ry ⟨z, n, e1, e2, ok, q⟩
  subst e1 e2
  obtain ⟨t, rfl⟩ := rx
  obtain ⟨t', rfl⟩ := ry
  exact SB.mul ok fun t' k => ⟨.str _, H, I.tok k, ⟨_, rfl⟩, q⟩
theorem o_mul : OpR X (binaryOp .Mult) (POp X.K κ dMul) := by
  intro pins s σ H x y v u Q I rx ry ⟨dx, dy, d, fx, fy, r1, r2, e, q⟩
  cases dx with
  | int i => cases dy with
    | int j =>
      rw [dMul] at e
      split at e
      · rename_i hc
        cases e
        refine op_mul pins s σ H x y v u Q I rx ry ⟨i, j, r1.is_int, r2.is_int, ?_, q.now (.int _)⟩
        unfold mulOkB at hc
        simp only [Bool.or_eq_true, Bool.and_eq_true, decide_eq_true_eq] at hc
        exact hc
      · cases e
    | _ => cases e
  | lst o xs => cases dy with
    | int k =>
      rw [dMul] at e
      split at e
      · rename_i hc
        simp only [Bool.and_eq_true, decide_eq_true_eq] at hc
        cases e
        obtain ⟨a, vs, g, rfl, h1, s1, _⟩ := r1.lst_inv
        have l1 := s1.length
        exact op_repR pins s σ H _ _ v u Q I rx ry ⟨a, k, vs, rfl, r2.is_int, h1, hc.1.1.2, hc.1.2, by rw [l1]; exact hc.2, fun p hp => new_lst hp (Paired.repl (s1.pair hc.1.1.1) _) q⟩
      · cases e
    | _ => cases e
  | str z => cases dy with
    | int n =>
      rw [dMul] at e
      split at e
      · rename_i hc
        simp only [Bool.and_eq_true, decide_eq_true_eq] at hc
        cases e
        exact op_mul_str pins s σ H _ _ v u Q I rx ry ⟨z, n, r1.is_str, r2.is_int, mulOk_of 1 16777216 hc.1.1 (by omega) hc.1.2 (by decide) (by decide), q.now (.str _)⟩
      · cases e
    | _ => cases e
  | _ => cases dy <;> cases e
def dMod : D → D → Option D := dII (fun _ j => decide (0 < j)) fun i j => .int (i % j)
theorem o_mod : OpR X (binaryOp .Mod) (POp X.K κ dMod) := by
  intro pins s σ H x y v u Q I rx ry ⟨dx, dy, d, fx, fy, r1, r2, e, q⟩
  obtain ⟨i, j, rfl, rfl, hc, rfl⟩ := dII_some e
  exact op_mod pins s σ H x y v u Q I rx ry ⟨i, j, r1.is_int, r2.is_int, of_decide_eq_true hc, q.now (.int _)⟩
def dDiv : D → D → Option D := dII (fun _ j => decide (0 < j) && decide (j < 1073741824)) fun i j => .int (i / j)
theorem o_div : OpR X (binaryOp .FloorDiv) (POp X.K κ dDiv) := by
  intro pins s σ H x y v u Q I rx ry ⟨dx, dy, d, fx, fy, r1, r2, e, q⟩
  obtain ⟨i, j, rfl, rfl, hc, rfl⟩ := dII_some e
  simp only [Bool.and_eq_true, decide_eq_true_eq] at hc
  exact op_fdiv pins s σ H x y v u Q I rx ry ⟨i, j, r1.is_int, r2.is_int, hc, q.now (.int _)⟩
def D.ints : List D → Option (List Int)
  | [] => some []
  | .int i :: ds => (D.ints ds).map (i :: ·)
  | _ :: _ => none
theorem ints_of {K : PySem.W.Frag} {H : Hp} : ∀ {vs : List V} {ds : List D} {fp : List Addr} {ns : List Int}, Reps K κ H vs ds fp → D.ints ds = some ns → vs = ns.map V.int
  | _, _, _, _, .nil, e => by cases e; rfl
  | _, d :: ds, _, ns, .cons h hs, e => by
    cases d with
    | int i =>
      rw [D.ints] at e
      cases e1 : D.ints ds with
      | none => rw [e1] at e; cases e
      | some ms => rw [e1] at e; cases e; rw [h.is_int, ints_of hs e1]; rfl
    | _ => cases e
def dLt : D → D → Option D
  | .int i, .int j => some (.bl (decide (i < j)))
  | .str i, .str j => some (.bl (decide (i.cps.toList < j.cps.toList)))
  | .tup xs, .tup ys => (D.ints xs).bind fun ns => (D.ints ys).map fun ms => .bl (HT.lexLt ns ms)
  | _, _ => none
theorem o_lt (hu : X.A.units < cLine) : OpR X (compareOp .Lt) (POp X.K κ dLt) := by
  intro pins s σ H x y v u Q I rx ry ⟨dx, dy, d, fx, fy, r1, r2, e, q⟩
  cases dx with
  | int i => cases dy with
    | int j => cases e; exact op_lt pins s σ H x y v u Q I rx ry ⟨i, j, r1.is_int, r2.is_int, q.now (.bl _)⟩
    | _ => cases e
  | str i => cases dy with
    | str j => cases e; exact op_lt_str pins s σ H x y v u Q I rx ry ⟨i, j, r1.is_str, r2.is_str, q.now (.bl _)⟩
    | _ => cases e
  | tup xs => cases dy with
    | tup ys =>
      rw [dLt] at e
      cases e1 : D.ints xs with
      | none => rw [e1] at e; cases e
      | some ns =>
        rw [e1] at e
        cases e2 : D.ints ys with
        | none => rw [e2] at e; cases e
        | some ms =>
          rw [e2] at e
          cases e
          obtain ⟨a, vs, rfl, h1, s1⟩ := r1.tup_inv
          obtain ⟨b, us, rfl, h2, s2⟩ := r2.tup_inv
          rw [ints_of s1 e1] at h1
          rw [ints_of s2 e2] at h2
          exact op_ltT hu pins s σ H _ _ v u Q I rx ry ⟨a, b, ns, ms, rfl, rfl, h1, h2, q.now (.bl _)⟩
    | _ => cases e
  | _ => cases dy <;> cases e
def dLe : D → D → Option D
  | .int i, .int j => some (.bl (decide (i ≤ j)))
  | .str i, .str j => some (.bl (!sLt j i))
  | _, _ => none
theorem o_le : OpR X (compareOp .LtE) (POp X.K κ dLe) := by
  intro pins s σ H x y v u Q I rx ry ⟨dx, dy, d, fx, fy, r1, r2, e, q⟩
  cases dx with
  | int i => cases dy with
    | int j => cases e; exact op_le pins s σ H x y v u Q I rx ry ⟨i, j, r1.is_int, r2.is_int, q.now (.bl _)⟩
    | _ => cases e
  | str i => cases dy with
    | str j => cases e; exact op_le_str pins s σ H x y v u Q I rx ry ⟨i, j, r1.is_str, r2.is_str, q.now (.bl _)⟩
    | _ => cases e
  | _ => cases dy <;> cases e
def dGt : D → D → Option D
  | .int i, .int j => some (.bl (decide (j < i)))
  | _, _ => none
theorem o_gt : OpR X (compareOp .Gt) (POp X.K κ dGt) := by
  intro pins s σ H x y v u Q I rx ry ⟨dx, dy, d, fx, fy, r1, r2, e, q⟩
  cases dx with
  | int i => cases dy with
    | int j => cases e; exact op_gt pins s σ H x y v u Q I rx ry ⟨i, j, r1.is_int, r2.is_int, q.now (.bl _)⟩
    | _ => cases e
  | _ => cases dy <;> cases e
def dGe : D → D → Option D
  | .int i, .int j => some (.bl (decide (j ≤ i)))
  | _, _ => none
mutual
def D.data : D → Option PyData
  | .non => some .none
  | .bl b => some (.bool b)
  | .int i => some (.int i)
  | .str x => some (.str x)
  | .tup xs => (D.datas xs).map .tuple
  | .lst _ xs => (D.datas xs).map .list
  | _ => none
def D.datas : List D → Option (List PyData)
  | [] => some []
  | d :: ds => d.data.bind fun p => (D.datas ds).map (p :: ·)
end
mutual
theorem Rep.dp {K : PySem.W.Frag} {H : Hp} : ∀ {v : V} {d : D} {fp : List Addr} {p : PyData}, Rep K κ H v d fp → d.data = some p → Dp K H v p
  | _, _, _, _, .non, e => by cases e; exact .non
  | _, _, _, _, .bl b, e => by cases e; exact .bl b
  | _, _, _, _, .int b, e => by cases e; exact .int b
  | _, _, _, _, .str b, e => by cases e; exact .str b
  | _, _, _, _, .ty b, e => by cases e
  | _, _, _, _, .con _ _, e => by cases e
  | _, _, _, _, .dic _ _ _, e => by cases e
  | _, _, _, _, .dicF _ _ _, e => by cases e
  | _, _, _, _, .obj _ _ _, e => by cases e
  | _, _, _, _, .objF _ _ _, e => by cases e
  | _, .tup ds, _, p, .tup h hs, e => by
    rw [D.data] at e
    cases e1 : D.datas ds with
    | none => rw [e1] at e; cases e
    | some ps => rw [e1] at e; cases e; exact .tup h (Reps.dps hs e1)
  | _, .lst _ ds, _, p, .lst h hs, e => by
    rw [D.data] at e
    cases e1 : D.datas ds with
    | none => rw [e1] at e; cases e
    | some ps => rw [e1] at e; cases e; exact .lst (.inl (.inl h)) (Reps.dps hs e1)
  | _, .lst _ ds, _, p, .lstF h hs, e => by
    rw [D.data] at e
    cases e1 : D.datas ds with
    | none => rw [e1] at e; cases e
    | some ps => rw [e1] at e; cases e; exact .lst (.inl (.inr ⟨_, h⟩)) (Reps.dps hs e1)
theorem Reps.dps {K : PySem.W.Frag} {H : Hp} : ∀ {v : List V} {d : List D} {fp : List Addr} {p : List PyData}, Reps K κ H v d fp → D.datas d = some p → DpAll K H v p
  | _, _, _, _, .nil, e => by cases e; exact .nil
  | _, d :: ds, _, p, .cons h hs, e => by
    rw [D.datas] at e
    cases e1 : d.data with
    | none => rw [e1] at e; cases e
    | some q =>
      rw [e1] at e
      cases e2 : D.datas ds with
      | none => rw [e2] at e; cases e
      | some qs => rw [e2] at e; cases e; exact .cons (Rep.dp h e1) (Reps.dps hs e2)
end
def eqData (x y : D) : Option Bool := x.data.bind fun a => y.data.bind fun b => if (a.canLay0 && b.canLay0 && decide (a.depth ≤ 60)) = true then some (PyData.eqv a b) else none
def eqB (x y : D) : Option Bool := match x, y with
  | .int i, .int j => some (decide (i = j))
  | .str i, .str j => some (decide (i = j))
  | x, y => eqData x y
def dEq (x y : D) : Option D := (eqB x y).map .bl
def dNe (x y : D) : Option D := (eqB x y).map fun b => .bl (!b)
theorem eqB_cases {x y : D} {b : Bool} (h : eqB x y = some b) : (∃ i j, x = .int i ∧ y = .int j ∧ b = decide (i = j)) ∨ (∃ i j, x = .str i ∧ y = .str j ∧ b = decide (i = j)) ∨
    ∃ p q, x.data = some p ∧ y.data = some q ∧ p.canLay0 = true ∧ q.canLay0 = true ∧ p.depth ≤ 60 ∧ b = PyData.eqv p q := by
  have gen : eqData x y = some b → ∃ p q, x.data = some p ∧ y.data = some q ∧ p.canLay0 = true ∧ q.canLay0 = true ∧ p.depth ≤ 60 ∧ b = PyData.eqv p q := fun h => by
    unfold eqData at h
    cases e1 : x.data with
    | none => rw [e1] at h; cases h
    | some p =>
      rw [e1] at h
      cases e2 : y.data with
      | none => rw [e2] at h; cases h
      | some q =>
        rw [e2] at h
        have h' : (if (p.canLay0 && q.canLay0 && decide (p.depth ≤ 60)) = true then some (PyData.eqv p q) else none) = some b := h
        split at h'
        · rename_i hc
          simp only [Bool.and_eq_true, decide_eq_true_eq] at hc
          exact ⟨p, q, rfl, rfl, hc.1.1, hc.1.2, hc.2, (Option.some.inj h').symm⟩
        · cases h'
  unfold eqB at h
  split at h
  · cases h; exact .inl ⟨_, _, rfl, rfl, rfl⟩
  · cases h; exact .inr (.inl ⟨_, _, rfl, rfl, rfl⟩)
  · exact .inr (.inr (gen h))
theorem o_eq (hu : X.A.units + 64 < cLine) : OpR X (compareOp .Eq) (POp X.K κ dEq) := by
  intro pins s σ H x y v u Q I rx ry ⟨dx, dy, d, fx, fy, r1, r2, e, q⟩
  unfold dEq at e
  cases e1 : eqB dx dy with
  | none => rw [e1] at e; cases e
  | some b =>
    rw [e1] at e
    cases e
    rcases eqB_cases e1 with ⟨i, j, rfl, rfl, rfl⟩ | ⟨i, j, rfl, rfl, rfl⟩ | ⟨p, p', h1, h2, h3, h4, h5, rfl⟩
    · rw [r1.is_int] at rx; rw [r2.is_int] at ry
      exact op_eq pins s σ H _ _ v u Q I rx ry ⟨rfl, by rw [show decide (V.int i = V.int j) = decide (i = j) by simp]; exact q.now (.bl _)⟩
    · rw [r1.is_str] at rx; rw [r2.is_str] at ry
      exact op_eq pins s σ H _ _ v u Q I rx ry ⟨rfl, by rw [show decide (V.str i = V.str j) = decide (i = j) by simp]; exact q.now (.bl _)⟩
    · exact op_eqD hu pins s σ H _ _ v u Q I rx ry ⟨p, p', r1.dp h1, r2.dp h2, h3, h4, h5, q.now (.bl _)⟩
theorem o_ne (hu : X.A.units + 64 < cLine) : OpR X (compareOp .NotEq) (POp X.K κ dNe) := by
  intro pins s σ H x y v u Q I rx ry ⟨dx, dy, d, fx, fy, r1, r2, e, q⟩
  unfold dNe at e
  cases e1 : eqB dx dy with
  | none => rw [e1] at e; cases e
  | some b =>
    rw [e1] at e
    cases e
    rcases eqB_cases e1 with ⟨i, j, rfl, rfl, rfl⟩ | ⟨i, j, rfl, rfl, rfl⟩ | ⟨p, p', h1, h2, h3, h4, h5, rfl⟩
    · rw [r1.is_int] at rx; rw [r2.is_int] at ry
      exact op_ne pins s σ H _ _ v u Q I rx ry ⟨rfl, by rw [show decide (V.int i = V.int j) = decide (i = j) by simp]; exact q.now (.bl _)⟩
    · rw [r1.is_str] at rx; rw [r2.is_str] at ry
      exact op_ne pins s σ H _ _ v u Q I rx ry ⟨rfl, by rw [show decide (V.str i = V.str j) = decide (i = j) by simp]; exact q.now (.bl _)⟩
    · exact op_neD hu pins s σ H _ _ v u Q I rx ry ⟨p, p', r1.dp h1, r2.dp h2, h3, h4, h5, q.now (.bl _)⟩
def D.flat : D → Option V
  | .non => some .non
  | .bl b => some (.bl b)
  | .int i => some (.int i)
  | .str x => some (.str x)
  | _ => none
end
end L2
namespace L2
open PySem PySem.Spec PyProof.Rows
theorem Reps.getS {K : PySem.W.Frag} {κ : Str → Addr} {H : Hp} : ∀ {vs : List V} {ds : List D} {fp : List Addr} {i : Nat} {d : D}, Reps K κ H vs ds fp → ds[i]? = some d → ∃ v f, vs[i]? = some v ∧ Rep K κ H v d f ∧ f.Sublist fp
  | _, _, _, _, _, .nil, e => by simp at e
  | _, _, _, 0, _, .cons h _, e => by simp at e; subst e; exact ⟨_, _, rfl, h, List.sublist_append_left _ _⟩
  | _, _, _, i + 1, _, .cons _ hs, e => by
    obtain ⟨v, f, h1, h2, h3⟩ := Reps.getS (i := i) hs (by simpa using e)
    exact ⟨v, f, by simpa using h1, h2, h3.trans (List.sublist_append_right _ _)⟩
theorem Reps.atI {K : PySem.W.Frag} {κ : Str → Addr} {H : Hp} {vs : List V} {ds : List D} {fp : List Addr} {i : Int} {d : D} (r : Reps K κ H vs ds fp) (h : L2.atI ds i = some d) : ∃ v f, L2.atI vs i = some v ∧ Rep K κ H v d f ∧ f.Sublist fp := by
  unfold L2.atI at h ⊢
  rw [r.length]
  cases e : ixN ds.length i with
  | none => rw [e] at h; cases h
  | some j => rw [e] at h; exact r.getS h
section
variable {X : Cx} {κ : Str → Addr} {e a b : Expr} {es : List Expr} {f fa fb : PSt → Option D} {g : PSt → Option (List D)} {pos p2 : Pos}
def fNil : PSt → Option (List D) := fun _ => some []
def fCons (f : PSt → Option D) (g : PSt → Option (List D)) : PSt → Option (List D) := fun ps => (f ps).bind fun d => (g ps).bind fun ds => some (d :: ds)
theorem fCons_some {ps : PSt} {ds : List D} (h : fCons f g ps = some ds) : ∃ d es, f ps = some d ∧ g ps = some es ∧ ds = d :: es := by
  unfold fCons at h
  cases e1 : f ps with
  | none => rw [e1] at h; cases h
  | some d =>
    rw [e1] at h
    cases e2 : g ps with
    | none => rw [e2] at h; cases h
    | some es => rw [e2] at h; cases h; exact ⟨d, es, rfl, rfl, rfl⟩
theorem qva_nil : QVA X κ [] fNil := pa_nil.imp fun σ H Q ⟨ps, ds, w, e, q⟩ => by cases e; exact q [] H [] (.refl H) .nil
theorem qva_cons (ha : QV X κ e f) (hr : QVA X κ es g) (hs : starEach (e :: es) X.env = (false, eval e X.env) :: starEach es X.env := by rfl) : QVA X κ (e :: es) (fCons f g) :=
  (pa_cons ha hr hs).imp fun σ H Q ⟨ps, ds, w, e, q⟩ => by
    obtain ⟨d, es, e1, e2, rfl⟩ := fCons_some e
    exact ⟨ps, d, w, e1, fun v H1 fp s1 r1 => ⟨ps, es, w.same s1, e2, fun vs H2 fq s2 r2 => q _ H2 _ (s1.trans s2) (.cons (r1.same s2) r2)⟩⟩
theorem qpa_nil : QPA X κ [] fNil := pa_nil.imp fun σ H Q ⟨ps, ds, w, e, q⟩ => by cases e; exact q [] H [] (.refl H) (fun _ h => absurd h (by simp)) List.nodup_nil .nil
theorem nodup_new {K : PySem.W.Frag} {H1 : Hp} {v : V} {d : D} {fv fw : List Addr} (r : Rep K κ H1 v d fv) (n1 : fv.Nodup) (hw : ∀ a ∈ fw, H1 a = none) (n2 : fw.Nodup) : (fv ++ fw).Nodup := by
  rw [List.nodup_append]
  refine ⟨n1, n2, fun a ha b hb e => ?_⟩
  subst e
  obtain ⟨o, h, _⟩ := r.own a ha
  rw [hw a hb] at h; cases h
theorem qpa_cons (ha : QP X κ e f) (hr : QPA X κ es g) (hs : starEach (e :: es) X.env = (false, eval e X.env) :: starEach es X.env := by rfl) : QPA X κ (e :: es) (fCons f g) :=
  (pa_cons ha hr hs).imp fun σ H Q ⟨ps, ds, w, e, q⟩ => by
    obtain ⟨d, es, e1, e2, rfl⟩ := fCons_some e
    refine ⟨ps, d, w, e1, fun v H1 fv s1 n1 nd1 r1 => ⟨ps, es, w.same s1, e2, fun vs H2 fw s2 n2 nd2 r2 => ?_⟩⟩
    refine q _ H2 (fv ++ fw) (s1.trans s2) (fun a ha => ?_) (nodup_new r1 nd1 n2 nd2) (.cons (r1.same s2) r2)
    rcases List.mem_append.mp ha with z | z
    · exact n1 a z
    · exact s1.grow a (n2 a z)
def fTup (g : PSt → Option (List D)) : PSt → Option D := fun ps => (g ps).bind fun ds => if (D.imms ds && decide (ds.length ≤ 1000)) = true then some (.tup ds) else none
def fLst (g : PSt → Option (List D)) : PSt → Option D := fun ps => (g ps).bind fun ds => if ds.length ≤ 1000 then some (.lst true ds) else none
theorem bind_some {α β : Type} {o : Option α} {g : α → Option β} {z : β} (h : o.bind g = some z) : ∃ x, o = some x ∧ g x = some z := by
  cases o with
  | none => cases h
  | some x => exact ⟨x, rfl, h⟩
theorem ite_some {α : Type} {c : Prop} [Decidable c] {x : Option α} {z : α} (h : (if c then x else none) = some z) : c ∧ x = some z := by
  by_cases k : c
  · rw [if_pos k] at h; exact ⟨k, h⟩
  · rw [if_neg k] at h; cases h
theorem qp_tup {x1} (h : QPA X κ es g) : QP X κ (.Tuple es x1 pos) (fTup g) :=
  (pe_tup h).imp fun σ H Q ⟨ps, d, w, e, q⟩ => by
    obtain ⟨ds, e1, e2⟩ := bind_some e
    obtain ⟨hc, e3⟩ := ite_some e2
    cases e3
    rw [Bool.and_eq_true, decide_eq_true_eq] at hc
    refine ⟨ps, ds, w, e1, fun vs H1 fv s1 n1 nd1 r1 => ⟨by rw [r1.length]; exact small hc.2, fun p hp => ?_⟩⟩
    exact new_tup hp (r1.pair hc.1) (q.after s1)
theorem qp_lst (h : QPA X κ es g) : QP X κ (.List es pos) (fLst g) :=
  (pe_lst h).imp fun σ H Q ⟨ps, d, w, e, q⟩ => by
    obtain ⟨ds, e1, e2⟩ := bind_some e
    obtain ⟨hc, e3⟩ := ite_some e2
    cases e3
    refine ⟨ps, ds, w, e1, fun vs H1 fv s1 n1 nd1 r1 => ⟨by rw [r1.length]; exact small hc, fun p hp => ?_⟩⟩
    refine q _ _ (p :: fv) (s1.trans (.new hp _)) (fun a ha => ?_) (List.nodup_cons.mpr ⟨fun hm => ?_, nd1⟩) (.lst upd_same (r1.same (.new hp _)))
    · rcases List.mem_cons.mp ha with z | z
      · rw [z]; exact s1.grow p hp
      · exact n1 a z
    · obtain ⟨o, h, _⟩ := r1.own p hm
      rw [hp] at h; cases h
def dIx : D → D → Option D
  | .lst _ xs, .int i => atI xs i
  | .tup xs, .int i => atI xs i
  | .con xs, .int i => atI xs i
  | .str z, .int i => if z.length ≤ sizeLine then (atI z.cps.toList i).map fun c => .str ⟨#[c]⟩ else none
  | _, _ => none
theorem dIx_ok {K : PySem.W.Frag} {H : Hp} {x y : V} {dx dy d : D} {fx fy : List Addr} {Q : VK} (r1 : Rep K κ H x dx fx) (r2 : Rep K κ H y dy fy) (e : dIx dx dy = some d) (q : ∀ v f, Rep K κ H v d f → f.Sublist fx → Q v H) : rIx K x y H Q := by
  cases dx with
  | lst o xs => cases dy with
    | int i =>
      obtain ⟨a, vs, g, rfl, h, hs, sub⟩ := r1.lst_inv
      obtain ⟨v, f, h1, h2, h3⟩ := hs.atI e
      exact .inl ⟨a, vs, i, v, rfl, r2.is_int, .inl h, h1, q v f h2 (h3.trans sub)⟩
    | _ => cases e
  | tup xs => cases dy with
    | int i =>
      obtain ⟨a, vs, rfl, h, hs⟩ := r1.tup_inv
      obtain ⟨v, f, h1, h2, h3⟩ := hs.atI e
      have : f = [] := List.sublist_nil.mp h3
      subst this
      exact .inr (.inl ⟨a, vs, i, v, rfl, r2.is_int, h, h1, q v [] h2 (List.nil_sublist _)⟩)
    | _ => cases e
  | con xs => cases dy with
    | int i =>
      obtain ⟨a, vs, rfl, h, hs⟩ := r1.con_inv
      obtain ⟨v, f, h1, h2, h3⟩ := hs.atI e
      have : f = [] := List.sublist_nil.mp h3
      subst this
      exact .inl ⟨a, vs, i, v, rfl, r2.is_int, h.l, h1, q v [] h2 (List.nil_sublist _)⟩
    | _ => cases e
  | str z => cases dy with
    | int i =>
      rw [dIx] at e
      obtain ⟨hz, e⟩ := ite_some e
      cases e1 : atI z.cps.toList i with
      | none => rw [e1] at e; cases e
      | some c =>
        rw [e1] at e; cases e
        exact .inr (.inr ⟨z, i, c, r1.is_str, r2.is_int, hz, e1, q _ [] (.str _) (List.nil_sublist _)⟩)
    | _ => cases e
  | _ => cases dy <;> cases e
theorem qv_ix (ha : QV X κ a fa) (hb : QV X κ b fb) (hs : PlainIx b := by exact fun _ _ => rfl) : QV X κ (.Subscript a b pos) (f2 dIx fa fb) :=
  (pe_ix ix_seq ha hb hs).imp fun σ H Q ⟨ps, d, w, e, q⟩ => by
    obtain ⟨x, y, e1, e2, e3⟩ := f2_some e
    exact ⟨ps, x, w, e1, fun v H1 fp s1 r1 => ⟨ps, y, w.same s1, e2, fun u H2 fq s2 r2 => dIx_ok (r1.same s2) r2 e3 fun v f r _ => q v H2 f (s1.trans s2) r⟩⟩
theorem qp_ix (ha : QP X κ a fa) (hb : QV X κ b fb) (hs : PlainIx b := by exact fun _ _ => rfl) : QP X κ (.Subscript a b pos) (f2 dIx fa fb) :=
  (pe_ix ix_seq ha hb hs).imp fun σ H Q ⟨ps, d, w, e, q⟩ => by
    obtain ⟨x, y, e1, e2, e3⟩ := f2_some e
    exact ⟨ps, x, w, e1, fun v H1 fv s1 n1 nd1 r1 => ⟨ps, y, w.same s1, e2, fun u H2 fq s2 r2 => dIx_ok (r1.same s2) r2 e3 fun v f r sub => q v H2 f (s1.trans s2) (fun c hc => n1 c (sub.subset hc)) (nd1.sublist sub) r⟩⟩
def tO (K : PySem.W.Frag) (κ : Str → Addr) (f : PSt → Option (Option Int)) : TO := fun σ H Q => ∃ ps o, WS K κ H σ ps ∧ f ps = some o ∧ ∀ H', SameK H H' → Q o H'
abbrev QO (X : Cx) (κ : Str → Addr) (e : Option Expr) (f : PSt → Option (Option Int)) : Prop := PO X e (tO X.K κ f)
def fNoPart : PSt → Option (Option Int) := fun _ => some none
def fPart (f : PSt → Option D) : PSt → Option (Option Int) := fun ps => (f ps).bind fun d => match d with
  | .int i => some (some i)
  | _ => none
theorem qo_none : QO X κ none fNoPart := fun pins s σ H Q I ⟨ps, o, w, e, q⟩ => by cases e; exact po_none pins s σ H Q I (q H (.refl H))
theorem qo_some (h : QV X κ e f) : QO X κ (some e) (fPart f) := fun pins s σ H Q I ⟨ps, o, w, e, q⟩ => by
  obtain ⟨d, e1, e2⟩ := bind_some e
  cases d with
  | int i => cases e2; exact po_some h pins s σ H Q I ⟨ps, _, w, e1, fun v H1 fp s1 r1 => ⟨i, r1.is_int, q H1 s1⟩⟩
  | _ => cases e2
def cutD (xs : List D) (lo hi : Option Int) : List D := (xs.drop (HT.sIx xs.length 0 lo)).take (HT.sIx xs.length xs.length hi - HT.sIx xs.length 0 lo)
def dSl : D → Option Int → Option Int → Option D
  | .lst _ xs, lo, hi => if D.imms xs = true then some (.lst true (cutD xs lo hi)) else none
  | .tup xs, lo, hi => some (.tup (cutD xs lo hi))
  | .str z, lo, hi => if z.length ≤ sizeLine then some (.str (Txt.slice z lo hi)) else none
  | _, _, _ => none
theorem cut_pair {K : PySem.W.Frag} {H : Hp} {vs : List V} {ds : List D} {lo hi : Option Int} (r : Paired (fun v d => Rep K κ H v d []) vs ds) : Paired (fun v d => Rep K κ H v d []) (cutV vs lo hi) (cutD ds lo hi) := by
  unfold cutV cutD
  rw [Paired.length r]
  exact Paired.takeN _ (Paired.dropN _ r)
def PSl (K : PySem.W.Frag) (κ : Str → Addr) : V → Option Int → Option Int → Hp → VK → Prop := fun x lo hi H Q => ∃ dx d fx, Rep K κ H x dx fx ∧ dSl dx lo hi = some d ∧ NewV K κ H d Q
theorem sl_any : SlR X (PSl X.K κ) := by
  intro pins s σ H x v vl vu lo hi sl Q I rx hs pl pu ⟨dx, d, fx, r, e, q⟩
  cases dx with
  | lst o xs =>
    obtain ⟨hc, e2⟩ := ite_some e
    cases e2
    obtain ⟨a, vs, g, rfl, h, rs, sub⟩ := r.lst_inv
    exact sl_list pins s σ H _ v vl vu lo hi sl Q I rx hs pl pu ⟨a, vs, rfl, .inl h, fun p hp => new_lst hp (cut_pair (rs.pair hc)) q⟩
  | tup xs =>
    cases e
    obtain ⟨a, vs, rfl, h, rs⟩ := r.tup_inv
    refine sl_tupW pins s σ H _ v vl vu lo hi sl Q I rx hs pl pu ⟨a, vs, rfl, h, fun hw => ?_, fun p hp => new_tup hp (cut_pair rs.nilp) q⟩
    have e1 : cutD xs lo hi = xs := by
      unfold cutD
      rw [← rs.length, hw.1, hw.2, List.drop_zero, Nat.sub_zero, rs.length, List.take_length]
    rw [e1] at q
    exact q.now (.tup h rs)
  | str z =>
    obtain ⟨hc, e2⟩ := ite_some e
    cases e2
    exact sl_str pins s σ H _ v vl vu lo hi sl Q I rx hs pl pu ⟨z, r.is_str, hc, q.now (.str _)⟩
  | _ => cases e
def fSl (f : PSt → Option D) (fl fh : PSt → Option (Option Int)) : PSt → Option D := fun ps => (f ps).bind fun d => (fl ps).bind fun l => (fh ps).bind fun h => dSl d l h
theorem qp_slice {lo hi : Option Expr} {fl fh : PSt → Option (Option Int)} (he : QV X κ e f) (hl : QO X κ lo fl) (hh : QO X κ hi fh) : QP X κ (.Subscript e (.Slice lo hi none p2) pos) (fSl f fl fh) :=
  (pe_slice sl_any he hl hh).imp fun σ H Q ⟨ps, d, w, e, q⟩ => by
    obtain ⟨d1, e1, e2⟩ := bind_some e
    obtain ⟨l, e3, e4⟩ := bind_some e2
    obtain ⟨h, e5, e6⟩ := bind_some e4
    exact ⟨ps, d1, w, e1, fun v H1 fp s1 r1 => ⟨ps, l, w.same s1, e3, fun H2 s2 => ⟨ps, h, (w.same s1).same s2, e5, fun H3 s3 => ⟨d1, d, fp, (r1.same s2).same s3, e6, q.after ((s1.trans s2).trans s3)⟩⟩⟩⟩
def PCl (K : PySem.W.Frag) (κ : Str → Addr) (g : List D → Option D) : List V → Hp → VK → Prop := fun vs H Q => ∃ ds fp d, Reps K κ H vs ds fp ∧ g ds = some d ∧ NewV K κ H d Q
def fCall (h : List D → Option D) (g : PSt → Option (List D)) : PSt → Option D := fun ps => (g ps).bind h
theorem tCB_of {h : List D → Option D} {σ : St} {H : Hp} {Q : VK} (q : tP X.K κ (fCall h g) σ H Q) : tCB (PCl X.K κ h) (tVA X.K κ g) σ H Q := by
  obtain ⟨ps, d, w, e, q⟩ := q
  obtain ⟨ds, e1, e2⟩ := bind_some e
  exact ⟨ps, ds, w, e1, fun vs H1 fp s1 r1 => ⟨ds, fp, d, r1, e2, q.after s1⟩⟩
theorem qp_callB {x : Str} {id : String} {p : Pos} {h : List D → Option D} (hc : CallR X (.builtin id) (PCl X.K κ h)) (hg : Gl X x) (hm : X.mg x = none) (hv : bootBuiltins x = some (.builtin id)) (ha : QVA X κ (e :: es) g) (hn : x ≠ "__name__" := by decide) (hdb : (x == ("__debug__" : Str)) = false := by decide)
    (hs : starEach (e :: es) X.env = (false, eval e X.env) :: starEach es X.env := by rfl) (hpl : (backTo pos (starEach es X.env)).any (·.1) = false := by rfl) : QP X κ (.Call (.Name x p) (e :: es) [] pos) (fCall h g) :=
  (pe_callB hc hg hm hv ha hn hdb hs hpl).imp fun _ _ _ q => tCB_of q
theorem qp_callTy {x : Str} {T : String} {p : Pos} {h : List D → Option D} (hc : CallR X (.type T) (PCl X.K κ h)) (hg : Gl X x) (hm : X.mg x = none) (hv : bootBuiltins x = some (.type T)) (ha : QVA X κ (e :: es) g) (hn : x ≠ "__name__" := by decide) (hdb : (x == ("__debug__" : Str)) = false := by decide)
    (hs : starEach (e :: es) X.env = (false, eval e X.env) :: starEach es X.env := by rfl) (hpl : (backTo pos (starEach es X.env)).any (·.1) = false := by rfl) : QP X κ (.Call (.Name x p) (e :: es) [] pos) (fCall h g) :=
  (pe_callTy hc hg hm hv ha hn hdb hs hpl).imp fun _ _ _ q => tCB_of q
theorem Reps.one_inv {K : PySem.W.Frag} {H : Hp} {vs : List V} {d : D} {fp : List Addr} (r : Reps K κ H vs [d] fp) : ∃ v, vs = [v] ∧ Rep K κ H v d fp := by
  obtain ⟨v, us, f, g, rfl, h, t, rfl⟩ := r.split
  cases t
  exact ⟨v, rfl, by rw [List.append_nil]; exact h⟩
theorem Reps.two_inv {K : PySem.W.Frag} {H : Hp} {vs : List V} {d e : D} {fp : List Addr} (r : Reps K κ H vs [d, e] fp) : ∃ v u f g, vs = [v, u] ∧ Rep K κ H v d f ∧ Rep K κ H u e g := by
  obtain ⟨v, us, f, g, rfl, h, t, rfl⟩ := r.split
  obtain ⟨u, rfl, h2⟩ := t.one_inv
  exact ⟨v, u, f, g, rfl, h, h2⟩
def dLen : List D → Option D
  | [.lst _ xs] => some (.int xs.length)
  | [.tup xs] => some (.int xs.length)
  | [.con xs] => some (.int xs.length)
  | [.str z] => if z.length ≤ sizeLine then some (.int z.length) else none
  | _ => none
theorem c_len : CallR X (.builtin "len") (PCl X.K κ dLen) := by
  intro pins s σ H vs us Q I r ⟨ds, fp, d, rs, e, q⟩
  unfold dLen at e
  split at e
  · cases e
    obtain ⟨v, rfl, r1⟩ := rs.one_inv
    obtain ⟨a, ws, g, rfl, h, hs, _⟩ := r1.lst_inv
    exact call_len_seq pins s σ H _ us Q I r ⟨a, ws, rfl, .inl (.inl h), by rw [hs.length]; exact q.now (.int _)⟩
  · cases e
    obtain ⟨v, rfl, r1⟩ := rs.one_inv
    obtain ⟨a, ws, rfl, h, hs⟩ := r1.tup_inv
    exact call_len_seq pins s σ H _ us Q I r ⟨a, ws, rfl, .inr h, by rw [hs.length]; exact q.now (.int _)⟩
  · cases e
    obtain ⟨v, rfl, r1⟩ := rs.one_inv
    obtain ⟨a, ws, rfl, h, hs⟩ := r1.con_inv
    exact call_len_seq pins s σ H _ us Q I r ⟨a, ws, rfl, .inl h.l, by rw [hs.length]; exact q.now (.int _)⟩
  · obtain ⟨hz, e⟩ := ite_some e
    cases e
    obtain ⟨v, rfl, r1⟩ := rs.one_inv
    exact call_len_str pins s σ H _ us Q I r ⟨_, by rw [r1.is_str], hz, q.now (.int _)⟩
  · cases e
def dMin2 : List D → Option D
  | [.int i, .int j] => some (.int (if j < i then j else i))
  | _ => none
theorem c_min2 (hc : X.calm = true) : CallR X (.builtin "min") (PCl X.K κ dMin2) := by
  intro pins s σ H vs us Q I r ⟨ds, fp, d, rs, e, q⟩
  unfold dMin2 at e
  split at e
  · cases e
    obtain ⟨v, u, f, g, rfl, r1, r2⟩ := rs.two_inv
    exact call_min2 hc pins s σ H _ us Q I r ⟨_, _, by rw [r1.is_int, r2.is_int], q.now (.int _)⟩
  · cases e
def dTy : D → Option String
  | .non => some "NoneType"
  | .bl _ => some "bool"
  | .int _ => some "int"
  | .str _ => some "str"
  | .lst _ _ => some "list"
  | .tup _ => some "tuple"
  | .dic true _ _ => some "dict"
  | _ => none
def dIsi : List D → Option D
  | [x, .ty c] => (dTy x).bind fun t => if c ∈ ["bool", "int", "str", "list", "tuple", "dict"] then some (.bl (isKit t c)) else none
  | _ => none
theorem dTy_ok {K : PySem.W.Frag} {H : Hp} {v : V} {d : D} {fp : List Addr} {t : String} (r : Rep K κ H v d fp) (h : dTy d = some t) : (tyName H v = some t ∨ (t = "tuple" ∧ ∃ a xs, v = .ref a ∧ SqT K H a xs)) := by
  cases r with
  | non => cases h; exact .inl rfl
  | bl _ => cases h; exact .inl rfl
  | int _ => cases h; exact .inl rfl
  | str _ => cases h; exact .inl rfl
  | tup s _ => cases h; exact .inr ⟨rfl, _, _, rfl, s⟩
  | lst s _ => cases h; exact .inl (by simp [tyName, s])
  | lstF s _ => cases h; exact .inl (by simp [tyName, s])
  | dic s _ _ => cases h; exact .inl (by simp [tyName, s])
  | _ => cases h
theorem c_isi : CallR X (.builtin "isinstance") (PCl X.K κ dIsi) := by
  intro pins s σ H vs us Q I r ⟨ds, fp, d, rs, e, q⟩
  unfold dIsi at e
  split at e
  · obtain ⟨t, e1, e2⟩ := bind_some e
    obtain ⟨hc, e3⟩ := ite_some e2
    cases e3
    obtain ⟨v, u, f, g, rfl, r1, r2⟩ := rs.two_inv
    cases r2
    rcases dTy_ok r1 e1 with h | ⟨rfl, a, xs, rfl, h⟩
    · exact call_isi pins s σ H _ us Q I r ⟨_, _, t, rfl, h, hc, q.now (.bl _)⟩
    · obtain ⟨u1, u2, rfl, rx, rc⟩ := vals2 r
      cases (show u2 = Value.type _ from rc)
      cases (show u1 = Value.ref a from rx)
      obtain ⟨its, rv, ⟨o, h1, h2, _⟩, _⟩ := I.tuple h
      exact PySem.W.kia_one PySem.W.kitx_tuple I.kIn ⟨o, h1, h2⟩ (kit_base X.K "tuple" (by decide) _ hc) (fun z => nomatch z) fun tk => ⟨.bl _, H, I.tok tk, rfl, q.now (.bl _)⟩
  · cases e
def dList : List D → Option D
  | [.lst _ xs] => if D.imms xs = true then some (.lst true xs) else none
  | [.tup xs] => some (.lst true xs)
  | _ => none
def dTuple : List D → Option D
  | [.lst _ xs] => if D.imms xs = true then some (.tup xs) else none
  | [.tup xs] => some (.tup xs)
  | _ => none
theorem c_tuple : CallR X (.type "tuple") (PCl X.K κ dTuple) := by
  intro pins s σ H vs us Q I r ⟨ds, fp, d, rs, e, q⟩
  unfold dTuple at e
  split at e
  · obtain ⟨hc, e⟩ := ite_some e
    cases e
    obtain ⟨v, rfl, r1⟩ := rs.one_inv
    obtain ⟨a, ws, g, rfl, h, hs, _⟩ := r1.lst_inv
    exact call_tuple_of pins s σ H _ us Q I r ⟨a, ws, rfl, .inl ⟨.inl h, fun p hp => new_tup hp (hs.pair hc) q⟩⟩
  · cases e
    obtain ⟨v, rfl, r1⟩ := rs.one_inv
    obtain ⟨a, ws, rfl, h, hs⟩ := r1.tup_inv
    exact call_tuple_of pins s σ H _ us Q I r ⟨a, ws, rfl, .inr ⟨h, q.now (.tup h hs)⟩⟩
  · cases e
def dInt1 : List D → Option D
  | [.int i] => some (.int i)
  | [.bl k] => some (.int (if k then 1 else 0))
  | _ => none
theorem c_int : CallR X (.type "int") (PCl X.K κ dInt1) := by
  intro pins s σ H vs us Q I r ⟨ds, fp, d, rs, e, q⟩
  unfold dInt1 at e
  split at e
  · cases e
    obtain ⟨v, rfl, r1⟩ := rs.one_inv
    exact call_int1 pins s σ H _ us Q I r (.inl ⟨_, by rw [r1.is_int], q.now (.int _)⟩)
  · cases e
    obtain ⟨v, rfl, r1⟩ := rs.one_inv
    exact call_int1 pins s σ H _ us Q I r (.inr ⟨_, by rw [r1.is_bl], q.now (.int _)⟩)
  · cases e
def dStr1 : List D → Option D
  | [.int i] => if i.natAbs.log2 < 1920 then some (.str (toString i)) else none
  | _ => none
theorem c_str : CallR X (.type "str") (PCl X.K κ dStr1) := by
  intro pins s σ H vs us Q I r ⟨ds, fp, d, rs, e, q⟩
  unfold dStr1 at e
  split at e
  · obtain ⟨hc, e⟩ := ite_some e
    cases e
    obtain ⟨v, rfl, r1⟩ := rs.one_inv
    exact call_str_int pins s σ H _ us Q I r ⟨_, by rw [r1.is_int], hc, q.now (.str _)⟩
  · cases e
def PMt (K : PySem.W.Frag) (κ : Str → Addr) (g : D → List D → Option D) : V → List V → Hp → VK → Prop := fun x vs H Q => ∃ dx ds fx fp d, Rep K κ H x dx fx ∧ Reps K κ H vs ds fp ∧ g dx ds = some d ∧ NewV K κ H d Q
def isStr : D → Bool
  | .str _ => true
  | _ => false
def fMt (h : D → List D → Option D) (f : PSt → Option D) (g : PSt → Option (List D)) : PSt → Option D := fun ps => (f ps).bind fun x => (g ps).bind fun ds => if isStr x = true then h x ds else none
theorem qp_ms {name : Str} {id : String} {apos : Pos} {h : D → List D → Option D} (slot : Slot "str" name id) (hty : typeOf (.builtin id) = pure (.type "method_descriptor")) (hm : MtR X id (PMt X.K κ h)) (ho : QV X κ a fa) (ha : QVA X κ (e :: es) g)
    (hbase : attributeBase a name X.env (eval a X.env) = eval a X.env := by rfl)
    (hfew : ((backTo pos (starEach (e :: es) X.env)).all (fun x => !x.1) && (backToKw pos (keywordEach [] X.env)).all (fun x => x.1.isSome)
      && decide ((e :: es).length + ([] : List Keyword).length + (if ([] : List Keyword).isEmpty then 0 else 1) < 30)) = true := by rfl)
    (hline : (apos.endLine == pos.line) = true := by rfl) (hs : starEach (e :: es) X.env = (false, eval e X.env) :: starEach es X.env := by rfl) (hplain : (backTo pos (starEach es X.env)).any (·.1) = false := by rfl) :
    QP X κ (.Call (.Attribute a name apos) (e :: es) [] pos) (fMt h fa g) :=
  (pe_bm PySem.F.plainAttrs_str slot hty hm ho ha hbase hfew hline hs hplain).imp fun σ H Q ⟨ps, d, w, e, q⟩ => by
    obtain ⟨x, e1, e2⟩ := bind_some e
    obtain ⟨ds, e3, e4⟩ := bind_some e2
    obtain ⟨hc, e5⟩ := ite_some e4
    refine ⟨ps, x, w, e1, fun v H1 fp s1 r1 => ⟨?_, ps, ds, w.same s1, e3, fun vs H2 fq s2 r2 => ⟨x, ds, fp, fq, d, r1.same s2, r2, e5, q.after (s1.trans s2)⟩⟩⟩
    cases x with
    | str z => rw [r1.is_str]; rfl
    | _ => cases hc
def strsD (l : List Str) : List D := l.map .str
def D.strs : List D → Option (List Str)
  | [] => some []
  | .str b :: ds => (D.strs ds).map (b :: ·)
  | _ :: _ => none
theorem strs_of {K : PySem.W.Frag} {H : Hp} : ∀ {vs : List V} {ds : List D} {fp : List Addr} {ns : List Str}, Reps K κ H vs ds fp → D.strs ds = some ns → vs = ns.map V.str
  | _, _, _, _, .nil, e => by cases e; rfl
  | _, d :: ds, _, ns, .cons h hs, e => by
    cases d with
    | str i =>
      rw [D.strs] at e
      cases e1 : D.strs ds with
      | none => rw [e1] at e; cases e
      | some ms => rw [e1] at e; cases e; rw [h.is_str, strs_of hs e1]; rfl
    | _ => cases e
def dJoin : D → List D → Option D
  | .str z, [.lst _ xs] => (D.strs xs).bind fun ys => if (z.length ≤ 16 ∧ (ys.map (·.length)).sum + ys.length ≤ 1048576) then some (.str (Txt.join z ys)) else none
  | _, _ => none
theorem m_join : MtR X "str.join" (PMt X.K κ dJoin) := by
  intro pins s σ H x vs v us Q I rx r ⟨dx, ds, fx, fp, d, r1, rs, e, q⟩
  unfold dJoin at e
  split at e
  · obtain ⟨ys, e1, e2⟩ := bind_some e
    obtain ⟨hc, e⟩ := ite_some e2
    cases e
    obtain ⟨w, rfl, r2⟩ := rs.one_inv
    obtain ⟨a, ws, g, rfl, h, hs, _⟩ := r2.lst_inv
    rw [strs_of hs e1] at h
    exact mt_join pins s σ H x _ v us Q I rx r ⟨_, a, ys, r1.is_str, rfl, .inl h, hc.1, hc.2, q.now (.str _)⟩
  · cases e
end
end L2
namespace L2
open PySem PySem.Spec PyProof.Rows
structure Fx where
  K : PySem.W.Frag
  κ : Str → Addr
  bor : Nat → Bool
  M : Nat → Bool
  B : Nat → Addr → Prop
structure RS (φ : Fx) (H : Hp) (σ : St) (ps : PSt) (F : Nat → List Addr) : Prop where
  rep : ∀ (i : Nat) (d : D), ps[i]? = some (some d) → ∃ v fp, σ[i]? = some (some v) ∧ Rep φ.K φ.κ H v d fp ∧ (φ.bor i = false → fp = F i) ∧ (φ.bor i = true → ∀ a ∈ fp, φ.B i a)
  emp : ∀ i a, a ∈ F i → φ.bor i = false ∧ ∃ d, ps[i]? = some (some d)
  dis : ∀ i j a, a ∈ F i → a ∈ F j → i = j
  nd : ∀ i, (F i).Nodup
  nb : ∀ i a, a ∈ F i → ∀ k, ¬ φ.B k a
  bt : ∀ k a, φ.B k a → H a ≠ none
  len : ps.length ≤ σ.length
structure Frm (F : Nat → List Addr) (H H' : Hp) : Prop where
  keep : ∀ a o, H a = some o → kd o = true → (∀ i, a ∉ F i) → H' a = some o
  grow : ∀ a, H' a = none → H a = none
structure Stp (φ : Fx) (σ : St) (H : Hp) (F : Nat → List Addr) (σ' : St) (H' : Hp) (ps' : PSt) (F' : Nat → List Addr) : Prop where
  fr : Frm F H H'
  nw : ∀ i a, a ∈ F' i → (∃ j, a ∈ F j) ∨ H a = none
  rs : RS φ H' σ' ps' F'
  msk : ∀ i, φ.M i = true → σ'[i]? = σ[i]?
structure OwnV (F : Nat → List Addr) (H : Hp) (F' : Nat → List Addr) (fv : List Addr) : Prop where
  nw : ∀ a ∈ fv, (∃ j, a ∈ F j) ∨ H a = none
  nd : fv.Nodup
  dis : ∀ i, ∀ a ∈ F' i, a ∉ fv
section
variable {φ : Fx} {H H' H1 H2 : Hp} {σ σ1 σ2 : St} {ps ps1 ps2 : PSt} {F F1 F2 : Nat → List Addr}
theorem RS.own (R : RS φ H σ ps F) {i : Nat} {a : Addr} (h : a ∈ F i) : ∃ o, H a = some o ∧ kd o = true ∧ tf o = false := by
  obtain ⟨b, d, e⟩ := R.emp i a h
  obtain ⟨v, fp, _, r, q, _⟩ := R.rep i d e
  rw [← q b] at h
  exact r.own a h
theorem RS.ws (R : RS φ H σ ps F) : WS φ.K φ.κ H σ ps := fun i d h => by
  obtain ⟨v, fp, h1, h2, _⟩ := R.rep i d h
  exact ⟨v, fp, h1, h2⟩
theorem RS.same (R : RS φ H σ ps F) (s : SameK H H') : RS φ H' σ ps F :=
  ⟨fun i d h => by obtain ⟨v, fp, h1, h2, h3⟩ := R.rep i d h; exact ⟨v, fp, h1, h2.same s, h3⟩, R.emp, R.dis, R.nd, R.nb, fun k a h z => R.bt k a h (s.grow a z), R.len⟩
theorem RS.notB (R : RS φ H σ ps F) {a : Addr} (h : (∃ j, a ∈ F j) ∨ H a = none) : ∀ k, ¬ φ.B k a := fun k hb => h.elim (fun ⟨j, hj⟩ => R.nb j a hj k hb) fun z => R.bt k a hb z
theorem Stp.same (R : RS φ H σ ps F) (s : SameK H H') : Stp φ σ H F σ H' ps F :=
  ⟨⟨fun a o h k _ => s.keep a o h k, s.grow⟩, fun i a h => .inl ⟨i, h⟩, R.same s, fun _ _ => rfl⟩
theorem Stp.refl (R : RS φ H σ ps F) : Stp φ σ H F σ H ps F := .same R (.refl H)
theorem Stp.trans (s1 : Stp φ σ H F σ1 H1 ps1 F1) (s2 : Stp φ σ1 H1 F1 σ2 H2 ps2 F2) : Stp φ σ H F σ2 H2 ps2 F2 := by
  refine ⟨⟨fun a o h k n => s2.fr.keep a o (s1.fr.keep a o h k n) k fun i hi => ?_, fun a h => s1.fr.grow a (s2.fr.grow a h)⟩, fun i a h => ?_, s2.rs, fun i h => (s2.msk i h).trans (s1.msk i h)⟩
  · rcases s1.nw i a hi with ⟨j, hj⟩ | z
    · exact n j hj
    · rw [h] at z; cases z
  · rcases s2.nw i a h with ⟨j, hj⟩ | z
    · exact s1.nw j a hj
    · exact .inr (s1.fr.grow a z)
theorem OwnV.after {fv : List Addr} (s1 : Stp φ σ H F σ1 H1 ps1 F1) (o : OwnV F1 H1 F2 fv) : OwnV F H F2 fv :=
  ⟨fun a ha => (o.nw a ha).elim (fun ⟨j, hj⟩ => s1.nw j a hj) fun z => .inr (s1.fr.grow a z), o.nd, o.dis⟩
theorem OwnV.new {fv : List Addr} (R : RS φ H σ ps F) (n : ∀ a ∈ fv, H a = none) (nd : fv.Nodup) : OwnV F H F fv :=
  ⟨fun a ha => .inr (n a ha), nd, fun i a ha hb => by obtain ⟨o, h, _⟩ := R.own ha; rw [n a hb] at h; cases h⟩
def setF (F : Nat → List Addr) (i : Nat) (fv : List Addr) : Nat → List Addr := fun j => if j = i then fv else F j
theorem setF_same {i : Nat} {fv : List Addr} : setF F i fv i = fv := by simp [setF]
theorem setF_ne {i j : Nat} {fv : List Addr} (h : j ≠ i) : setF F i fv j = F j := by simp [setF, h]
theorem mem_setF {i : Nat} {fv : List Addr} {j : Nat} {a : Addr} (h : a ∈ setF F i fv j) : a ∈ fv ∨ a ∈ F j := by
  by_cases e : j = i
  · subst e; rw [setF_same] at h; exact .inl h
  · rw [setF_ne e] at h; exact .inr h
theorem RS.drop (R : RS φ H σ ps F) (i : Nat) : RS φ H σ (ps.set i none) (setF F i []) := by
  have eF : ∀ j a, a ∈ setF F i [] j → j ≠ i ∧ a ∈ F j := fun j a h => by
    by_cases e : j = i
    · subst e; rw [setF_same] at h; exact absurd h (by simp)
    · rw [setF_ne e] at h; exact ⟨e, h⟩
  refine ⟨fun j d h => ?_, fun j a h => ?_, fun j k a h1 h2 => R.dis j k a (eF j a h1).2 (eF k a h2).2, fun j => ?_, fun j a h => R.nb j a (eF j a h).2, R.bt, by simpa using R.len⟩
  · have e : j ≠ i := by
      rintro rfl
      by_cases hj : j < ps.length
      · rw [List.getElem?_set_self hj] at h; cases h
      · rw [List.getElem?_eq_none (by simpa using hj)] at h; cases h
    rw [List.getElem?_set_ne (fun z => e z.symm)] at h
    rw [setF_ne e]
    exact R.rep j d h
  · obtain ⟨e, h⟩ := eF j a h
    obtain ⟨b, d, q⟩ := R.emp j a h
    exact ⟨b, d, by rw [List.getElem?_set_ne (fun z => e z.symm)]; exact q⟩
  · by_cases e : j = i
    · subst e; rw [setF_same]; exact List.nodup_nil
    · rw [setF_ne e]; exact R.nd j
theorem RS.set (R : RS φ H σ ps F) {i : Nat} {v : V} {d : D} {fv : List Addr} (r : Rep φ.K φ.κ H v d fv) (hb : φ.bor i = false ∨ fv = []) (hd : ∀ j, j ≠ i → ∀ a ∈ F j, a ∉ fv) (hn : fv.Nodup) (hB : ∀ a ∈ fv, ∀ k, ¬ φ.B k a) :
    RS φ H (σ.set i (some v)) (ps.set i (some d)) (setF F i (if i < ps.length then fv else [])) := by
  by_cases hi : i < ps.length
  · rw [if_pos hi]
    have hl := R.len
    refine ⟨fun j d' h => ?_, fun j a h => ?_, fun j k a h1 h2 => ?_, fun j => ?_, fun j a h => ?_, R.bt, by simpa using R.len⟩
    · by_cases e : j = i
      · subst e
        rw [List.getElem?_set_self hi] at h
        cases h
        refine ⟨v, fv, by rw [List.getElem?_set_self (by omega)], r, fun _ => setF_same.symm, fun z => ?_⟩
        rcases hb with q | q
        · rw [q] at z; cases z
        · subst q; intro a ha; exact absurd ha (by simp)
      · rw [List.getElem?_set_ne (fun z => e z.symm)] at h ⊢
        rw [setF_ne e]
        exact R.rep j d' h
    · by_cases e : j = i
      · subst e
        rw [setF_same] at h
        refine ⟨?_, d, by rw [List.getElem?_set_self hi]⟩
        rcases hb with q | q
        · exact q
        · subst q; exact absurd h (by simp)
      · rw [setF_ne e] at h
        obtain ⟨b, d', q⟩ := R.emp j a h
        exact ⟨b, d', by rw [List.getElem?_set_ne (fun z => e z.symm)]; exact q⟩
    · by_cases e1 : j = i
      · by_cases e2 : k = i
        · rw [e1, e2]
        · subst e1; rw [setF_same] at h1; rw [setF_ne e2] at h2; exact absurd h1 (hd k e2 a h2)
      · by_cases e2 : k = i
        · subst e2; rw [setF_same] at h2; rw [setF_ne e1] at h1; exact absurd h2 (hd j e1 a h1)
        · rw [setF_ne e1] at h1; rw [setF_ne e2] at h2; exact R.dis j k a h1 h2
    · by_cases e : j = i
      · subst e; rw [setF_same]; exact hn
      · rw [setF_ne e]; exact R.nd j
    · rcases mem_setF h with z | z
      · exact hB a z
      · exact R.nb j a z
  · rw [if_neg hi]
    have e0 : ps.set i (some d) = ps := List.set_eq_of_length_le (by omega)
    rw [e0]
    have R' := R.drop i
    rw [List.set_eq_of_length_le (by omega)] at R'
    refine ⟨fun j d' h => ?_, R'.emp, R'.dis, R'.nd, R'.nb, R'.bt, by simpa using R.len⟩
    have hj : j ≠ i := by
      rintro rfl
      have := (List.getElem?_eq_some_iff.mp h).1
      omega
    rw [List.getElem?_set_ne (fun z => hj z.symm)]
    exact R'.rep j d' h
theorem Stp.set {fv : List Addr} {i : Nat} {v : V} {d : D} (s1 : Stp φ σ H F σ1 H1 ps1 F1) (o : OwnV F H F1 fv) (R : RS φ H σ ps F) (r : Rep φ.K φ.κ H1 v d fv) (hb : φ.bor i = false ∨ fv = []) (hm : φ.M i = false) :
    ∃ F', Stp φ σ H F (σ1.set i (some v)) H1 (ps1.set i (some d)) F' := by
  refine ⟨_, s1.fr, fun j a h => ?_, s1.rs.set r hb (fun j _ => o.dis j) o.nd fun a ha => R.notB (o.nw a ha), fun j h => ?_⟩
  · rcases mem_setF h with z | z
    · by_cases k : i < ps1.length
      · rw [if_pos k] at z; exact o.nw a z
      · rw [if_neg k] at z; exact absurd z (by simp)
    · exact s1.nw j a z
  · rw [List.getElem?_set_ne (fun z => by subst z; rw [hm] at h; cases h)]
    exact s1.msk j h
end
inductive Fl where
  | nx | bk | ct | ret (d : D)
def PostS (φ : Fx) (E : Ends) (σ : St) (H : Hp) (F : Nat → List Addr) (fl : Fl) (ps' : PSt) : Prop := match fl with
  | .nx => ∀ σ' H' F', Stp φ σ H F σ' H' ps' F' → E.nx σ' H'
  | .bk => ∀ σ' H' F', Stp φ σ H F σ' H' ps' F' → E.bk σ' H'
  | .ct => ∀ σ' H' F', Stp φ σ H F σ' H' ps' F' → E.ct σ' H'
  | .ret d => ∀ v σ' H' F' fv, Stp φ σ H F σ' H' ps' F' → OwnV F H F' fv → Rep φ.K φ.κ H' v d fv → E.rt v H'
def tS (φ : Fx) (f : PSt → Option (Fl × PSt)) : TS := fun E σ H => ∃ ps F fl ps', RS φ H σ ps F ∧ f ps = some (fl, ps') ∧ PostS φ E σ H F fl ps'
def tE (φ : Fx) (f : PSt → Option (D × PSt)) : TE := fun σ H Q => ∃ ps F d ps', RS φ H σ ps F ∧ f ps = some (d, ps') ∧ ∀ v H' F' fv, Stp φ σ H F σ H' ps' F' → OwnV F H F' fv → Rep φ.K φ.κ H' v d fv → Q v H'
def tTE (φ : Fx) (f : PSt → Option (Bool × PSt)) : TT := fun σ H Q => ∃ ps F b ps', RS φ H σ ps F ∧ f ps = some (b, ps') ∧ ∀ H' F', Stp φ σ H F σ H' ps' F' → Q b H'
structure F0 where
  bor : Nat → Bool
  M : Nat → Bool
  B : Nat → Addr → Prop
def F0.fx (φ : F0) (K : PySem.W.Frag) (κ : Str → Addr) : Fx := ⟨K, κ, φ.bor, φ.M, φ.B⟩
abbrev QS (X : Cx) (κ : Str → Addr) (φ : F0) (st : Stmt) (f : PSt → Option (Fl × PSt)) : Prop := PS X st (tS (φ.fx X.K κ) f)
abbrev QSs (X : Cx) (κ : Str → Addr) (φ : F0) (st : List Stmt) (f : PSt → Option (Fl × PSt)) : Prop := PSs X st (tS (φ.fx X.K κ) f)
abbrev QE (X : Cx) (κ : Str → Addr) (φ : F0) (e : Expr) (f : PSt → Option (D × PSt)) : Prop := PE X e (tE (φ.fx X.K κ) f)
abbrev QTE (X : Cx) (κ : Str → Addr) (φ : F0) (e : Expr) (f : PSt → Option (Bool × PSt)) : Prop := PT X e (tTE (φ.fx X.K κ) f)
theorem tS_after {φ : Fx} {f : PSt → Option (Fl × PSt)} {E : Ends} {σ σ1 : St} {H H1 : Hp} {F F1 : Nat → List Addr} {ps1 ps2 : PSt} {fl : Fl} (s1 : Stp φ σ H F σ1 H1 ps1 F1) (e : f ps1 = some (fl, ps2)) (q : PostS φ E σ H F fl ps2) : tS φ f E σ1 H1 := by
  refine ⟨ps1, F1, fl, ps2, s1.rs, e, ?_⟩
  cases fl with
  | nx => exact fun σ' H' F' s => q σ' H' F' (s1.trans s)
  | bk => exact fun σ' H' F' s => q σ' H' F' (s1.trans s)
  | ct => exact fun σ' H' F' s => q σ' H' F' (s1.trans s)
  | ret d => exact fun v σ' H' F' fv s o r => q v σ' H' F' fv (s1.trans s) (o.after s1) r
def fSkip : PSt → Option (Fl × PSt) := fun ps => some (.nx, ps)
def fSeq (f g : PSt → Option (Fl × PSt)) : PSt → Option (Fl × PSt) := fun ps => (f ps).bind fun r => match r with
  | (.nx, ps') => g ps'
  | (.bk, ps') => some (.bk, ps')
  | (.ct, ps') => some (.ct, ps')
  | (.ret d, ps') => some (.ret d, ps')
section
variable {X : Cx} {κ : Str → Addr} {φ : F0} {st : Stmt} {rest : List Stmt} {f g : PSt → Option (Fl × PSt)} {pos : Pos}
theorem qss_nil : QSs X κ φ [] fSkip := pss_nil.imp fun E σ H ⟨ps, F, fl, ps', R, e, q⟩ => by cases e; exact q σ H F (.refl R)
theorem qss_one (h : QS X κ φ st f) : QSs X κ φ [st] f := pss_one h
theorem qss_cons (h1 : QS X κ φ st f) (h2 : QSs X κ φ rest g) : QSs X κ φ (st :: rest) (fSeq f g) :=
  (pss_cons h1 h2).imp fun E σ H ⟨ps, F, fl, ps', R, e, q⟩ => by
    obtain ⟨⟨fl1, ps1⟩, e1, e2⟩ := bind_some e
    refine ⟨ps, F, fl1, ps1, R, e1, ?_⟩
    cases fl1 with
    | nx => exact fun σ' H' F' s => tS_after s e2 q
    | bk => cases e2; exact q
    | ct => cases e2; exact q
    | ret d => cases e2; exact q
def fPure (f : PSt → Option D) : PSt → Option (D × PSt) := fun ps => (f ps).bind fun d => some (d, ps)
theorem QP.e {e : Expr} {f : PSt → Option D} (h : PE X e (tP X.K κ f)) : QE X κ φ e (fPure f) := h.imp fun σ H Q ⟨ps, F, d, ps', R, e, q⟩ => by
  obtain ⟨d1, e1, e2⟩ := bind_some e
  cases e2
  exact ⟨ps, _, R.ws, e1, fun v H' fv s n nd r => q v H' F fv (.same R s) (.new R n nd) r⟩
def fTPure (f : PSt → Option Bool) : PSt → Option (Bool × PSt) := fun ps => (f ps).bind fun d => some (d, ps)
theorem QT.e {e : Expr} {f : PSt → Option Bool} (h : PT X e (tQ X.K κ f)) : QTE X κ φ e (fTPure f) := h.imp fun σ H Q ⟨ps, F, d, ps', R, e, q⟩ => by
  obtain ⟨d1, e1, e2⟩ := bind_some e
  cases e2
  exact ⟨ps, _, R.ws, e1, fun H' s => q H' F (.same R s)⟩
def fSet (i : Nat) (f : PSt → Option (D × PSt)) : PSt → Option (Fl × PSt) := fun ps => (f ps).bind fun r => some (.nx, r.2.set i (some r.1))
theorem qs_set (i : Nat) {x : Str} {e : Expr} {pos' : Pos} {f : PSt → Option (D × PSt)} (hN : X.N.Nodup) (hi : X.N[i]? = some x) (hx : Loc X.env.scope x) (hb : φ.bor i = false) (hm : φ.M i = false) (he : QE X κ φ e f) (hs : swapsWith e (some (.Name x pos')) pos.line X.env = pure false := by rfl) (hf : X.fn x = true ∨ X.env.scope.names.lookup x = some .local := by first | exact .inl rfl | exact .inr rfl | assumption) :
    QS X κ φ (.Assign [.Name x pos'] e pos) (fSet i f) := (ps_set hN hi hx he hs hf).imp fun E σ H ⟨ps, F, fl, ps', R, e, q⟩ => by
  obtain ⟨⟨d, ps1⟩, e1, e2⟩ := bind_some e
  cases e2
  refine ⟨ps, F, d, ps1, R, e1, fun v H' F' fv s o r => ?_⟩
  obtain ⟨F2, s2⟩ := s.set o R r (.inl hb) hm (i := i)
  exact q _ _ F2 s2
def fSetB (i : Nat) (f : PSt → Option (D × PSt)) : PSt → Option (Fl × PSt) := fun ps => (f ps).bind fun r => if r.1.imm = true then some (.nx, r.2.set i (some r.1)) else none
def fExpr (f : PSt → Option (D × PSt)) : PSt → Option (Fl × PSt) := fun ps => (f ps).bind fun r => some (.nx, r.2)
theorem qs_expr {e : Expr} {f : PSt → Option (D × PSt)} (he : QE X κ φ e f) (hs : swapsWith e none pos.line X.env = pure false := by rfl) : QS X κ φ (.Expr e pos) (fExpr f) := (ps_expr he hs).imp fun E σ H ⟨ps, F, fl, ps', R, e, q⟩ => by
  obtain ⟨⟨d, ps1⟩, e1, e2⟩ := bind_some e
  cases e2
  exact ⟨ps, F, d, ps1, R, e1, fun v H' F' fv s o r => q _ _ F' s⟩
def fRet (f : PSt → Option (D × PSt)) : PSt → Option (Fl × PSt) := fun ps => (f ps).bind fun r => some (.ret r.1, r.2)
theorem qs_ret {e : Expr} {f : PSt → Option (D × PSt)} (he : QE X κ φ e f) : QS X κ φ (.Return (some e) pos) (fRet f) := (ps_ret he).imp fun E σ H ⟨ps, F, fl, ps', R, e, q⟩ => by
  obtain ⟨⟨d, ps1⟩, e1, e2⟩ := bind_some e
  cases e2
  exact ⟨ps, F, d, ps1, R, e1, fun v H' F' fv s o r => q v σ H' F' fv s o r⟩
def fRetN : PSt → Option (Fl × PSt) := fun ps => some (.ret .non, ps)
def fRetL (i : Nat) : PSt → Option (Fl × PSt) := fun ps => ((ps[i]?).join).bind fun d => some (.ret d, ps.set i none)
theorem join_some {ps : PSt} {i : Nat} {d : D} (h : (ps[i]?).join = some d) : ps[i]? = some (some d) := by
  cases q : ps[i]? with
  | none => rw [q] at h; cases h
  | some o => rw [q] at h; exact congrArg some h
theorem qs_retL (i : Nat) {x : Str} {p : Pos} (hb : φ.bor i = false) (hN : X.N[i]? = some x := by rfl) (hv : Vis X.env.scope x := by first | exact Or.inl rfl | exact Or.inr (Or.inl rfl) | exact Or.inr (Or.inr rfl)) (hd : (x == ("__debug__" : Str)) = false := by decide)
    (hcd : (x == ("__classdict__" : Str)) = false := by decide) : QS X κ φ (.Return (some (.Name x p)) pos) (fRetL i) := (ps_ret (pe_var hN hv hd hcd)).imp fun E σ H ⟨ps, F, fl, ps', R, e, q⟩ => by
  obtain ⟨d, e1, e2⟩ := bind_some e
  cases e2
  obtain ⟨v, fp, h1, h2, h3, _⟩ := R.rep i d (join_some e1)
  have h3 := h3 hb
  subst h3
  refine ⟨v, h1, q v σ H (setF F i []) (F i) ⟨⟨fun a o h _ _ => h, fun a h => h⟩, fun j a h => ?_, R.drop i, fun _ _ => rfl⟩ ⟨fun a h => .inl ⟨i, h⟩, R.nd i, fun j a h1 h2 => ?_⟩ h2⟩
  · rcases mem_setF h with z | z
    · exact absurd z (by simp)
    · exact .inl ⟨j, z⟩
  · rcases mem_setF h1 with z | z
    · exact absurd z (by simp)
    · have := R.dis j i a z h2
      subst this
      rw [setF_same] at h1; exact absurd h1 (by simp)
def fIf (c : PSt → Option (Bool × PSt)) (f g : PSt → Option (Fl × PSt)) : PSt → Option (Fl × PSt) := fun ps => (c ps).bind fun r => if r.1 = true then f r.2 else g r.2
theorem qs_if {c : Expr} {a b : List Stmt} {tc : PSt → Option (Bool × PSt)} (hc : QTE X κ φ c tc) (ha : QSs X κ φ a f) (hb : QSs X κ φ b g) : QS X κ φ (.If c a b pos) (fIf tc f g) := (ps_if hc ha hb).imp fun E σ H ⟨ps, F, fl, ps', R, e, q⟩ => by
  obtain ⟨⟨k, ps1⟩, e1, e2⟩ := bind_some e
  refine ⟨ps, F, k, ps1, R, e1, fun H' F' s => ?_⟩
  cases k with
  | true => rw [if_pos rfl] at e2 ⊢; exact tS_after s e2 q
  | false => rw [if_neg Bool.false_ne_true] at e2 ⊢; exact tS_after s e2 q
end
end L2
namespace L2
open PySem PySem.Spec PyProof.Rows
def fWhile (c : PSt → Option (Bool × PSt)) (f : PSt → Option (Fl × PSt)) : Nat → PSt → Option (Fl × PSt)
  | 0, _ => none
  | n + 1, ps => (c ps).bind fun r => if r.1 = true then (f r.2).bind fun q => match q with
      | (.nx, p) => fWhile c f n p
      | (.ct, p) => fWhile c f n p
      | (.bk, p) => some (.nx, p)
      | (.ret d, p) => some (.ret d, p)
    else some (.nx, r.2)
section
variable {X : Cx} {φ : Fx} {pos : Pos} {body : List Stmt} {f : PSt → Option (Fl × PSt)}
theorem PostS.back {E : Ends} {σ σ1 : St} {H H1 : Hp} {F F1 : Nat → List Addr} {ps1 ps2 : PSt} {fl : Fl} (s1 : Stp φ σ H F σ1 H1 ps1 F1) (q : PostS φ E σ H F fl ps2) : PostS φ E σ1 H1 F1 fl ps2 := by
  cases fl with
  | nx => exact fun σ' H' F' s => q σ' H' F' (s1.trans s)
  | bk => exact fun σ' H' F' s => q σ' H' F' (s1.trans s)
  | ct => exact fun σ' H' F' s => q σ' H' F' (s1.trans s)
  | ret d => exact fun v σ' H' F' fv s o r => q v σ' H' F' fv (s1.trans s) (o.after s1) r
theorem qs_while {κ : Str → Addr} {φ : F0} (n : Nat) {c : Expr} {tc : PSt → Option (Bool × PSt)} (hp : PassesOwn (model X.prog X.w) X.A X.env X.xe) (hc : QTE X κ φ c tc) (hb : QSs X κ φ body f) : QS X κ φ (.While c body [] pos) (fWhile tc f n) :=
  (ps_while hp hc hb).imp fun E σ H ⟨ps, F, fl, ps', R, e, q⟩ => by
    refine ⟨fun m σ1 H1 => ∃ ps1 F1, Stp (φ.fx X.K κ) σ H F σ1 H1 ps1 F1 ∧ fWhile tc f m ps1 = some (fl, ps'), ⟨n, ps, F, .refl R, e⟩, ?_⟩
    rintro m σ1 H1 ⟨ps1, F1, s1, e1⟩
    cases m with
    | zero => cases e1
    | succ m =>
      rw [fWhile] at e1
      obtain ⟨⟨k, ps2⟩, e2, e3⟩ := bind_some e1
      refine ⟨ps1, F1, k, ps2, s1.rs, e2, fun H2 F2 s2 => ?_⟩
      have s12 := s1.trans s2
      cases k with
      | true =>
        dsimp only at e3 ⊢
        rw [if_pos rfl] at e3 ⊢
        obtain ⟨⟨fl3, ps3⟩, e4, e5⟩ := bind_some e3
        refine ⟨fun σ' H' => ∃ F', Stp (φ.fx X.K κ) σ1 H2 F2 σ' H' ps3 F' ∧ fWhile tc f m ps3 = some (fl, ps'), fun σ' H' ⟨F', s, e⟩ => ⟨m, Nat.lt_succ_self m, ps3, F', s12.trans s, e⟩, ?_⟩
        refine ⟨ps2, F2, fl3, ps3, s2.rs, e4, ?_⟩
        cases fl3 with
        | nx => exact fun σ' H' F' s => ⟨F', s, e5⟩
        | ct => exact fun σ' H' F' s => ⟨F', s, e5⟩
        | bk => cases e5; exact fun σ' H' F' s => q σ' H' F' (s12.trans s)
        | ret d => cases e5; exact fun v σ' H' F' fv s o r => q v σ' H' F' fv (s12.trans s) (o.after s12) r
      | false =>
        dsimp only at e3 ⊢
        rw [if_neg Bool.false_ne_true] at e3 ⊢
        cases e3
        exact q _ _ F2 s12
end
def Kept (Z : List Addr) (H H' : Hp) : Prop := ∀ a o, H a = some o → (tf o = true ∨ (kd o = true ∧ a ∈ Z)) → H' a = some o
structure Walk (K : PySem.W.Frag) (κ : Str → Addr) (J : It) (Z : List Addr) (H1 : Hp) (ds : List D) : Prop where
  go : ∀ H', Kept Z H1 H' → ∀ (i : Nat) d, ds[i]? = some d → J.go i H' ∧ ∀ x H2, J.yld i H' x H2 → H2 = H' ∧ Rep K κ H' x d []
  stop : ∀ H', Kept Z H1 H' → J.stop ds.length H'
def tIV (K : PySem.W.Frag) (κ : Str → Addr) (f : PSt → Option (List D)) : TI := fun σ H R => ∃ ps ds, WS K κ H σ ps ∧ f ps = some ds ∧ ∀ J H1 Z, SameK H H1 → Walk K κ J Z H1 ds → R J H1
def tIP (K : PySem.W.Frag) (κ : Str → Addr) (f : PSt → Option (List D)) : TI := fun σ H R => ∃ ps ds, WS K κ H σ ps ∧ f ps = some ds ∧ ∀ J H1 Z, SameK H H1 → (∀ a ∈ Z, H a = none ∧ H1 a ≠ none) → Walk K κ J Z H1 ds → R J H1
theorem Kept.sq {K : PySem.W.Frag} {Z : List Addr} {H H' : Hp} {a : Addr} {vs : List V} (k : Kept Z H H') (h : Rd H a (.lst vs)) (hz : H a = some (.lst vs) → a ∈ Z) : SqL K H' a vs := by
  rcases h with h | ⟨o, h⟩
  · exact .inl (.inl (k a _ h (.inr ⟨rfl, hz h⟩)))
  · exact .inl (.inr ⟨o, k a _ h (.inl rfl)⟩)
theorem Kept.rep {K : PySem.W.Frag} {κ : Str → Addr} {Z : List Addr} {H H' : Hp} {v : V} {d : D} (k : Kept Z H H') (r : Rep K κ H v d []) : Rep K κ H' v d [] := r.move (fun a o h t => k a o h (.inl t)) fun a ha => absurd ha (by simp)
theorem pair_get {α β : Type} {R : α → β → Prop} : ∀ {l₁ : List α} {l₂ : List β} {i : Nat} {y : β}, Paired R l₁ l₂ → l₂[i]? = some y → ∃ x, l₁[i]? = some x ∧ R x y
  | _, _, _, _, .nil, e => by simp at e
  | _, _, 0, _, .cons h _, e => by simp at e; subst e; exact ⟨_, rfl, h⟩
  | _, _, i + 1, _, .cons _ t, e => by obtain ⟨x, h1, h2⟩ := pair_get (i := i) t (by simpa using e); exact ⟨x, by simpa using h1, h2⟩
section
variable {K : PySem.W.Frag} {κ : Str → Addr} {H1 : Hp} {a : Addr} {vs : List V} {ds : List D} {Z : List Addr}
theorem walk_list (h : Rd H1 a (.lst vs)) (hz : H1 a = some (.lst vs) → a ∈ Z) (r : Paired (fun v d => Rep K κ H1 v d []) vs ds) : Walk K κ (Itl K a) Z H1 ds where
  go := fun H' k i d e => by
    obtain ⟨x, e1, r1⟩ := pair_get r e
    have sq : SqL K H' a vs := k.sq h hz
    refine ⟨⟨vs, x, sq, e1⟩, fun y H2 hy => ⟨hy.1, ?_⟩⟩
    have e2 := hy.2 vs sq
    rw [e1] at e2; cases e2
    exact k.rep r1
  stop := fun H' k => ⟨vs, k.sq h hz, by rw [Paired.length r]; exact Nat.le_refl _⟩
theorem walk_con (h : SqF K H1 a vs) (r : Paired (fun v d => Rep K κ H1 v d []) vs ds) : Walk K κ (Itl K a) Z H1 ds where
  go := fun H' k i d e => by
    obtain ⟨x, e1, r1⟩ := pair_get r e
    have sq : SqL K H' a vs := (h.tf fun a o e t => k a o e (.inl t)).l
    refine ⟨⟨vs, x, sq, e1⟩, fun y H2 hy => ⟨hy.1, ?_⟩⟩
    have e2 := hy.2 vs sq
    rw [e1] at e2; cases e2
    exact k.rep r1
  stop := fun H' k => ⟨vs, (h.tf fun a o e t => k a o e (.inl t)).l, by rw [Paired.length r]; exact Nat.le_refl _⟩
theorem walk_tup (h : SqT K H1 a vs) (r : Paired (fun v d => Rep K κ H1 v d []) vs ds) : Walk K κ (Itt K a) Z H1 ds where
  go := fun H' k i d e => by
    obtain ⟨x, e1, r1⟩ := pair_get r e
    have sq : SqT K H' a vs := h.tf fun a o e t => k a o e (.inl t)
    refine ⟨⟨vs, x, sq, e1⟩, fun y H2 hy => ⟨hy.1, ?_⟩⟩
    have e2 := hy.2 vs sq
    rw [e1] at e2; cases e2
    exact k.rep r1
  stop := fun H' k => ⟨vs, h.tf fun a o e t => k a o e (.inl t), by rw [Paired.length r]; exact Nat.le_refl _⟩
end
def intsD (lo : Int) (n : Nat) : List D := (List.range n).map fun (k : Nat) => .int (lo + (k : Int))
theorem walk_range {K : PySem.W.Frag} {κ : Str → Addr} {H1 : Hp} {Z : List Addr} (lo : Int) (n : Nat) : Walk K κ (Itr lo n) Z H1 (intsD lo n) where
  go := fun H' _ i d e => by
    have hi := (List.getElem?_eq_some_iff.mp e).1
    unfold intsD at hi e
    rw [List.length_map, List.length_range] at hi
    rw [List.getElem?_map, List.getElem?_range hi] at e
    cases e
    exact ⟨hi, fun x H2 ⟨h1, h2⟩ => ⟨h1, by rw [h2]; exact .int _⟩⟩
  stop := fun H' _ => by
    show n ≤ (intsD lo n).length
    unfold intsD
    rw [List.length_map, List.length_range]; exact Nat.le_refl _
abbrev QIV (X : Cx) (κ : Str → Addr) (tg iter : Expr) (f : PSt → Option (List D)) : Prop := PI X tg iter (tIV X.K κ f)
abbrev QIP (X : Cx) (κ : Str → Addr) (tg iter : Expr) (f : PSt → Option (List D)) : Prop := PI X tg iter (tIP X.K κ f)
theorem PI.imp {X : Cx} {tg e : Expr} {t t' : TI} (h : PI X tg e t) (k : ∀ σ H Q, t' σ H Q → t σ H Q) : PI X tg e t' := fun pins s σ H Q I q => h pins s σ H Q I (k σ H Q q)
theorem QIP.v {X : Cx} {κ : Str → Addr} {tg iter : Expr} {f : PSt → Option (List D)} (h : QIP X κ tg iter f) : QIV X κ tg iter f := PI.imp h fun σ H R ⟨ps, ds, w, e, q⟩ => ⟨ps, ds, w, e, fun J H1 Z s _ k => q J H1 Z s k⟩
section
variable {X : Cx} {κ : Str → Addr} {tg l a b : Expr} {f : PSt → Option D} {g : PSt → Option (List D)} {p pos : Pos}
def dRng1 : List D → Option (List D)
  | [.int j] => if (-(2 ^ 62) ≤ j ∧ j < 2 ^ 62) then some (intsD 0 j.toNat) else none
  | _ => none
def dRng2 : List D → Option (List D)
  | [.int i, .int j] => if (-(2 ^ 62) ≤ i ∧ i < 2 ^ 62 ∧ -(2 ^ 62) ≤ j ∧ j < 2 ^ 62) then some (intsD i (j - i).toNat) else none
  | _ => none
def fRng1 (g : PSt → Option (List D)) : PSt → Option (List D) := fun ps => (g ps).bind dRng1
def fRng2 (g : PSt → Option (List D)) : PSt → Option (List D) := fun ps => (g ps).bind dRng2
theorem qi_range1 (hg : Gl X "range") (hm : X.mg "range" = none) (ha : QVA X κ [a] g) (hs : starEach [a] X.env = [(false, eval a X.env)] := by rfl) : QIP X κ tg (.Call (.Name "range" p) [a] [] pos) (fRng1 g) :=
  PI.imp (pi_range1 hg hm ha hs) fun σ H R ⟨ps, ds, w, e, q⟩ => by
    obtain ⟨as, e1, e2⟩ := bind_some e
    refine ⟨ps, as, w, e1, fun vs H1 fp s1 r1 => ?_⟩
    unfold dRng1 at e2
    split at e2
    · obtain ⟨hc, e3⟩ := ite_some e2
      cases e3
      obtain ⟨v, rfl, r⟩ := r1.one_inv
      exact ⟨_, by rw [r.is_int], hc.1, hc.2, q _ H1 [] s1 (fun _ h => absurd h (by simp)) (walk_range _ _)⟩
    · cases e2
theorem qi_range2 (hg : Gl X "range") (hm : X.mg "range" = none) (ha : QVA X κ [a, b] g) (hs : starEach [a, b] X.env = [(false, eval a X.env), (false, eval b X.env)] := by rfl) (hs2 : starEach [b] X.env = [(false, eval b X.env)] := by rfl) : QIP X κ tg (.Call (.Name "range" p) [a, b] [] pos) (fRng2 g) :=
  PI.imp (pi_range2 hg hm ha hs hs2) fun σ H R ⟨ps, ds, w, e, q⟩ => by
    obtain ⟨as, e1, e2⟩ := bind_some e
    refine ⟨ps, as, w, e1, fun vs H1 fp s1 r1 => ?_⟩
    unfold dRng2 at e2
    split at e2
    · obtain ⟨hc, e3⟩ := ite_some e2
      cases e3
      obtain ⟨v, u, f, g, rfl, r, r'⟩ := r1.two_inv
      exact ⟨_, _, by rw [r.is_int, r'.is_int], hc, q _ H1 [] s1 (fun _ h => absurd h (by simp)) (walk_range _ _)⟩
    · cases e2
def iSeq (K : PySem.W.Frag) (tl : TE) : TI := fun σ H R => tl σ H fun x H1 => ∃ a, x = .ref a ∧ (((∃ xs, SqL K H1 a xs) ∧ R (Itl K a) H1) ∨ ((∃ xs, SqT K H1 a xs) ∧ R (Itt K a) H1))
theorem pi_seq {tl : TE} (hl : PE X l tl) : PI X tg l (iSeq X.K tl) := by
  intro pins s σ H R I h
  refine thn (hl pins s σ H _ I h) fun v s1 ⟨x, H1, I1, r1, q1⟩ => ?_
  obtain ⟨a, e, q1⟩ := q1
  subst e
  cases r1
  rcases q1 with ⟨⟨xs, hq⟩, q⟩ | ⟨⟨xs, hq⟩, q⟩
  · obtain ⟨its, rv, p, hz⟩ := I1.list hq
    refine wpAny_pyIter_list p.isList ?_
    refine ⟨s1.heap.objs.size, [s1.heap.objs.size], _, _, H1, rfl, I1.kept (t' := s1.toks) fun b o e => Heap.get?_push_of_some _ e, turn_list a _, ⟨_, Heap.get?_push_size _ rfl, rfl, rfl⟩, fun b hb => ?_, q⟩
    have e : b = s1.heap.objs.size := by simpa using hb
    subst e
    exact I1.fpOk (Nat.le_refl _) (I1.hok.fresh (Nat.le_refl _))
  · obtain ⟨its, rv, p, hz⟩ := I1.tuple hq
    refine wpAny_pyIter_tuple (show s1.heap.IsTuple a its.toArray from p) ?_
    refine ⟨s1.heap.objs.size, [s1.heap.objs.size], _, _, H1, rfl, I1.kept (t' := s1.toks) fun b o e => Heap.get?_push_of_some _ e, turn_tuple a _, ⟨_, Heap.get?_push_size _ rfl, rfl, rfl⟩, fun b hb => ?_, q⟩
    have e : b = s1.heap.objs.size := by simpa using hb
    subst e
    exact I1.fpOk (Nat.le_refl _) (I1.hok.fresh (Nat.le_refl _))
def dSeq : D → Option (List D)
  | .lst _ xs => if D.imms xs = true then some xs else none
  | .tup xs => some xs
  | .con xs => some xs
  | _ => none
theorem dSeq_ok {K : PySem.W.Frag} {H : Hp} {v : V} {d : D} {fp : List Addr} {ds : List D} {R : It → Hp → Prop} (r : Rep K κ H v d fp) (e : dSeq d = some ds) (q : ∀ J Z, (∀ a ∈ Z, a ∈ fp) → Walk K κ J Z H ds → R J H) :
    ∃ a, v = .ref a ∧ (((∃ xs, SqL K H a xs) ∧ R (Itl K a) H) ∨ ((∃ xs, SqT K H a xs) ∧ R (Itt K a) H)) := by
  cases d with
  | lst o xs =>
    obtain ⟨hc, e⟩ := ite_some e
    cases e
    cases r with
    | lst h hs => exact ⟨_, rfl, .inl ⟨⟨_, .inl (.inl h)⟩, q _ [_] (fun a ha => by simp at ha; subst ha; exact List.mem_cons_self) (walk_list (.inl h) (fun _ => by simp) (hs.pair hc))⟩⟩
    | lstF h hs => exact ⟨_, rfl, .inl ⟨⟨_, .inl (.inr ⟨_, h⟩)⟩, q _ [] (fun a ha => absurd ha (by simp)) (walk_list (.inr ⟨_, h⟩) (fun z => by rw [h] at z; cases z) (hs.pair hc))⟩⟩
  | tup xs =>
    cases e
    obtain ⟨a, vs, rfl, h, hs⟩ := r.tup_inv
    exact ⟨a, rfl, .inr ⟨⟨_, h⟩, q _ [] (fun a ha => absurd ha (by simp)) (walk_tup h hs.nilp)⟩⟩
  | con xs =>
    cases e
    obtain ⟨a, vs, rfl, h, hs⟩ := r.con_inv
    exact ⟨a, rfl, .inl ⟨⟨_, h.l⟩, q _ [] (fun a ha => absurd ha (by simp)) (walk_con h hs.nilp)⟩⟩
  | _ => cases e
def fSeqI (f : PSt → Option D) : PSt → Option (List D) := fun ps => (f ps).bind dSeq
theorem qi_new (h : QP X κ l f) : QIP X κ tg l (fSeqI f) := PI.imp (pi_seq h) fun σ H R ⟨ps, ds, w, e, q⟩ => by
  obtain ⟨d, e1, e2⟩ := bind_some e
  exact ⟨ps, d, w, e1, fun v H1 fv s1 n1 nd1 r1 => dSeq_ok r1 e2 fun J Z hz k => q J H1 Z s1 (fun a ha => ⟨n1 a (hz a ha), fun z => by obtain ⟨o, h, _⟩ := r1.own a (hz a ha); rw [z] at h; cases h⟩) k⟩
theorem qi_see (h : QV X κ l f) : QIV X κ tg l (fSeqI f) := PI.imp (pi_seq h) fun σ H R ⟨ps, ds, w, e, q⟩ => by
  obtain ⟨d, e1, e2⟩ := bind_some e
  exact ⟨ps, d, w, e1, fun v H1 fv s1 r1 => dSeq_ok r1 e2 fun J Z _ k => q J H1 Z s1 k⟩
def signsD (z : Str) : List D := z.cps.toList.map fun c => .str ⟨#[c]⟩
end
def fForD (i : Nat) (f : PSt → Option (Fl × PSt)) : List D → PSt → Option (Fl × PSt)
  | [], ps => some (.nx, ps)
  | d :: ds, ps => (f (ps.set i (some d))).bind fun q => match q with
      | (.nx, p) => fForD i f ds p
      | (.ct, p) => fForD i f ds p
      | (.bk, p) => some (.nx, p)
      | (.ret d, p) => some (.ret d, p)
section
variable {X : Cx} {φ : Fx} {pos : Pos} {body : List Stmt} {f : PSt → Option (Fl × PSt)}
theorem Frm.kept {F : Nat → List Addr} {H H' : Hp} {Z : List Addr} {σ : St} {ps : PSt} (R : RS φ H σ ps F) (k : Frm F H H') (hz : ∀ a ∈ Z, ∀ i, a ∉ F i) : Kept Z H H' := fun a o h t => by
  rcases t with t | ⟨t1, t2⟩
  · refine k.keep a o h (kd_of_tf t) fun i hi => ?_
    obtain ⟨o', h', _, t'⟩ := R.own hi
    rw [h] at h'; cases h'; rw [t] at t'; cases t'
  · exact k.keep a o h t1 (hz a t2)
theorem for_walk {E : Ends} {σ : St} {H : Hp} {F : Nat → List Addr} {ps ps' : PSt} {fl : Fl} {ds : List D} {J : It} {Z : List Addr} {i : Nat} (R : RS φ H σ ps F) (hz : ∀ a ∈ Z, H a ≠ none ∧ ∀ i, a ∉ F i) (W : Walk φ.K φ.κ J Z H ds) (hb : φ.bor i = false) (hm : φ.M i = false)
    (e : fForD i f ds ps = some (fl, ps')) (q : PostS φ E σ H F fl ps') : ∃ V : Nat → Nat → St → Hp → Prop, (∃ m, V 0 m σ H) ∧ ∀ k m σ H, V k m σ H →
  (J.stop k H ∧ E.nx σ H) ∨ (J.go k H ∧ ∃ N : St → Hp → Prop, (∀ σ' H', N σ' H' → ∃ m', m' < m ∧ V (k + 1) m' σ' H') ∧ ∀ x H', J.yld k H x H' → gName i x σ H' fun σ2 H2 => tS φ f { E with nx := N, ct := N, bk := E.nx } σ2 H2) := by
  refine ⟨fun k m σ1 H1 => k ≤ ds.length ∧ m = ds.length - k ∧ ∃ ps1 F1, Stp φ σ H F σ1 H1 ps1 F1 ∧ fForD i f (ds.drop k) ps1 = some (fl, ps'), ⟨_, Nat.zero_le _, rfl, ps, F, .refl R, by rw [List.drop_zero]; exact e⟩, ?_⟩
  rintro k m σ1 H1 ⟨hk, rfl, ps1, F1, s1, e1⟩
  have kp : Kept Z H H1 := s1.fr.kept R fun a ha => (hz a ha).2
  by_cases hlt : k < ds.length
  · right
    have ed : ds[k]? = some ds[k] := List.getElem?_eq_getElem hlt
    obtain ⟨hgo, hy⟩ := W.go H1 kp k _ ed
    rw [List.drop_eq_getElem_cons hlt, fForD] at e1
    obtain ⟨⟨fl2, ps2⟩, e2, e3⟩ := bind_some e1
    refine ⟨hgo, fun σ' H' => ∃ F', Stp φ σ H F σ' H' ps2 F' ∧ fForD i f (ds.drop (k + 1)) ps2 = some (fl, ps'), fun σ' H' ⟨F', s, e⟩ => ⟨ds.length - (k + 1), by omega, hlt, rfl, ps2, F', s, e⟩, fun x H' y => ?_⟩
    obtain ⟨rfl, rx⟩ := hy x H' y
    obtain ⟨F2, s2⟩ := (Stp.refl s1.rs).set (i := i) (fv := []) (v := x) (d := ds[k]) ⟨fun _ h => absurd h (by simp), List.nodup_nil, fun _ _ _ h => absurd h (by simp)⟩ s1.rs rx (.inl hb) hm
    have s12 := s1.trans s2
    refine ⟨_, F2, fl2, ps2, s2.rs, e2, ?_⟩
    cases fl2 with
    | nx => exact fun σ' H' F' s => ⟨F', s12.trans s, e3⟩
    | ct => exact fun σ' H' F' s => ⟨F', s12.trans s, e3⟩
    | bk => cases e3; exact fun σ' H' F' s => q σ' H' F' (s12.trans s)
    | ret d => cases e3; exact fun v σ' H' F' fv s o r => q v σ' H' F' fv (s12.trans s) (o.after s12) r
  · left
    have ek : k = ds.length := by omega
    subst ek
    rw [List.drop_length, fForD] at e1
    cases e1
    exact ⟨W.stop H1 kp, q _ _ F1 s1⟩
def fFor (i : Nat) (fi : PSt → Option (List D)) (f : PSt → Option (Fl × PSt)) : PSt → Option (Fl × PSt) := fun ps => (fi ps).bind fun ds => fForD i f ds ps
theorem qs_for {κ : Str → Addr} {φ : F0} (i : Nat) {x : Str} {px : Pos} {iter : Expr} {fi : PSt → Option (List D)} (hp : PassesOwn (model X.prog X.w) X.A X.env X.xe) (hc : X.calm = true) (hN : X.N.Nodup) (hi : X.N[i]? = some x) (hx : Loc X.env.scope x) (hb : φ.bor i = false) (hm : φ.M i = false)
    (hit : PI X (.Name x px) iter (tIP X.K κ fi)) (hbd : QSs X κ φ body f) (hs : ∀ x, foldedSetIterable iter X.env x = pure x := by intro _; rfl) (hf : X.fn x = true ∨ X.env.scope.names.lookup x = some .local := by first | exact .inl rfl | exact .inr rfl | assumption) :
    QS X κ φ (.For (.Name x px) iter body [] pos) (fFor i fi f) := (ps_for hp hc hit (pg_name hN hi hx hf) hbd hs).imp fun E σ H ⟨ps, F, fl, ps', R, e, q⟩ => by
  obtain ⟨ds, e1, e2⟩ := bind_some e
  refine ⟨ps, ds, R.ws, e1, fun J H1 Z s1 hz W => ?_⟩
  have s := Stp.same R s1
  exact for_walk s.rs (fun a ha => ⟨(hz a ha).2, fun j hj => by obtain ⟨o, h, _⟩ := R.own hj; rw [(hz a ha).1] at h; cases h⟩) W hb hm e2 (q.back s)
def forR (g : TG) (tb : TS) (E : Ends) (σ : St) : It → Hp → Prop := fun J H1 => ∃ W : Nat → Nat → St → Hp → Prop, (∃ m, W 0 m σ H1) ∧ ∀ i m σ H, W i m σ H →
  (J.stop i H ∧ E.nx σ H) ∨ (J.go i H ∧ ∃ N : St → Hp → Prop, (∀ σ' H', N σ' H' → ∃ m', m' < m ∧ W (i + 1) m' σ' H') ∧ ∀ x H', J.yld i H x H' → g x σ H' fun σ2 H2 => tb { E with nx := N, ct := N, bk := E.nx } σ2 H2)
theorem qs_forB {κ : Str → Addr} {φ : F0} (i j : Nat) {x y : Str} {px py : Pos} (hp : PassesOwn (model X.prog X.w) X.A X.env X.xe) (hc : X.calm = true) (hN : X.N.Nodup) (hi : X.N[i]? = some x) (hx : Loc X.env.scope x) (hb : φ.bor i = false) (hm : φ.M i = false) (hj : φ.bor j = true)
    (hbd : QSs X κ φ body f) (hNj : X.N[j]? = some y := by rfl) (hv : Vis X.env.scope y := by first | exact Or.inl rfl | exact Or.inr (Or.inl rfl) | exact Or.inr (Or.inr rfl)) (hd : (y == ("__debug__" : Str)) = false := by decide)
    (hcd : (y == ("__classdict__" : Str)) = false := by decide) (hs : ∀ x, foldedSetIterable (.Name y py) X.env x = pure x := by intro _; rfl) (hf : X.fn x = true ∨ X.env.scope.names.lookup x = some .local := by first | exact .inl rfl | exact .inr rfl | assumption) :
    QS X κ φ (.For (.Name x px) (.Name y py) body [] pos) (fFor i (fSeqI (fVar j)) f) := (ps_for hp hc (pi_seq (pe_var hNj hv hd hcd)) (pg_name hN hi hx hf) hbd hs).imp fun E σ H ⟨ps, F, fl, ps', R, e, q⟩ => by
  obtain ⟨ds, e1, e2⟩ := bind_some e
  obtain ⟨d, e3, e4⟩ := bind_some e1
  obtain ⟨v, fp, h1, h2, _, h4⟩ := R.rep j d (join_some e3)
  refine ⟨v, h1, ?_⟩
  refine dSeq_ok (R := forR (gName i) (tS (φ.fx X.K κ) f) E σ) h2 e4 fun J Z hz W => ?_
  exact for_walk R (fun a ha => ⟨R.bt j a (h4 hj a (hz a ha)), fun k hk => R.nb k a hk j (h4 hj a (hz a ha))⟩) W hb hm e2 q
end
end L2
namespace L2
open PySem PySem.Spec PyProof.Rows
def gP (np n : Nat) (f : PSt → Option (Fl × PSt)) : List D → Option D := fun ds => if ds.length = np then (f (ds.map some ++ List.replicate n none)).bind fun r => match r with
  | (.ret d, _) => some d
  | (.nx, _) => some .non
  | _ => none
  else none
def SpP (np : Nat) (K : PySem.W.Frag) (κ : Str → Addr) (g : List D → Option D) : Sp := fun vs H Q _ => vs.length = np ∧ ∃ ds fp d, Reps K κ H vs ds fp ∧ g ds = some d ∧ NewV K κ H d Q
def fxP (K : PySem.W.Frag) (κ : Str → Addr) (np : Nat) (B : Nat → Addr → Prop) : Fx := ⟨K, κ, fun i => decide (i < np), fun _ => false, B⟩
def f0P (np : Nat) (B : Nat → Addr → Prop) : F0 := ⟨fun i => decide (i < np), fun _ => false, B⟩
theorem start_get {N : List Str} {vs : List V} {i : Nat} {v : V} (h : vs[i]? = some v) : (start N vs)[i]? = some (some v) := by
  unfold start
  have hi := (List.getElem?_eq_some_iff.mp h).1
  rw [List.getElem?_append_left (by simpa using hi), List.getElem?_map, h]; rfl
theorem RS.start {K : PySem.W.Frag} {κ : Str → Addr} {H : Hp} {N : List Str} {vs : List V} {ds : List D} {fp : List Addr} {np : Nat} (r : Reps K κ H vs ds fp) (hl : vs.length = np) (hn : np ≤ N.length) :
    RS (fxP K κ np (fun _ a => a ∈ fp)) H (start N vs) (ds.map some ++ List.replicate (N.length - np) none) (fun _ => []) := by
  have el := r.length
  refine ⟨fun i d h => ?_, fun i a h => absurd h (by simp), fun i j a h => absurd h (by simp), fun i => List.nodup_nil, fun i a h => absurd h (by simp), fun k a h z => ?_, ?_⟩
  · by_cases hi : i < ds.length
    · rw [List.getElem?_append_left (by simpa using hi), List.getElem?_map] at h
      cases e : ds[i]? with
      | none => rw [e] at h; cases h
      | some d' =>
        rw [e] at h; cases h
        obtain ⟨v, f, h1, h2, h3⟩ := r.get e
        refine ⟨v, f, start_get h1, h2, fun z => ?_, fun _ => h3⟩
        exact absurd (of_decide_eq_false z) (by omega)
    · rw [List.getElem?_append_right (by simpa using hi), List.getElem?_replicate] at h
      split at h <;> cases h
  · obtain ⟨o, h, _⟩ := r.own a h
    rw [z] at h; cases h
  · unfold L2.start
    simp only [List.length_append, List.length_map, List.length_replicate]
    omega
section
variable {P : Program} {w : World} {K : PySem.W.Frag} {mg : Str → Option Value} {base : Heap} {κ : Str → Addr}
theorem fn_pure {x qual : Str} {st : Stmt} {f : Addr} {fd : FuncData} {N ps : List Str} {k : Nat} {fb : PSt → Option (Fl × PSt)} (F : Fun K x qual st f fd) (S : FnScope N ps (defScope st))
    (hbody : ∀ (cdv : Value) (A : Around) (outer : List Env) (s : Shared) (H : Hp) (E : XK) (B : Nat → Addr → Prop), Room k (A.deeper (envOfC qual (defScope st) s.heap.objs.size f cdv)) →
      QSs (cxOf CX0 P w K mg base N qual (defScope st) f cdv A outer s H E).nox κ (f0P ps.length B) (defBody st) fb) :
    FnOk P w K mg base CX0 (k + 1) f fd ps (SpP ps.length K κ (gP ps.length (N.length - ps.length) fb)) := by
  refine F.ok S (fun vs H Q E h => h.1) fun cdv A outer s H vs Q E hr ⟨hl, ds, fp, d, r, e, q⟩ => ⟨_, hbody cdv A outer s H E (fun _ a => a ∈ fp) hr, ?_⟩
  have hn : ps.length ≤ N.length := by have := congrArg List.length S.pre; rw [List.length_take] at this; omega
  unfold gP at e
  obtain ⟨_, e0⟩ := ite_some e
  obtain ⟨⟨fl, ps'⟩, e1, e2⟩ := bind_some e0
  refine ⟨_, fun _ => [], fl, ps', RS.start r hl hn, e1, ?_⟩
  have sm : ∀ {H' : Hp}, Frm (fun _ => []) H H' → SameK H H' := fun k => ⟨fun a o h kk => k.keep a o h kk (fun _ => by simp), k.grow⟩
  cases fl with
  | ret d' =>
    cases e2
    exact fun v σ' H' F' fv s o rv => q v H' fv (sm s.fr) (fun a ha => (o.nw a ha).elim (fun ⟨j, hj⟩ => absurd hj (by simp)) id) o.nd rv
  | nx =>
    cases e2
    exact fun σ' H' F' s => q .non H' [] (sm s.fr) (fun a ha => absurd ha (by simp)) List.nodup_nil .non
  | bk => cases e2
  | ct => cases e2
end
section
variable {X : Cx} {κ : Str → Addr} {e : Expr} {es : List Expr} {g : PSt → Option (List D)} {pos p : Pos}
theorem qp_fn {x : Str} {st : Stmt} {ps : List Str} {f : Addr} {fd : FuncData} {k np : Nat} {h : List D → Option D} (Dd : Dn X.K X.mg x st ps f fd) (G : FnOk X.prog X.w X.K X.mg X.base CX0 k f fd ps (SpP np X.K κ h)) (hr : Room k X.A) (hg : Gl X x) (hnp : (e :: es).length = np) (ha : QVA X κ (e :: es) g)
    (hlen : ∀ ps ds, g ps = some ds → ds.length = (e :: es).length)
    (hdb : (x == ("__debug__" : Str)) = false := by decide) (he : starEach (e :: es) X.env = (false, eval e X.env) :: starEach es X.env := by rfl) (hpl : (backTo pos (starEach es X.env)).any (·.1) = false := by rfl) :
    QP X κ (.Call (.Name x p) (e :: es) [] pos) (fCall h g) := (pe_fn Dd G hr hg ha hdb he hpl).imp fun σ H Q ⟨ps, d, w, e, q⟩ => by
  obtain ⟨ds, e1, e2⟩ := bind_some e
  refine ⟨ps, ds, w, e1, fun vs H1 fp s1 r1 => ?_⟩
  show SpP np X.K κ h (vs ++ []) H1 Q E0
  rw [List.append_nil]
  exact ⟨by rw [r1.length, hlen ps ds e1, hnp], ds, fp, d, r1, e2, q.after s1⟩
theorem len_nil : ∀ (ps : PSt) (ds : List D), fNil ps = some ds → ds.length = ([] : List Expr).length := fun _ _ h => by cases h; rfl
theorem len_cons {f : PSt → Option D} (h : ∀ ps ds, g ps = some ds → ds.length = es.length) : ∀ (ps : PSt) (ds : List D), fCons f g ps = some ds → ds.length = (e :: es).length := fun ps ds q => by
  obtain ⟨d, es', _, e2, rfl⟩ := fCons_some q
  rw [List.length_cons, List.length_cons, h ps es' e2]
end
def subP (pick : List (Option Nat)) (ps : PSt) : PSt := pick.map fun o => o.bind fun j => (ps[j]?).join
def compL (psb : PSt) (ft : PSt → Option Bool) (fe : PSt → Option D) : List D → Option (List D)
  | [] => some []
  | d :: ds => (ft (psb.set 0 (some d))).bind fun b => if b = true then (fe (psb.set 0 (some d))).bind fun r => (compL psb ft fe ds).bind fun rs => some (r :: rs) else compL psb ft fe ds
def fComp (pick : List (Option Nat)) (fi : PSt → Option (List D)) (ft : PSt → Option Bool) (fe : PSt → Option D) : PSt → Option D := fun ps => (fi ps).bind fun ds => if ds.length ≤ sizeLine then (compL (subP pick ps) ft fe ds).bind fun rs => some (.lst true rs) else none
def fYes : PSt → Option Bool := fun _ => some true
theorem WS.sub {K : PySem.W.Frag} {κ : Str → Addr} {H : Hp} {σ : St} {ps : PSt} (pick : List (Option Nat)) (w : WS K κ H σ ps) : WS K κ H (subS pick σ) (subP pick ps) := fun i d h => by
  unfold subP at h
  unfold subS
  rw [List.getElem?_map] at h ⊢
  cases e : pick[i]? with
  | none => rw [e] at h; cases h
  | some o =>
    rw [e] at h
    cases o with
    | none => cases h
    | some j =>
      have h' : (ps[j]?).join = some d := Option.some.inj h
      obtain ⟨v, fp, h1, h2⟩ := w j d (join_some h')
      refine ⟨v, fp, ?_, h2⟩
      show some ((σ[j]?).join) = some (some v)
      rw [h1]; rfl
theorem WS.set0 {K : PySem.W.Frag} {κ : Str → Addr} {H : Hp} {σ : St} {ps : PSt} {v : V} {d : D} {fp : List Addr} (w : ∀ (i : Nat) (d : D), i ≠ 0 → ps[i]? = some (some d) → ∃ v fp, σ[i]? = some (some v) ∧ Rep K κ H v d fp) (hl : ps.length ≤ σ.length) (r : Rep K κ H v d fp) : WS K κ H (σ.set 0 (some v)) (ps.set 0 (some d)) := fun i d' h => by
  by_cases e : i = 0
  · subst e
    by_cases hp : 0 < ps.length
    · rw [List.getElem?_set_self hp] at h
      cases h
      exact ⟨v, fp, by rw [List.getElem?_set_self (by omega)], r⟩
    · rw [List.getElem?_eq_none (by simpa using hp)] at h; cases h
  · rw [List.getElem?_set_ne (fun z => e z.symm)] at h ⊢
    exact w i d' e h
section
variable {X : Cx} {κ : Str → Addr} {sc : Scope} {NX N : List Str} {pick : List (Option Nat)} {elt iter : Expr} {ifs : List Expr} {scope : Scope} {pos px : Pos} {x : Str} {fi : PSt → Option (List D)} {ft : PSt → Option Bool} {fe : PSt → Option D}
theorem PTs.imp {X : Cx} {ifs : List Expr} {t t' : TT} (h : PTs X ifs t) (k : ∀ σ H Q, t' σ H Q → t σ H Q) : PTs X ifs t' := fun pins s σ H Q I q => h pins s σ H Q I (k σ H Q q)
theorem qts_nil {X : Cx} : PTs X [] (tQ X.K κ fYes) := ct_nil.imp fun σ H Q ⟨ps, b, w, e, q⟩ => by cases e; exact q H (.refl H)
theorem qts_one {X : Cx} {c : Expr} (h : QT X κ c ft) : PTs X [c] (tQ X.K κ ft) := ct_one h
structure Grown (K : PySem.W.Frag) (κ : Str → Addr) (H1 : Hp) (Dd : Addr) (H' : Hp) (vs : List V) (rs : List D) (fv : List Addr) : Prop where
  same : SameK H1 H'
  at_ : H' Dd = some (.lst vs)
  rep : Reps K κ H' vs rs fv
  new : ∀ a ∈ fv, H1 a = none
  ne : Dd ∉ fv
  nd : fv.Nodup
theorem comp_run {pick : List (Option Nat)} {J : It} {Z : List Addr} {σ : St} {ps : PSt} {H1 : Hp} {Dd : Addr} {ds rs : List D} {Q : Addr → Hp → Prop} (w : WS X.K κ H1 σ ps) (hD : H1 Dd = none) (W : Walk X.K κ J Z H1 ds) (hz : ds.length ≤ sizeLine)
    (e : compL (subP pick ps) ft fe ds = some rs) (q : ∀ H' vs fv, Grown X.K κ H1 Dd H' vs rs fv → Q Dd H') :
    ∃ V : Nat → Nat → St → Hp → Prop, (∃ m, V 0 m (subS pick σ) (upd H1 Dd (.lst []))) ∧ ∀ i m σ' H', V i m σ' H' →
    (J.stop i H' ∧ Q Dd H') ∨ (J.go i H' ∧ ∀ x H2, J.yld i H' x H2 → gName 0 x σ' H2 fun σ3 H3 => tQ X.K κ ft σ3 H3 fun b H4 =>
      if b = true then tP X.K κ fe σ3 H4 fun y H5 => ∃ ys, H5 Dd = some (.lst ys) ∧ ys.length < sizeLine ∧ ∃ m', m' < m ∧ V (i + 1) m' σ3 (upd H5 Dd (.lst (ys ++ [y]))) else ∃ m', m' < m ∧ V (i + 1) m' σ3 H4) := by
  refine ⟨fun i m σ' H' => i ≤ ds.length ∧ m = ds.length - i ∧ (∀ (j : Nat) (d : D), j ≠ 0 → (subP pick ps)[j]? = some (some d) → ∃ v fp, σ'[j]? = some (some v) ∧ Rep X.K κ H1 v d fp) ∧ (subP pick ps).length ≤ σ'.length ∧
    ∃ vs fv done rest, Grown X.K κ H1 Dd H' vs done fv ∧ done.length ≤ i ∧ compL (subP pick ps) ft fe (ds.drop i) = some rest ∧ rs = done ++ rest, ⟨_, Nat.zero_le _, rfl, fun j d _ h => w.sub pick j d h, by simp [subP, subS], [], [], [], rs, ⟨.new hD _, upd_same, .nil, fun _ h => absurd h (by simp), by simp, List.nodup_nil⟩, Nat.zero_le _, by rw [List.drop_zero]; exact e, rfl⟩, ?_⟩
  rintro i m σ' H' ⟨hi, rfl, ws, wl, vs, fv, done, rest, G, hdn, er, ers⟩
  have kp : Kept Z H1 H' := fun a o h t => G.same.keep a o h (t.elim kd_of_tf fun t => t.1)
  by_cases hlt : i < ds.length
  · right
    have ed : ds[i]? = some ds[i] := List.getElem?_eq_getElem hlt
    obtain ⟨hgo, hy⟩ := W.go H' kp i _ ed
    refine ⟨hgo, fun x H2 y => ?_⟩
    obtain ⟨rfl, rx⟩ := hy x H2 y
    rw [List.drop_eq_getElem_cons hlt, compL] at er
    obtain ⟨b, e1, e2⟩ := bind_some er
    have wset : WS X.K κ H2 (σ'.set 0 (some x)) ((subP pick ps).set 0 (some ds[i])) := WS.set0 (fun j d hj h => by obtain ⟨v, fp, h1, h2⟩ := ws j d hj h; exact ⟨v, fp, h1, h2.same G.same⟩) wl rx
    refine ⟨_, b, wset, e1, fun H3 s3 => ?_⟩
    have keepS : ∀ (j : Nat) (d : D), j ≠ 0 → (subP pick ps)[j]? = some (some d) → ∃ v fp, (σ'.set 0 (some x))[j]? = some (some v) ∧ Rep X.K κ H1 v d fp := fun j d hj h => by
      obtain ⟨v, fp, h1, h2⟩ := ws j d hj h
      exact ⟨v, fp, by rw [List.getElem?_set_ne (fun z => hj z.symm)]; exact h1, h2⟩
    have Dkeep : ∀ {H5 : Hp}, SameK H2 H5 → H5 Dd = some (.lst vs) := fun s => s.keep _ _ G.at_ rfl
    cases b with
    | true =>
      dsimp only
      rw [if_pos rfl] at e2 ⊢
      obtain ⟨r, e3, e4⟩ := bind_some e2
      obtain ⟨rs', e5, e6⟩ := bind_some e4
      cases e6
      refine ⟨_, r, wset.same s3, e3, fun y H5 fw s5 n5 nd5 r5 => ?_⟩
      have s25 := s3.trans s5
      refine ⟨vs, Dkeep s25, ?_, ds.length - (i + 1), by omega, hlt, rfl, keepS, by simpa using wl, vs ++ [y], fv ++ fw, done ++ [r], rs', ?_, ?_, e5, by rw [ers]; simp⟩
      · have := G.rep.length; omega
      · have hDw : Dd ∉ fw := fun z => by have := s3.grow Dd (n5 Dd z); rw [G.at_] at this; cases this
        have hup : ∀ a, a ≠ Dd → upd H5 Dd (.lst (vs ++ [y])) a = H5 a := fun a h => upd_ne h
        have tfk : ∀ a o, H5 a = some o → tf o = true → upd H5 Dd (.lst (vs ++ [y])) a = some o := fun a o h t => by
          rw [hup a]
          · exact h
          · rintro rfl; rw [Dkeep s25] at h; cases h; cases t
        have rv5 : Reps X.K κ H5 vs done fv := G.rep.same s25
        refine ⟨⟨fun a o h k => ?_, fun a h => ?_⟩, upd_same, Reps.append (rv5.move tfk fun a ha => hup a fun z => G.ne (z ▸ ha)) (Reps.one (r5.move tfk fun a ha => hup a fun z => hDw (z ▸ ha))), fun a ha => ?_, fun z => ?_, ?_⟩
        · rw [hup a (fun z => by subst z; rw [hD] at h; cases h)]
          exact (G.same.trans s25).keep a o h k
        · by_cases z : a = Dd
          · subst z; rw [upd_same] at h; cases h
          · rw [hup a z] at h; exact (G.same.trans s25).grow a h
        · rcases List.mem_append.mp ha with z | z
          · exact G.new a z
          · exact (G.same.trans s3).grow a (n5 a z)
        · rcases List.mem_append.mp z with z | z
          · exact G.ne z
          · exact hDw z
        · rw [List.nodup_append]
          refine ⟨G.nd, nd5, fun a ha b hb e => ?_⟩
          subst e
          obtain ⟨o, h, k, _⟩ := G.rep.own a ha
          have := s3.keep a o h k
          rw [n5 a hb] at this; cases this
      · rw [List.length_append, List.length_singleton]; omega
    | false =>
      dsimp only
      rw [if_neg Bool.false_ne_true] at e2 ⊢
      refine ⟨ds.length - (i + 1), by omega, hlt, rfl, keepS, by simpa using wl, vs, fv, done, rest, ⟨G.same.trans s3, Dkeep s3, G.rep.same s3, G.new, G.ne, G.nd⟩, by omega, e2, ers⟩
  · left
    have ek : i = ds.length := by omega
    subst ek
    rw [List.drop_length, compL] at er
    cases er
    rw [List.append_nil] at ers
    subst ers
    exact ⟨W.stop H' kp, q H' vs fv G⟩
theorem qp_comp (S : CScope sc NX N pick scope) (hsc : X.env.scope = sc) (hNX : X.N = NX) (hc : X.calm = true) (hi : QIV X κ (.Name x px) iter fi)
    (hg : ∀ cl fp s H, PG (cxB X N scope cl fp s H) (.Name x px) (gName 0)) (ht : ∀ cl fp s H, PTs (cxB X N scope cl fp s H) ifs (tQ X.K κ ft)) (he : ∀ cl fp s H, PE (cxB X N scope cl fp s H) elt (tP X.K κ fe))
    (hs : ∀ x, foldedSetIterable iter X.env x = pure x := by intro _; rfl) : QP X κ (.ListComp elt [⟨.Name x px, iter, ifs, 0⟩] scope pos) (fComp pick fi ft fe) :=
  (pe_comp S hsc hNX hc hi hg ht he hs).imp fun σ H Q ⟨ps, d, w, e, q⟩ => by
    obtain ⟨ds, e1, e2⟩ := bind_some e
    obtain ⟨hz, e3⟩ := ite_some e2
    obtain ⟨rs, e4, e5⟩ := bind_some e3
    cases e5
    refine ⟨ps, ds, w, e1, fun J H1 Z s1 W Dd hD => ?_⟩
    refine comp_run (Q := fun Dd H' => Q (.ref Dd) H') (w.same s1) hD W hz e4 fun H' vs fv G => ?_
    refine q _ H' (Dd :: fv) (s1.trans G.same) (fun a ha => ?_) (List.nodup_cons.mpr ⟨G.ne, G.nd⟩) (.lst G.at_ G.rep)
    rcases List.mem_cons.mp ha with z | z
    · rw [z]; exact s1.grow Dd hD
    · exact s1.grow a (G.new a z)
end
end L2
namespace L2
open PySem PySem.Spec PyProof.Rows
inductive Ps1 where
  | ix (n : Nat) | fld (f : Str)
def fldIx : List Str → Str → Option Nat
  | [], _ => none
  | n :: ns, f => if n = f then some 0 else (fldIx ns f).map (· + 1)
def modP {α : Type} (h : D → Option (α × D)) : D → List Ps1 → Option (α × D)
  | d, [] => h d
  | .lst true xs, .ix n :: p => (xs[n]?).bind fun d => (modP h d p).bind fun r => some (r.1, .lst true (xs.set n r.2))
  | .obj true C ns vs, .fld f :: p => (fldIx ns f).bind fun n => (vs[n]?).bind fun d => (modP h d p).bind fun r => some (r.1, .obj true C ns (vs.set n r.2))
  | _, _ => none
def getP : D → List Ps1 → Option D
  | d, [] => some d
  | .lst true xs, .ix n :: p => (xs[n]?).bind fun d => getP d p
  | .obj true _ ns vs, .fld f :: p => (fldIx ns f).bind fun n => (vs[n]?).bind fun d => getP d p
  | _, _ => none
def At (H : Hp) : V → List Ps1 → V → Prop
  | v0, [], v => v = v0
  | v0, .ix n :: p, v => ∃ a vs v1, v0 = .ref a ∧ H a = some (.lst vs) ∧ vs[n]? = some v1 ∧ At H v1 p v
  | v0, .fld f :: p, v => ∃ a C dx fs n v1, v0 = .ref a ∧ H a = some (.ins C dx fs) ∧ fldIx (fs.map (·.1)) f = some n ∧ (fs.map (·.2))[n]? = some v1 ∧ At H v1 p v
theorem At.same {H H' : Hp} (s : SameK H H') : ∀ {p : List Ps1} {v0 v : V}, At H v0 p v → At H' v0 p v
  | [], _, _, h => h
  | .ix n :: p, _, _, ⟨a, vs, v1, h1, h2, h3, h4⟩ => ⟨a, vs, v1, h1, s.keep _ _ h2 rfl, h3, At.same s h4⟩
  | .fld f :: p, _, _, ⟨a, C, dx, fs, n, v1, h1, h2, h3, h4, h5⟩ => ⟨a, C, dx, fs, n, v1, h1, s.keep _ _ h2 rfl, h3, h4, At.same s h5⟩
theorem At.snoc_ix {H : Hp} {a : Addr} {vs : List V} {n : Nat} {v : V} (h : H a = some (.lst vs)) (hv : vs[n]? = some v) : ∀ {p : List Ps1} {v0 : V}, At H v0 p (.ref a) → At H v0 (p ++ [.ix n]) v
  | [], _, e => ⟨a, vs, v, e.symm, h, hv, rfl⟩
  | .ix m :: p, _, ⟨b, us, v1, h1, h2, h3, h4⟩ => ⟨b, us, v1, h1, h2, h3, At.snoc_ix h hv h4⟩
  | .fld f :: p, _, ⟨b, C, dx, fs, m, v1, h1, h2, h3, h4, h5⟩ => ⟨b, C, dx, fs, m, v1, h1, h2, h3, h4, At.snoc_ix h hv h5⟩
theorem modP_get {α : Type} {h : D → Option (α × D)} {r : α} {d' : D} : ∀ {p : List Ps1} {d0 : D}, modP h d0 p = some (r, d') → ∃ d dn, getP d0 p = some d ∧ h d = some (r, dn)
  | [], d0, e => by rw [modP] at e; exact ⟨d0, d', by rw [getP], e⟩
  | .ix m :: p, d0, e => by
    cases d0 with
    | lst o ys =>
      cases o with
      | true =>
        obtain ⟨d1, h1, h2⟩ := bind_some e
        obtain ⟨⟨r1, d2⟩, h3, h4⟩ := bind_some h2
        cases h4
        obtain ⟨d, dn, g1, g2⟩ := modP_get h3
        refine ⟨d, dn, ?_, g2⟩
        show (ys[m]?).bind _ = _
        rw [h1]; exact g1
      | false => cases e
    | _ => cases e
  | .fld f :: p, d0, e => by
    cases d0 with
    | obj o C ns ys =>
      cases o with
      | true =>
        obtain ⟨m, h0, h'⟩ := bind_some e
        obtain ⟨d1, h1, h2⟩ := bind_some h'
        obtain ⟨⟨r1, d2⟩, h3, h4⟩ := bind_some h2
        cases h4
        obtain ⟨d, dn, g1, g2⟩ := modP_get h3
        refine ⟨d, dn, ?_, g2⟩
        show (fldIx ns f).bind _ = _
        rw [h0]
        show (ys[m]?).bind _ = _
        rw [h1]; exact g1
      | false => cases e
    | _ => cases e
section
variable {K : PySem.W.Frag} {κ : Str → Addr} {H : Hp}
theorem Reps.focus : ∀ {vs : List V} {ds : List D} {g : List Addr} {n : Nat} {d1 : D} {v1 : V}, Reps K κ H vs ds g → ds[n]? = some d1 → vs[n]? = some v1 → ∃ f1 rest, Rep K κ H v1 d1 f1 ∧ g.Perm (f1 ++ rest) ∧
    ∀ (H' : Hp) (d' : D) (f' : List Addr), (∀ a o, H a = some o → tf o = true → H' a = some o) → (∀ a ∈ rest, H' a = H a) → Rep K κ H' v1 d' f' → ∃ g', Reps K κ H' vs (ds.set n d') g' ∧ g'.Perm (f' ++ rest)
  | _, _, _, _, _, _, .nil, e, _ => by simp at e
  | _, _, _, 0, _, _, .cons (f := f) (g := g) h hs, e, e' => by
    simp at e e'; subst e; subst e'
    exact ⟨f, g, h, .refl _, fun H' d' f' t k r => ⟨f' ++ g, .cons r (hs.move t k), .refl _⟩⟩
  | _, _, _, n + 1, _, _, .cons (f := f) (g := g) h hs, e, e' => by
    obtain ⟨f1, rest, h1, h2, h3⟩ := Reps.focus (n := n) hs (by simpa using e) (by simpa using e')
    refine ⟨f1, f ++ rest, h1, ?_, fun H' d' f' t k r => ?_⟩
    · refine (h2.append_left f).trans ?_
      rw [← List.append_assoc, ← List.append_assoc]
      exact List.perm_append_comm.append_right rest
    · obtain ⟨g', r1, r2⟩ := h3 H' d' f' t (fun a ha => k a (List.mem_append_right _ ha)) r
      refine ⟨f ++ g', .cons (h.move t fun a ha => k a (List.mem_append_left _ ha)) r1, ?_⟩
      refine (r2.append_left f).trans ?_
      rw [← List.append_assoc, ← List.append_assoc]
      exact List.perm_append_comm.append_right rest
theorem focus {α : Type} {h : D → Option (α × D)} {r : α} : ∀ {p : List Ps1} {v0 v : V} {d0 d0' : D} {fp : List Addr}, Rep K κ H v0 d0 fp → modP h d0 p = some (r, d0') → At H v0 p v → ∃ d d' fd rest, Rep K κ H v d fd ∧ h d = some (r, d') ∧ fp.Perm (fd ++ rest) ∧
    ∀ (H' : Hp) (f' : List Addr), (∀ a o, H a = some o → tf o = true → H' a = some o) → (∀ a ∈ rest, H' a = H a) → Rep K κ H' v d' f' → ∃ fp', Rep K κ H' v0 d0' fp' ∧ fp'.Perm (f' ++ rest)
  | [], v0, v, d0, d0', fp, R, e, a => by
    rw [modP] at e
    cases (show v = v0 from a)
    exact ⟨d0, d0', fp, [], R, e, by rw [List.append_nil], fun H' f' t k r => ⟨f', r, by rw [List.append_nil]⟩⟩
  | .ix n :: p, v0, v, d0, d0', fp, R, e, ⟨b, vs, v1, e1, e2, e3, e4⟩ => by
    subst e1
    cases d0 with
    | lst o xs =>
      cases o with
      | false => cases e
      | true =>
        obtain ⟨d1, h1, h2⟩ := bind_some e
        obtain ⟨⟨r1, d2⟩, h3, h4⟩ := bind_some h2
        cases h4
        cases R with
        | lst hb hs =>
          rw [e2] at hb; cases hb
          obtain ⟨f1, rest1, k1, k2, k3⟩ := hs.focus h1 e3
          obtain ⟨d, d', fd, rest, m1, m2, m3, m4⟩ := focus k1 h3 e4
          refine ⟨d, d', fd, b :: (rest ++ rest1), m1, m2, ?_, fun H' f' t k rr => ?_⟩
          · refine ((k2.trans (m3.append_right rest1)).cons b).trans ?_
            rw [List.append_assoc]
            exact List.perm_middle.symm
          · obtain ⟨g1, q1, q2⟩ := m4 H' f' t (fun a ha => k a (List.mem_cons_of_mem _ (List.mem_append_left _ ha))) rr
            obtain ⟨g2, q3, q4⟩ := k3 H' d2 g1 t (fun a ha => k a (List.mem_cons_of_mem _ (List.mem_append_right _ ha))) q1
            refine ⟨b :: g2, .lst (by rw [k b List.mem_cons_self]; exact e2) q3, ?_⟩
            refine ((q4.trans (q2.append_right rest1)).cons b).trans ?_
            rw [List.append_assoc]
            exact List.perm_middle.symm
    | _ => cases e
  | .fld f :: p, v0, v, d0, d0', fp, R, e, ⟨b, C, dx, fs, n, v1, e1, e2, e2', e3, e4⟩ => by
    subst e1
    cases d0 with
    | obj o C' ns xs =>
      cases o with
      | false => cases e
      | true =>
        obtain ⟨n', h0, h0'⟩ := bind_some e
        obtain ⟨d1, h1, h2⟩ := bind_some h0'
        obtain ⟨⟨r1, d2⟩, h3, h4⟩ := bind_some h2
        cases h4
        cases R with
        | obj hb hn hs =>
          rw [e2] at hb; cases hb
          subst hn
          rw [e2'] at h0; cases h0
          obtain ⟨f1, rest1, k1, k2, k3⟩ := hs.focus h1 e3
          obtain ⟨d, d', fd, rest, m1, m2, m3, m4⟩ := focus k1 h3 e4
          refine ⟨d, d', fd, b :: (rest ++ rest1), m1, m2, ?_, fun H' f' t k rr => ?_⟩
          · refine ((k2.trans (m3.append_right rest1)).cons b).trans ?_
            rw [List.append_assoc]
            exact List.perm_middle.symm
          · obtain ⟨g1, q1, q2⟩ := m4 H' f' t (fun a ha => k a (List.mem_cons_of_mem _ (List.mem_append_left _ ha))) rr
            obtain ⟨g2, q3, q4⟩ := k3 H' d2 g1 t (fun a ha => k a (List.mem_cons_of_mem _ (List.mem_append_right _ ha))) q1
            refine ⟨b :: g2, .obj (by rw [k b List.mem_cons_self]; exact e2) rfl q3, ?_⟩
            refine ((q4.trans (q2.append_right rest1)).cons b).trans ?_
            rw [List.append_assoc]
            exact List.perm_middle.symm
    | _ => cases e
end
theorem commit {φ : Fx} {α : Type} {h : D → Option (α × D)} {r : α} {H H1 : Hp} {σ : St} {ps : PSt} {F : Nat → List Addr} {j : Nat} {d0 d0' : D} {v0 v : V} {p : List Ps1} (R : RS φ H σ ps F) (s1 : SameK H H1) (hb : φ.bor j = false) (e0 : ps[j]? = some (some d0)) (ev : σ[j]? = some (some v0))
    (em : modP h d0 p = some (r, d0')) (at_ : At H1 v0 p v) : ∃ d d' fd, Rep φ.K φ.κ H1 v d fd ∧ h d = some (r, d') ∧ fd.Nodup ∧ (∀ a ∈ fd, a ∈ F j) ∧
    ∀ (H' : Hp) (fd' fr : List Addr), (∀ a o, H1 a = some o → kd o = true → a ∉ fd → H' a = some o) → (∀ a, H' a = none → H1 a = none) → Rep φ.K φ.κ H' v d' fd' → (fd' ++ fr).Nodup → (∀ a ∈ fd' ++ fr, a ∈ fd ∨ H a = none) →
      ∃ F', Stp φ σ H F σ H' (ps.set j (some d0')) F' ∧ OwnV F H F' fr := by
  obtain ⟨v0', fp, h1, h2, h3, _⟩ := R.rep j d0 e0
  rw [ev] at h1; cases h1
  have h3 := h3 hb
  subst h3
  obtain ⟨d, d', fd, rest, m1, m2, m3, m4⟩ := focus (h2.same s1) em at_
  have ndF := R.nd j
  have ndp : (fd ++ rest).Nodup := m3.nodup_iff.mp ndF
  obtain ⟨nd1, nd2, nd3⟩ := List.nodup_append.mp ndp
  have inF : ∀ a, a ∈ fd ∨ a ∈ rest → a ∈ F j := fun a ha => m3.mem_iff.mpr (List.mem_append.mpr ha)
  refine ⟨d, d', fd, m1, m2, nd1, fun a ha => inF a (.inl ha), fun H' fd' fr k1 k2 k3 k4 k5 => ?_⟩
  have tfk : ∀ a o, H1 a = some o → tf o = true → H' a = some o := fun a o ha t => k1 a o ha (kd_of_tf t) fun hm => by
    obtain ⟨o', q, _, q'⟩ := m1.own a hm
    rw [ha] at q; cases q; rw [t] at q'; cases q'
  have keepO : ∀ a, (∃ i, a ∈ F i) → a ∉ fd → H' a = H1 a := fun a ⟨i, hi⟩ hn => by
    obtain ⟨o, q, q', _⟩ := R.own hi
    have q1 := s1.keep a o q q'
    rw [q1]; exact k1 a o q1 q' hn
  have notfd : ∀ a, a ∈ rest → a ∉ fd := fun a hr hf => nd3 a hf a hr rfl
  obtain ⟨fp', r1, r2⟩ := m4 H' fd' tfk (fun a ha => keepO a ⟨j, inF a (.inr ha)⟩ (notfd a ha)) k3
  obtain ⟨kd1, kd2, kd3⟩ := List.nodup_append.mp k4
  have memfp : ∀ a, a ∈ fp' → a ∈ fd' ∨ a ∈ rest := fun a ha => List.mem_append.mp (r2.mem_iff.mp ha)
  have lt : j < ps.length := (List.getElem?_eq_some_iff.mp e0).1
  have old : ∀ a, a ∈ fd' ++ fr → ∀ i, a ∈ F i → a ∈ fd := fun a ha i hi => (k5 a ha).elim id fun z => by
    obtain ⟨o, q, _⟩ := R.own hi
    rw [z] at q; cases q
  refine ⟨setF F j fp', ⟨⟨fun a o ha hk hn => ?_, fun a ha => s1.grow a (k2 a ha)⟩, fun i a ha => ?_, ⟨fun i d2 hi => ?_, fun i a ha => ?_, fun i k a ha hk => ?_, fun i => ?_, fun i a ha kk hB => ?_, fun kk a hB z => R.bt kk a hB (s1.grow a (k2 a z)), by simpa using R.len⟩, fun _ _ => rfl⟩, ⟨fun a ha => ?_, kd2, fun i a ha hr => ?_⟩⟩
  · exact k1 a o (s1.keep a o ha hk) hk fun hm => hn j (inF a (.inl hm))
  · rcases mem_setF ha with z | z
    · rcases memfp a z with z | z
      · exact (k5 a (List.mem_append_left _ z)).elim (fun z => .inl ⟨j, inF a (.inl z)⟩) .inr
      · exact .inl ⟨j, inF a (.inr z)⟩
    · exact .inl ⟨i, z⟩
  · by_cases e : i = j
    · subst e
      rw [List.getElem?_set_self lt] at hi
      cases hi
      exact ⟨v0, fp', ev, r1, fun _ => setF_same.symm, fun z => by rw [hb] at z; cases z⟩
    · rw [List.getElem?_set_ne (fun z => e z.symm)] at hi
      obtain ⟨v2, f2, q1, q2, q3, q4⟩ := R.rep i d2 hi
      refine ⟨v2, f2, q1, (q2.same s1).move tfk fun a ha => ?_, fun z => by rw [setF_ne e]; exact q3 z, q4⟩
      obtain ⟨o, w1, w2, _⟩ := q2.own a ha
      have w3 := s1.keep a o w1 w2
      rw [w3]
      refine k1 a o w3 w2 fun hm => ?_
      have hF := inF a (.inl hm)
      cases hbi : φ.bor i with
      | true => exact R.nb j a hF i (q4 hbi a ha)
      | false => rw [q3 hbi] at ha; exact e (R.dis i j a ha hF)
  · by_cases e : i = j
    · subst e; exact ⟨hb, d0', by rw [List.getElem?_set_self lt]⟩
    · rw [setF_ne e] at ha
      obtain ⟨b1, d1, b2⟩ := R.emp i a ha
      exact ⟨b1, d1, by rw [List.getElem?_set_ne (fun z => e z.symm)]; exact b2⟩
  · have hh : ∀ a, a ∈ fp' → ∀ i, i ≠ j → a ∈ F i → False := fun a ha i hij hi => by
      rcases memfp a ha with z | z
      · exact hij (R.dis i j a hi (inF a (.inl (old a (List.mem_append_left _ z) i hi))))
      · exact hij (R.dis i j a hi (inF a (.inr z)))
    by_cases e1 : i = j
    · by_cases e2 : k = j
      · rw [e1, e2]
      · subst e1; rw [setF_same] at ha; rw [setF_ne e2] at hk; exact (hh a ha k e2 hk).elim
    · by_cases e2 : k = j
      · subst e2; rw [setF_same] at hk; rw [setF_ne e1] at ha; exact (hh a hk i e1 ha).elim
      · rw [setF_ne e1] at ha; rw [setF_ne e2] at hk; exact R.dis i k a ha hk
  · by_cases e : i = j
    · subst e
      rw [setF_same]
      refine r2.nodup_iff.mpr (List.nodup_append.mpr ⟨kd1, nd2, fun a ha b hb' e => ?_⟩)
      subst e
      exact notfd a hb' (old a (List.mem_append_left _ ha) i (inF a (.inr hb')))
    · rw [setF_ne e]; exact R.nd i
  · rcases mem_setF ha with z | z
    · rcases memfp a z with z | z
      · exact R.notB ((k5 a (List.mem_append_left _ z)).elim (fun z => .inl ⟨j, inF a (.inl z)⟩) .inr) kk hB
      · exact R.nb j a (inF a (.inr z)) kk hB
    · exact R.nb i a z kk hB
  · exact (k5 a (List.mem_append_right _ ha)).elim (fun z => .inl ⟨j, inF a (.inl z)⟩) .inr
  · rcases mem_setF ha with z | z
    · rcases memfp a z with z | z
      · exact kd3 a z a hr rfl
      · exact notfd a z (old a (List.mem_append_right _ hr) j (inF a (.inr z)))
    · have := old a (List.mem_append_right _ hr) i z
      by_cases e : i = j
      · subst e
        rw [setF_same] at ha
        rcases memfp a ha with w | w
        · exact kd3 a w a hr rfl
        · exact notfd a w this
      · exact e (R.dis i j a z (inF a (.inl this)))
end L2
namespace L2
open PySem PySem.Spec PyProof.Rows
def tPath (K : PySem.W.Frag) (κ : Str → Addr) (j : Nat) (pf : PSt → Option (List Ps1)) : TE := fun σ H Q => ∃ ps p d0 d, WS K κ H σ ps ∧ ps[j]? = some (some d0) ∧ pf ps = some p ∧ getP d0 p = some d ∧ ∀ v H' v0, SameK H H' → σ[j]? = some (some v0) → At H' v0 p v → Q v H'
theorem path_rep {K : PySem.W.Frag} {κ : Str → Addr} {H : Hp} {v0 v : V} {d0 d : D} {fp : List Addr} {p : List Ps1} (R : Rep K κ H v0 d0 fp) (g : getP d0 p = some d) (a : At H v0 p v) : ∃ fd, Rep K κ H v d fd := by
  have key : ∀ {p : List Ps1} {v0 v : V} {d0 d : D} {fp : List Addr}, Rep K κ H v0 d0 fp → getP d0 p = some d → At H v0 p v → ∃ fd, Rep K κ H v d fd := by
    intro p
    induction p with
    | nil => intro v0 v d0 d fp R g a; cases g; cases (show v = v0 from a); exact ⟨fp, R⟩
    | cons s p ih =>
      intro v0 v d0 d fp R g a
      cases s with
      | ix n =>
        obtain ⟨b, vs, v1, e1, e2, e3, e4⟩ := a
        subst e1
        cases d0 with
        | lst o xs =>
          cases o with
          | false => cases g
          | true =>
            obtain ⟨d1, h1, h2⟩ := bind_some g
            cases R with
            | lst hb hs =>
              rw [e2] at hb; cases hb
              obtain ⟨v', f, q1, q2, _⟩ := hs.get h1
              rw [e3] at q1; cases q1
              exact ih q2 h2 e4
        | _ => cases g
      | fld f =>
        obtain ⟨b, C, dx, fs, n, v1, e1, e2, e2', e3, e4⟩ := a
        subst e1
        cases d0 with
        | obj o C' ns xs =>
          cases o with
          | false => cases g
          | true =>
            obtain ⟨n', h0, h'⟩ := bind_some g
            obtain ⟨d1, h1, h2⟩ := bind_some h'
            cases R with
            | obj hb hn hs =>
              rw [e2] at hb; cases hb
              subst hn
              rw [e2'] at h0; cases h0
              obtain ⟨v', f, q1, q2, _⟩ := hs.get h1
              rw [e3] at q1; cases q1
              exact ih q2 h2 e4
        | _ => cases g
  exact key R g a
def fPNil : PSt → Option (List Ps1) := fun _ => some []
def fPIx (j : Nat) (pf : PSt → Option (List Ps1)) (fb : PSt → Option D) : PSt → Option (List Ps1) := fun ps => (pf ps).bind fun p => ((ps[j]?).join).bind fun d0 => (getP d0 p).bind fun d => (fb ps).bind fun y => match d, y with
  | .lst true xs, .int i => (ixN xs.length i).bind fun n => some (p ++ [.ix n])
  | _, _ => none
section
variable {X : Cx} {φ : F0} {κ : Str → Addr} {K : PySem.W.Frag} {o e a b : Expr} {f fb fe : PSt → Option D} {g : PSt → Option (List D)} {pf : PSt → Option (List Ps1)} {j : Nat} {pos apos : Pos}
theorem qpath_name (j : Nat) {x : Str} (hN : X.N[j]? = some x := by rfl) (hv : Vis X.env.scope x := by first | exact Or.inl rfl | exact Or.inr (Or.inl rfl) | exact Or.inr (Or.inr rfl)) (hd : (x == ("__debug__" : Str)) = false := by decide)
    (hcd : (x == ("__classdict__" : Str)) = false := by decide) : PE X (.Name x pos) (tPath K κ j fPNil) := (pe_var hN hv hd hcd).imp fun σ H Q ⟨ps, p, d0, d, w, e0, ep, eg, q⟩ => by
  cases ep
  obtain ⟨v, fp, h1, h2⟩ := w j d0 e0
  exact ⟨v, h1, q v H v (.refl H) h1 rfl⟩
theorem qpath_ix (ha : PE X a (tPath X.K κ j pf)) (hb : QV X κ b fb) (hs : PlainIx b := by exact fun _ _ => rfl) : PE X (.Subscript a b pos) (tPath X.K κ j (fPIx j pf fb)) :=
  (pe_ix ix_list ha hb hs).imp fun σ H Q ⟨ps, p, d0, d, w, e0, ep, eg, q⟩ => by
    obtain ⟨p1, e1, e2⟩ := bind_some ep
    obtain ⟨d0', e3, e4⟩ := bind_some e2
    have := join_some e3
    rw [e0] at this; cases this
    obtain ⟨d1, e5, e6⟩ := bind_some e4
    obtain ⟨y, e7, e8⟩ := bind_some e6
    cases d1 with
    | lst ow xs => cases ow with
      | true => cases y with
        | int i =>
          obtain ⟨n, e9, e10⟩ := bind_some e8
          cases e10
          refine ⟨ps, p1, d0, _, w, e0, e1, e5, fun v H1 v0 s1 ev a1 => ⟨ps, _, w.same s1, e7, fun u H2 fq s2 r2 => ?_⟩⟩
          obtain ⟨v0', fp, h1, h2⟩ := w j d0 e0
          rw [ev] at h1; cases h1
          obtain ⟨fd, rd⟩ := path_rep (h2.same (s1.trans s2)) e5 (a1.same s2)
          cases rd with
          | lst hl hr =>
            rename_i l vs g
            have ln := hr.length
            have hn := (ixN_seq e9).2.1
            obtain ⟨v1, hv⟩ : ∃ v1, vs[n]? = some v1 := ⟨_, List.getElem?_eq_getElem (by omega)⟩
            refine ⟨l, vs, i, v1, rfl, r2.is_int, .inl (.inl hl), ?_, q _ H2 v0 (s1.trans s2) ev (At.snoc_ix hl hv (a1.same s2))⟩
            unfold atI
            rw [ln, e9]; exact hv
        | _ => cases e8
      | false => cases y <;> cases e8
    | _ => cases y <;> cases e8
def fMut (j : Nat) (pf : PSt → Option (List Ps1)) (g : PSt → Option (List D)) (h : List D → D → Option (D × D)) : PSt → Option (D × PSt) := fun ps => ((ps[j]?).join).bind fun d0 => (pf ps).bind fun p => (g ps).bind fun ys => (modP (h ys) d0 p).bind fun r => some (r.1, ps.set j (some r.2))
theorem fMut_some {h : List D → D → Option (D × D)} {ps ps' : PSt} {d : D} (e : fMut j pf g h ps = some (d, ps')) : ∃ d0 p ys d0', ps[j]? = some (some d0) ∧ pf ps = some p ∧ g ps = some ys ∧ modP (h ys) d0 p = some (d, d0') ∧ ps' = ps.set j (some d0') := by
  obtain ⟨d0, e1, e2⟩ := bind_some e
  obtain ⟨p, e3, e4⟩ := bind_some e2
  obtain ⟨ys, e5, e6⟩ := bind_some e4
  obtain ⟨⟨r, d0'⟩, e7, e8⟩ := bind_some e6
  cases e8
  exact ⟨d0, p, ys, d0', join_some e1, e3, e5, e7, rfl⟩
def hAppend : List D → D → Option (D × D)
  | [y], .lst true xs => if xs.length < sizeLine then some (.non, .lst true (xs ++ [y])) else none
  | _, _ => none
theorem hAppend_some {ys : List D} {d r d' : D} (h : hAppend ys d = some (r, d')) : ∃ y xs, ys = [y] ∧ d = .lst true xs ∧ xs.length < sizeLine ∧ r = .non ∧ d' = .lst true (xs ++ [y]) := by
  unfold hAppend at h
  split at h
  · obtain ⟨hc, e⟩ := ite_some h
    cases e
    exact ⟨_, _, rfl, rfl, hc, rfl, rfl⟩
  · cases h
theorem ws_path {H H1 : Hp} {σ : St} {ps : PSt} {d0 d : D} {v0 v : V} {p : List Ps1} (w : WS K κ H σ ps) (s1 : SameK H H1) (e0 : ps[j]? = some (some d0)) (ev : σ[j]? = some (some v0)) (g : getP d0 p = some d) (a : At H1 v0 p v) : ∃ fd, Rep K κ H1 v d fd := by
  obtain ⟨v0', fp, h1, h2⟩ := w j d0 e0
  rw [ev] at h1; cases h1
  exact path_rep (h2.same s1) g a
theorem qe_append (hb : φ.bor j = false) (ho : PE X o (tPath X.K κ j pf)) (ha : PA X [e] (tPA X.K κ g))
    (hbase : attributeBase o "append" X.env (eval o X.env) = eval o X.env := by rfl)
    (hfew : ((backTo pos (starEach [e] X.env)).all (fun x => !x.1) && (backToKw pos (keywordEach [] X.env)).all (fun x => x.1.isSome)
      && decide ([e].length + ([] : List Keyword).length + (if ([] : List Keyword).isEmpty then 0 else 1) < 30)) = true := by rfl)
    (hline : (apos.endLine == pos.line) = true := by rfl) (hs : starEach [e] X.env = (false, eval e X.env) :: starEach [] X.env := by rfl) (hplain : (backTo pos (starEach [] X.env)).any (·.1) = false := by rfl) :
    QE X κ φ (.Call (.Attribute o "append" apos) [e] [] pos) (fMut j pf g hAppend) :=
  (pe_bm PySem.F.plainAttrs_list PySem.F.slot_list_append PySem.F.type_list_append mt_append ho ha hbase hfew hline hs hplain).imp fun σ H Q ⟨ps, F, d, ps', R, e, q⟩ => by
    obtain ⟨d0, p, ys, d0', e0, ep, eg, em, rfl⟩ := fMut_some e
    obtain ⟨dd, dn, gp, hh⟩ := modP_get em
    refine ⟨ps, p, d0, dd, R.ws, e0, ep, gp, fun v H1 v0 s1 ev a1 => ⟨?_, ps, ys, R.ws.same s1, eg, fun vs H2 fy s2 n2 nd2 r2 => ?_⟩⟩
    · obtain ⟨y, xs, rfl, rfl, _⟩ := hAppend_some hh
      obtain ⟨fd, rd⟩ := ws_path R.ws s1 e0 ev gp a1
      cases rd with
      | lst hl hr => exact .inl ⟨rfl, _, .inl (.inl hl)⟩
    · obtain ⟨d1, d1', fd, m1, m2, m3, m4, m5⟩ := commit R (s1.trans s2) hb e0 ev em (a1.same s2)
      obtain ⟨y, xs, rfl, rfl, hz, rfl, rfl⟩ := hAppend_some m2
      obtain ⟨u, rfl, ru⟩ := r2.one_inv
      cases m1 with
      | lst hl hr =>
        rename_i l us g1
        have ln := hr.length
        refine ⟨l, us, u, rfl, rfl, hl, by omega, ?_⟩
        have nl : l ∉ fy := fun z => by have := n2 l z; have := s1.keep l; obtain ⟨o, h1, h2, _⟩ := R.own (m4 l List.mem_cons_self); have := s1.keep l o h1 h2; rw [n2 l z] at this; cases this
        obtain ⟨nl2, nd3⟩ := List.nodup_cons.mp m3
        have up : ∀ a, a ≠ l → upd H2 l (.lst (us ++ [u])) a = H2 a := fun a h => upd_ne h
        have tfk : ∀ a o, H2 a = some o → tf o = true → upd H2 l (.lst (us ++ [u])) a = some o := fun a o h t => by
          rw [up a]
          · exact h
          · rintro rfl; rw [hl] at h; cases h; cases t
        obtain ⟨F', st, ow⟩ := m5 (upd H2 l (.lst (us ++ [u]))) (l :: (g1 ++ fy)) [] (fun a o h _ hn => by rw [up a (fun z => hn (z ▸ List.mem_cons_self))]; exact h)
          (fun a h => by
            by_cases z : a = l
            · subst z; rw [upd_same] at h; cases h
            · rw [up a z] at h; exact h)
          (.lst upd_same (Reps.append (hr.move tfk fun a ha => up a fun z => nl2 (z ▸ ha)) (Reps.one (ru.move tfk fun a ha => up a fun z => nl (z ▸ ha)))))
          (by
            rw [List.append_nil, List.nodup_cons, List.nodup_append]
            refine ⟨fun z => (List.mem_append.mp z).elim nl2 nl, nd3, nd2, fun a ha b hb e => ?_⟩
            subst e
            obtain ⟨o, h1, h2, _⟩ := R.own (m4 a (List.mem_cons_of_mem _ ha))
            have := s1.keep a o h1 h2
            rw [n2 a hb] at this; cases this)
          (fun a ha => by
            rw [List.append_nil] at ha
            rcases List.mem_cons.mp ha with z | z
            · exact .inl (z ▸ List.mem_cons_self)
            · rcases List.mem_append.mp z with z | z
              · exact .inl (List.mem_cons_of_mem _ z)
              · exact .inr (s1.grow a (n2 a z)))
        exact q .non _ F' [] st ow .non
end
end L2
namespace L2
open PySem PySem.Spec PyProof.Rows
section
variable {K : PySem.W.Frag} {κ : Str → Addr} {H : Hp} {l : Addr} {o0 o : HO}
theorem tf_upd (hl : H l = some o0) (ht : tf o0 = false) : ∀ a u, H a = some u → tf u = true → upd H l o a = some u := fun a u h t => by
  rw [upd_ne]
  · exact h
  · rintro rfl; rw [hl] at h; cases h; rw [ht] at t; cases t
theorem Rep.updL {v : V} {d : D} {g : List Addr} (r : Rep K κ H v d g) (hl : H l = some o0) (ht : tf o0 = false) (n : l ∉ g) : Rep K κ (upd H l o) v d g := r.move (tf_upd hl ht) fun a ha => upd_ne fun z => n (z ▸ ha)
theorem Reps.updL {v : List V} {d : List D} {g : List Addr} (r : Reps K κ H v d g) (hl : H l = some o0) (ht : tf o0 = false) (n : l ∉ g) : Reps K κ (upd H l o) v d g := r.move (tf_upd hl ht) fun a ha => upd_ne fun z => n (z ▸ ha)
theorem upd_keep {a : Addr} {u : HO} {g : List Addr} (h : H a = some u) (n : a ∉ l :: g) : upd H l o a = some u := by
  rw [upd_ne (fun z => n (by rw [z]; exact List.mem_cons_self))]; exact h
theorem upd_grow {a : Addr} (h : upd H l o a = none) : H a = none := by
  by_cases z : a = l
  · subst z; rw [upd_same] at h; cases h
  · rw [upd_ne z] at h; exact h
theorem Reps.pop : ∀ {vs : List V} {ds : List D} {g : List Addr} {d : D}, Reps K κ H vs ds g → ds[ds.length - 1]? = some d → ∃ v g1 f, vs[vs.length - 1]? = some v ∧ Rep K κ H v d f ∧ Reps K κ H vs.dropLast ds.dropLast g1 ∧ g = g1 ++ f
  | _, _, _, _, .nil, e => by simp at e
  | _, [d1], _, d, .cons (f := f) h .nil, e => by
    have e' : d1 = d := by simpa using e
    subst e'
    exact ⟨_, [], f, by simp, h, .nil, by simp⟩
  | v :: v2 :: vs, d1 :: d2 :: ds, _, d, .cons (f := f) h (.cons (f := f2) (g := g2) h2 hs), e => by
    obtain ⟨w, g1, f', k1, k2, k3, k4⟩ := Reps.pop (.cons h2 hs) (d := d) (by simpa using e)
    refine ⟨w, f ++ g1, f', by simpa using k1, k2, ?_, by rw [List.append_assoc, ← k4]⟩
    rw [List.dropLast_cons₂, List.dropLast_cons₂]
    exact .cons h k3
theorem Reps.setV : ∀ {vs : List V} {ds : List D} {g : List Addr} {n : Nat} {v' : V} {d' : D} {f' : List Addr}, Reps K κ H vs ds g → n < ds.length → Rep K κ H v' d' f' → ∃ f1 rest g', g.Perm (f1 ++ rest) ∧ Reps K κ H (vs.set n v') (ds.set n d') g' ∧ g'.Perm (f' ++ rest)
  | _, _, _, _, _, _, _, .nil, e, _ => by simp at e
  | _, _, _, 0, _, _, f', .cons (f := f) (g := g) h hs, _, r => ⟨f, g, f' ++ g, .refl _, .cons r hs, .refl _⟩
  | _, _, _, n + 1, _, _, f', .cons (f := f) (g := g) h hs, e, r => by
    obtain ⟨f1, rest, g', h1, h2, h3⟩ := Reps.setV (n := n) hs (by simpa using e) r
    refine ⟨f1, f ++ rest, f ++ g', ?_, .cons h h2, ?_⟩
    · refine (h1.append_left f).trans ?_
      rw [← List.append_assoc, ← List.append_assoc]
      exact List.perm_append_comm.append_right rest
    · refine (h3.append_left f).trans ?_
      rw [← List.append_assoc, ← List.append_assoc]
      exact List.perm_append_comm.append_right rest
end
section
variable {X : Cx} {φ : F0} {κ : Str → Addr} {K : PySem.W.Frag} {o e a b : Expr} {f fi fe : PSt → Option D} {g : PSt → Option (List D)} {pf : PSt → Option (List Ps1)} {j : Nat} {pos apos : Pos}
def hPop : List D → D → Option (D × D)
  | [], .lst true xs => (xs[xs.length - 1]?).bind fun y => some (y, .lst true xs.dropLast)
  | _, _ => none
theorem hPop_some {ys : List D} {d r d' : D} (h : hPop ys d = some (r, d')) : ∃ xs, ys = [] ∧ d = .lst true xs ∧ xs[xs.length - 1]? = some r ∧ d' = .lst true xs.dropLast := by
  unfold hPop at h
  split at h
  · obtain ⟨y, h1, h2⟩ := bind_some h
    cases h2
    exact ⟨_, rfl, rfl, h1, rfl⟩
  · cases h
theorem qe_pop (hb : φ.bor j = false) (ho : PE X o (tPath X.K κ j pf))
    (hbase : attributeBase o "pop" X.env (eval o X.env) = eval o X.env := by rfl) (hline : (apos.endLine == pos.line) = true := by rfl) : QE X κ φ (.Call (.Attribute o "pop" apos) [] [] pos) (fMut j pf fNil hPop) :=
  (pe_bm0 PySem.F.plainAttrs_list PySem.F.slot_list_pop PySem.F.type_list_pop mt_pop ho hbase hline).imp fun σ H Q ⟨ps, F, d, ps', R, e, q⟩ => by
    obtain ⟨d0, p, ys, d0', e0, ep, eg, em, rfl⟩ := fMut_some e
    cases eg
    obtain ⟨dd, dn, gp, hh⟩ := modP_get em
    refine ⟨ps, p, d0, dd, R.ws, e0, ep, gp, fun v H1 v0 s1 ev a1 => ⟨?_, ?_⟩⟩
    · obtain ⟨xs, _, rfl, _⟩ := hPop_some hh
      obtain ⟨fd, rd⟩ := ws_path R.ws s1 e0 ev gp a1
      cases rd with
      | lst hl hr => exact .inl ⟨rfl, _, .inl (.inl hl)⟩
    · obtain ⟨d1, d1', fd, m1, m2, m3, m4, m5⟩ := commit R s1 hb e0 ev em a1
      obtain ⟨xs, _, rfl, hx, rfl⟩ := hPop_some m2
      cases m1 with
      | lst hl hr =>
        rename_i l us g1
        obtain ⟨u, g2, f2, k1, k2, k3, rfl⟩ := hr.pop hx
        obtain ⟨nl, nd3⟩ := List.nodup_cons.mp m3
        have n1 : l ∉ g2 := fun z => nl (List.mem_append_left _ z)
        have n2 : l ∉ f2 := fun z => nl (List.mem_append_right _ z)
        refine ⟨l, us, u, rfl, rfl, hl, k1, ?_⟩
        obtain ⟨F', st, ow⟩ := m5 (upd H1 l (.lst us.dropLast)) (l :: g2) f2 (fun a o h _ hn => upd_keep h hn)
          (fun a h => upd_grow h)
          (.lst upd_same (k3.updL hl rfl n1)) (by rw [List.cons_append, List.nodup_cons]; exact ⟨nl, nd3⟩) (fun a ha => .inl ha)
        exact q u _ F' f2 st ow (k2.updL hl rfl n2)
def hExtend : List D → D → Option (D × D)
  | [.lst true ys], .lst true xs => if (D.imms ys = true ∧ xs.length + ys.length ≤ sizeLine) then some (.non, .lst true (xs ++ ys)) else none
  | _, _ => none
theorem hExtend_some {ys : List D} {d r d' : D} (h : hExtend ys d = some (r, d')) : ∃ zs xs, ys = [.lst true zs] ∧ d = .lst true xs ∧ D.imms zs = true ∧ xs.length + zs.length ≤ sizeLine ∧ r = .non ∧ d' = .lst true (xs ++ zs) := by
  unfold hExtend at h
  split at h
  · obtain ⟨hc, e⟩ := ite_some h
    cases e
    exact ⟨_, _, rfl, rfl, hc.1, hc.2, rfl, rfl⟩
  · cases h
theorem qe_extend (hb : φ.bor j = false) (ho : PE X o (tPath X.K κ j pf)) (ha : PA X [e] (tVA X.K κ g))
    (hbase : attributeBase o "extend" X.env (eval o X.env) = eval o X.env := by rfl)
    (hfew : ((backTo pos (starEach [e] X.env)).all (fun x => !x.1) && (backToKw pos (keywordEach [] X.env)).all (fun x => x.1.isSome)
      && decide ([e].length + ([] : List Keyword).length + (if ([] : List Keyword).isEmpty then 0 else 1) < 30)) = true := by rfl)
    (hline : (apos.endLine == pos.line) = true := by rfl) (hs : starEach [e] X.env = (false, eval e X.env) :: starEach [] X.env := by rfl) (hplain : (backTo pos (starEach [] X.env)).any (·.1) = false := by rfl) :
    QE X κ φ (.Call (.Attribute o "extend" apos) [e] [] pos) (fMut j pf g hExtend) :=
  (pe_bm PySem.F.plainAttrs_list PySem.F.slot_list_extend PySem.F.type_list_extend mt_extend ho ha hbase hfew hline hs hplain).imp fun σ H Q ⟨ps, F, d, ps', R, e, q⟩ => by
    obtain ⟨d0, p, ys, d0', e0, ep, eg, em, rfl⟩ := fMut_some e
    obtain ⟨dd, dn, gp, hh⟩ := modP_get em
    refine ⟨ps, p, d0, dd, R.ws, e0, ep, gp, fun v H1 v0 s1 ev a1 => ⟨?_, ps, ys, R.ws.same s1, eg, fun vs H2 fy s2 r2 => ?_⟩⟩
    · obtain ⟨zs, xs, rfl, rfl, _⟩ := hExtend_some hh
      obtain ⟨fd, rd⟩ := ws_path R.ws s1 e0 ev gp a1
      cases rd with
      | lst hl hr => exact .inl ⟨rfl, _, .inl (.inl hl)⟩
    · obtain ⟨d1, d1', fd, m1, m2, m3, m4, m5⟩ := commit R (s1.trans s2) hb e0 ev em (a1.same s2)
      obtain ⟨zs, xs, rfl, rfl, hi, hz, rfl, rfl⟩ := hExtend_some m2
      obtain ⟨u, rfl, ru⟩ := r2.one_inv
      cases ru with
      | lst hB hR =>
      rename_i b us2 g2
      have e2 := hR.imm hi
      subst e2
      cases m1 with
      | lst hl hr =>
        rename_i l us g1
        have l1 := hr.length; have l2 := hR.length
        obtain ⟨nl, nd3⟩ := List.nodup_cons.mp m3
        refine ⟨l, b, us, us2, rfl, rfl, hl, hB, by omega, ?_⟩
        have rr := Reps.append (hr.updL (o := .lst (us ++ us2)) hl rfl nl) (hR.updL (o := .lst (us ++ us2)) hl rfl (by simp))
        rw [List.append_nil] at rr
        obtain ⟨F', st, ow⟩ := m5 (upd H2 l (.lst (us ++ us2))) (l :: g1) [] (fun a o h _ hn => upd_keep h hn)
          (fun a h => upd_grow h)
          (.lst upd_same rr) (by rw [List.append_nil]; exact m3) (fun a ha => .inl (by rw [List.append_nil] at ha; exact ha))
        exact q .non _ F' [] st ow .non
def hClear : List D → D → Option (D × D)
  | [], .lst true _ => some (.non, .lst true [])
  | _, _ => none
def hSetIx : D → D → D → Option (Unit × D)
  | .int i, y, .lst true xs => (ixN xs.length i).bind fun n => some ((), .lst true (xs.set n y))
  | _, _, _ => none
def fSetIx (j : Nat) (pf : PSt → Option (List Ps1)) (fi fe : PSt → Option D) : PSt → Option (Fl × PSt) := fun ps => (fe ps).bind fun y => ((ps[j]?).join).bind fun d0 => (pf ps).bind fun p => (fi ps).bind fun i => (modP (hSetIx i y) d0 p).bind fun r => some (.nx, ps.set j (some r.2))
theorem hSetIx_some {i y d d' : D} {r : Unit} (h : hSetIx i y d = some (r, d')) : ∃ k xs n, i = .int k ∧ d = .lst true xs ∧ ixN xs.length k = some n ∧ d' = .lst true (xs.set n y) := by
  unfold hSetIx at h
  split at h
  · obtain ⟨n, h1, h2⟩ := bind_some h
    cases h2
    exact ⟨_, _, n, rfl, rfl, h1, rfl⟩
  · cases h
theorem qs_setix {i : Expr} (hb : φ.bor j = false) (he : PE X e (tP X.K κ fe)) (ho : PE X o (tPath X.K κ j pf)) (hi : PE X i (tV X.K κ fi)) (hs : swapsWithSole [.Subscript o i apos] e pos.line X.env = pure false := by rfl) (hw : swappedStores [.Subscript o i apos] e X.env = pure none := by rfl)
    (h1 : (assignEach [.Subscript o i apos] X.env).map (·.2) = [assign (.Subscript o i apos) X.env] := by rfl)
    (ha : ∀ v, assign (.Subscript o i apos) X.env v = (do
      let ov ← holding [v] (eval o X.env)
      let iv ← holding [v, ov] (eval i X.env)
      standAt apos
      holding [v, ov, iv] (setItem ov iv v)
      release [v, ov, iv] []) := by intro _; rfl) : QS X κ φ (.Assign [.Subscript o i apos] e pos) (fSetIx j pf fi fe) :=
  (ps_asg he (pg_sub ho hi set_list ha) hs hw h1).imp fun E σ H ⟨ps, F, fl, ps', R, e, q⟩ => by
    obtain ⟨y, e1, e2⟩ := bind_some e
    obtain ⟨d0, e3, e4⟩ := bind_some e2
    have e0 := join_some e3
    obtain ⟨p, e5, e6⟩ := bind_some e4
    obtain ⟨iv, e7, e8⟩ := bind_some e6
    obtain ⟨⟨r, d0'⟩, em, e9⟩ := bind_some e8
    cases e9
    obtain ⟨dd, dn, gp, hh⟩ := modP_get em
    refine ⟨ps, y, R.ws, e1, fun v H1 fy s1 n1 nd1 ry => ⟨ps, p, d0, dd, R.ws.same s1, e0, e5, gp, fun lv H2 v0 s2 ev a2 => ⟨ps, iv, (R.ws.same s1).same s2, e7, fun u H3 fu s3 r3 => ?_⟩⟩⟩
    have s13 := (s1.trans s2).trans s3
    obtain ⟨d1, d1', fd, m1, m2, m3, m4, m5⟩ := commit R s13 hb e0 ev em (a2.same s3)
    obtain ⟨k, xs, n, rfl, rfl, hn, rfl⟩ := hSetIx_some m2
    cases m1 with
    | lst hl hr =>
      rename_i l us g1
      have ln := hr.length
      have ry3 := (ry.same s2).same s3
      obtain ⟨nl, nd3⟩ := List.nodup_cons.mp m3
      have own0 : ∀ a ∈ l :: g1, H a ≠ none := fun a ha z => by obtain ⟨o, h, _⟩ := R.own (m4 a ha); rw [z] at h; cases h
      have nl2 : l ∉ fy := fun z => own0 l List.mem_cons_self (n1 l z)
      obtain ⟨f1, rest, g2, k1, k2, k3⟩ := hr.setV (n := n) (ixN_seq hn).2.1 ry3
      have mem2 : ∀ a ∈ g2, a ∈ fy ∨ a ∈ g1 := fun a ha => (List.mem_append.mp (k3.mem_iff.mp ha)).elim .inl fun z => .inr (k1.mem_iff.mpr (List.mem_append_right _ z))
      have n2 : l ∉ g2 := fun z => (mem2 l z).elim nl2 nl
      refine ⟨l, us, k, n, rfl, r3.is_int, hl, by rw [ln]; exact hn, ?_⟩
      obtain ⟨F', st, ow⟩ := m5 (upd H3 l (.lst (us.set n v))) (l :: g2) [] (fun a o h _ hn => upd_keep h hn)
        (fun a h => upd_grow h)
        (.lst upd_same (k2.updL hl rfl n2))
        (by
          rw [List.append_nil, List.nodup_cons]
          refine ⟨n2, k3.nodup_iff.mpr (List.nodup_append.mpr ⟨nd1, ?_, fun a ha b hb e => ?_⟩)⟩
          · exact (List.nodup_append.mp (k1.nodup_iff.mp nd3)).2.1
          · subst e
            exact own0 a (List.mem_cons_of_mem _ (k1.mem_iff.mpr (List.mem_append_right _ hb))) (n1 a ha))
        (fun a ha => by
          rw [List.append_nil] at ha
          rcases List.mem_cons.mp ha with z | z
          · exact .inl (by rw [z]; exact List.mem_cons_self)
          · exact (mem2 a z).elim (fun z => .inr (n1 a z)) fun z => .inl (List.mem_cons_of_mem _ z))
      exact q _ _ F' st
end
end L2
namespace L2
open PySem PySem.Spec PyProof.Rows
section
variable {φ : Fx} {H H1 : Hp} {σ σ1 : St} {ps ps1 : PSt} {F F1 : Nat → List Addr}
theorem Stp.set' {fv : List Addr} {i : Nat} {v : V} {d : D} (s1 : Stp φ σ H F σ1 H1 ps1 F1) (o : OwnV F H F1 fv) (R : RS φ H σ ps F) (r : Rep φ.K φ.κ H1 v d fv) (hb : φ.bor i = false ∨ fv = []) (hm : φ.M i = false) :
    ∃ F', Stp φ σ H F (σ1.set i (some v)) H1 (ps1.set i (some d)) F' ∧ ∀ k a, a ∈ F' k → a ∈ fv ∨ a ∈ F1 k := by
  refine ⟨_, ⟨s1.fr, fun j a h => ?_, s1.rs.set r hb (fun j _ => o.dis j) o.nd fun a ha => R.notB (o.nw a ha), fun j h => ?_⟩, fun k a h => ?_⟩
  · rcases mem_setF h with z | z
    · by_cases k : i < ps1.length
      · rw [if_pos k] at z; exact o.nw a z
      · rw [if_neg k] at z; exact absurd z (by simp)
    · exact s1.nw j a z
  · rw [List.getElem?_set_ne (fun z => by subst z; rw [hm] at h; cases h)]
    exact s1.msk j h
  · rcases mem_setF h with z | z
    · by_cases k : i < ps1.length
      · rw [if_pos k] at z; exact .inl z
      · rw [if_neg k] at z; exact absurd z (by simp)
    · exact .inr z
def setN : St → List Nat → List V → St
  | σ, i :: is, v :: vs => setN (σ.set i (some v)) is vs
  | σ, _, _ => σ
def setD : PSt → List Nat → List D → PSt
  | ps, i :: is, d :: ds => setD (ps.set i (some d)) is ds
  | ps, _, _ => ps
def gNames : List Nat → TGs
  | [] => gNil
  | i :: is => gCons (gName i) (gNames is)
theorem gNames_ok {Q : St → Hp → Prop} : ∀ {is : List Nat} {vs : List V} {σ : St}, vs.length = is.length → Q (setN σ is vs) H → gNames is vs σ H Q
  | [], [], σ, _, q => ⟨rfl, q⟩
  | i :: is, v :: vs, σ, h, q => ⟨v, vs, rfl, gNames_ok (is := is) (by simpa using h) q⟩
  | [], _ :: _, _, h, _ => by simp at h
  | _ :: _, [], _, h, _ => by simp at h
theorem Stp.setN (R : RS φ H σ ps F) : ∀ {is : List Nat} {vs : List V} {ds : List D} {g : List Addr} {σ1 : St} {ps1 : PSt} {F1 : Nat → List Addr}, Stp φ σ H F σ1 H1 ps1 F1 → OwnV F H F1 g → Reps φ.K φ.κ H1 vs ds g → (∀ i ∈ is, φ.bor i = false ∧ φ.M i = false) →
    ∃ F', Stp φ σ H F (L2.setN σ1 is vs) H1 (setD ps1 is ds) F' := by
  intro is
  induction is with
  | nil => intro vs ds g σ1 ps1 F1 s _ _ _; exact ⟨F1, by simpa [L2.setN, setD] using s⟩
  | cons i is ih =>
    intro vs ds g σ1 ps1 F1 s o r hi
    cases ds with
    | nil => cases r; exact ⟨F1, by simpa [L2.setN, setD] using s⟩
    | cons d ds =>
      obtain ⟨v, us, f, g', rfl, h, hs, rfl⟩ := r.split
      obtain ⟨nd1, nd2, nd3⟩ := List.nodup_append.mp o.nd
      obtain ⟨F2, s2, hF⟩ := s.set' (i := i) (fv := f) ⟨fun a ha => o.nw a (List.mem_append_left _ ha), nd1, fun k a ha hf => o.dis k a ha (List.mem_append_left _ hf)⟩ R h (.inl (hi i List.mem_cons_self).1) (hi i List.mem_cons_self).2
      refine ih s2 ⟨fun a ha => o.nw a (List.mem_append_right _ ha), nd2, fun k a ha hg => ?_⟩ hs fun k hk => hi k (List.mem_cons_of_mem _ hk)
      rcases hF k a ha with z | z
      · exact nd3 a z a hg rfl
      · exact o.dis k a z (List.mem_append_right _ hg)
end
def unpD : D → Option (List D)
  | .lst _ ds => some ds
  | .tup ds => some ds
  | _ => none
def fUnp (is : List Nat) (f : PSt → Option (D × PSt)) : PSt → Option (Fl × PSt) := fun ps => (f ps).bind fun r => (unpD r.1).bind fun ds => if ds.length = is.length then some (.nx, setD r.2 is ds) else none
section
variable {X : Cx} {κ : Str → Addr} {φ : F0} {es : List Expr} {pos p : Pos} {k : Nat} {is : List Nat} {e : Expr} {f : PSt → Option (D × PSt)}
theorem pg_seq {t : TGs} {n : Nat} (hc : X.calm = true) (h : PGs X es t)
    (hn : (assignEach es X.env).length = n := by rfl) (hst : (assignEach es X.env).findIdx? (·.1) = none := by rfl) : PG X (.Tuple es k pos) (fun v σ H Q => gLst X.K n t v σ H Q ∨ gTup X.K n t v σ H Q) := by
  intro pins s σ H v u Q I r hw
  rcases hw with hw | hw
  · exact pg_lst hc h hn hst pins s σ H v u Q I r hw
  · exact pg_tup hc h hn hst pins s σ H v u Q I r hw
theorem qs_unpack (hc : X.calm = true) (hg : PGs X es (gNames is)) (he : QE X κ φ e f) (hb : ∀ i ∈ is, φ.bor i = false ∧ φ.M i = false) (hn : (assignEach es X.env).length = is.length := by rfl) (hst : (assignEach es X.env).findIdx? (·.1) = none := by rfl)
    (hs : swapsWithSole [.Tuple es k p] e pos.line X.env = pure false := by rfl) (hw : swappedStores [.Tuple es k p] e X.env = pure none := by rfl)
    (h1 : (assignEach [.Tuple es k p] X.env).map (·.2) = [assign (.Tuple es k p) X.env] := by rfl) : QS X κ φ (.Assign [.Tuple es k p] e pos) (fUnp is f) :=
  (ps_asg he (pg_seq (n := is.length) hc hg hn hst) hs hw h1).imp fun E σ H ⟨ps, F, fl, ps', R, e, q⟩ => by
    obtain ⟨⟨d, ps1⟩, e1, e2⟩ := bind_some e
    obtain ⟨ds, e3, e4⟩ := bind_some e2
    obtain ⟨hl, e5⟩ := ite_some e4
    cases e5
    refine ⟨ps, F, d, ps1, R, e1, fun v H' F' fv s o r => ?_⟩
    cases d with
    | lst ow xs =>
      cases e3
      obtain ⟨a, vs, g, rfl, h, hs, sub⟩ := r.lst_inv
      have ln := hs.length
      obtain ⟨F2, s2⟩ := Stp.setN R s ⟨fun a ha => o.nw a (sub.subset ha), o.nd.sublist sub, fun k a ha hg => o.dis k a ha (sub.subset hg)⟩ hs hb
      exact .inl ⟨a, vs, rfl, .inl h, by omega, gNames_ok (by omega) (q _ _ F2 s2)⟩
    | tup xs =>
      cases e3
      obtain ⟨a, vs, rfl, h, hs⟩ := r.tup_inv
      have ln := hs.length
      obtain ⟨F2, s2⟩ := Stp.setN R s ⟨fun a ha => absurd ha (by simp), List.nodup_nil, fun k a ha hg => absurd hg (by simp)⟩ hs hb
      exact .inr ⟨a, vs, rfl, h, by omega, gNames_ok (by omega) (q _ _ F2 s2)⟩
    | _ => cases e3
end
def D.key : D → Option Key
  | .int i => some (.inl i)
  | .str x => some (.inr x)
  | _ => none
theorem key_rep {K : PySem.W.Frag} {κ : Str → Addr} {H : Hp} {v : V} {d : D} {fp : List Addr} {k : Key} (r : Rep K κ H v d fp) (h : d.key = some k) : v = kV k := by
  cases r <;> first | (cases h; rfl) | cases h
def getK : List Key → List D → Key → Option D
  | k :: ks, d :: ds, j => if k = j then some d else getK ks ds j
  | _, _, _ => none
def dGet : D → D → Option D
  | .dic _ ks ds, y => y.key.bind fun k => getK ks ds k
  | _, _ => none
theorem getK_val {K : PySem.W.Frag} {κ : Str → Addr} {H : Hp} : ∀ {kvs : List (Key × V)} {ks : List Key} {ds : List D} {g : List Addr} {k : Key} {d : D}, kvs.map (·.1) = ks → Reps K κ H (kvs.map (·.2)) ds g → getK ks ds k = some d → ∃ v f, valV kvs k = some v ∧ Rep K κ H v d f ∧ f.Sublist g
  | [], _, _, _, _, _, e, r, h => by subst e; cases r; cases h
  | (k0, v0) :: kvs, _, _, _, k, d, e, .cons (f := f) (g := g) h hs, q => by
    subst e
    rw [List.map_cons, getK] at q
    by_cases z : k0 = k
    · rw [if_pos z] at q
      cases q
      exact ⟨v0, f, valV_pos z, h, List.sublist_append_left _ _⟩
    · rw [if_neg z] at q
      obtain ⟨v, f', q1, q2, q3⟩ := getK_val rfl hs q
      exact ⟨v, f', by rw [valV_neg z]; exact q1, q2, q3.trans (List.sublist_append_right _ _)⟩
end L2
namespace L2
open PySem PySem.Spec PyProof.Rows
def fxE (K : PySem.W.Frag) (κ : Str → Addr) (np : Nat) (m : Nat → Bool) : Fx := ⟨K, κ, fun i => decide (i < np) && !m i, m, fun _ _ => False⟩
def f0E (np : Nat) (m : Nat → Bool) : F0 := ⟨fun i => decide (i < np) && !m i, m, fun _ _ => False⟩
def SpE (np : Nat) (K : PySem.W.Frag) (κ : Str → Addr) (m : Nat → Bool) (g : List D → Option (D × List D)) : Sp := fun vs H Q _ => vs.length = np ∧ ∃ ds r ds' F, ds.length = np ∧ RS (fxE K κ np m) H (vs.map some) (ds.map some) F ∧ g ds = some (r, ds') ∧
  ∀ v H' F' fv, Stp (fxE K κ np m) (vs.map some) H F (vs.map some) H' (ds'.map some) F' → OwnV F H F' fv → Rep K κ H' v r fv → Q v H'
def outD (m : Nat → Bool) (ps : PSt) : Nat → List D → Option (List D)
  | _, [] => some []
  | i, d :: ds => (if m i = true then (ps[i]?).join else some d).bind fun d' => (outD m ps (i + 1) ds).bind fun ds' => some (d' :: ds')
theorem outD_some {m : Nat → Bool} {ps : PSt} : ∀ {ds ds' : List D} {i : Nat}, outD m ps i ds = some ds' → ds'.length = ds.length ∧ ∀ (k : Nat) (d' : D), ds'[k]? = some d' → (m (i + k) = true → ps[i + k]? = some (some d')) ∧ (m (i + k) = false → ds[k]? = some d')
  | [], _, _, e => by cases e; exact ⟨rfl, fun k d' h => by simp at h⟩
  | d :: ds, _, i, e => by
    obtain ⟨d1, e1, e2⟩ := bind_some e
    obtain ⟨ds1, e3, e4⟩ := bind_some e2
    cases e4
    obtain ⟨l, h⟩ := outD_some e3
    refine ⟨by simp [l], fun k d' hk => ?_⟩
    cases k with
    | zero =>
      simp at hk; subst hk
      refine ⟨fun z => ?_, fun z => ?_⟩
      · rw [Nat.add_zero] at z ⊢; rw [if_pos z] at e1; exact join_some e1
      · rw [Nat.add_zero] at z; rw [if_neg (by rw [z]; simp)] at e1; simpa using e1
    | succ k =>
      obtain ⟨h1, h2⟩ := h k d' (by simpa using hk)
      have ea : i + (k + 1) = i + 1 + k := by omega
      rw [ea]
      exact ⟨h1, fun z => by simpa using h2 z⟩
def gE (np n : Nat) (m : Nat → Bool) (f : PSt → Option (Fl × PSt)) : List D → Option (D × List D) := fun ds => if ds.length = np then (f (ds.map some ++ List.replicate n none)).bind fun r => match r with
  | (.ret d, ps) => (outD m ps 0 ds).bind fun ds' => some (d, ds')
  | (.nx, ps) => (outD m ps 0 ds).bind fun ds' => some (.non, ds')
  | _ => none
  else none
theorem RS.more {φ : Fx} {H : Hp} {σ σ2 : St} {ps : PSt} {F : Nat → List Addr} {n : Nat} (R : RS φ H σ ps F) (hl : ps.length = σ.length) (h2 : n ≤ σ2.length) : RS φ H (σ ++ σ2) (ps ++ List.replicate n none) F := by
  refine ⟨fun i d h => ?_, fun i a h => ?_, R.dis, R.nd, R.nb, R.bt, by simp [hl]; omega⟩
  · by_cases hi : i < ps.length
    · rw [List.getElem?_append_left hi] at h
      rw [List.getElem?_append_left (by omega)]
      exact R.rep i d h
    · rw [List.getElem?_append_right (by omega), List.getElem?_replicate] at h
      split at h <;> cases h
  · obtain ⟨b, d, e⟩ := R.emp i a h
    have hi := (List.getElem?_eq_some_iff.mp e).1
    exact ⟨b, d, by rw [List.getElem?_append_left hi]; exact e⟩
theorem leave_io {K : PySem.W.Frag} {κ : Str → Addr} {np n : Nat} {m : Nat → Bool} {H H' : Hp} {vs : List V} {σ2 σ' : St} {ds ds' : List D} {ps' : PSt} {F F' : Nat → List Addr} {fv : List Addr} (hm : ∀ i, m i = true → i < np) (hl : vs.length = np) (hd : ds.length = np) (R : RS (fxE K κ np m) H (vs.map some) (ds.map some) F)
    (s : Stp (fxE K κ np m) (vs.map some ++ σ2) H F σ' H' ps' F') (o : OwnV F H F' fv) (e : outD m ps' 0 ds = some ds') :
    ∃ F2, Stp (fxE K κ np m) (vs.map some) H F (vs.map some) H' (ds'.map some) F2 ∧ OwnV F H F2 fv := by
  obtain ⟨l, ho⟩ := outD_some e
  have sub : ∀ i a, a ∈ (if m i = true then F' i else []) → m i = true ∧ a ∈ F' i := fun i a h => by
    by_cases z : m i = true
    · rw [if_pos z] at h; exact ⟨z, h⟩
    · rw [if_neg z] at h; exact absurd h (by simp)
  have tfk : ∀ a u, H a = some u → tf u = true → H' a = some u := fun a u h t => s.fr.keep a u h (kd_of_tf t) fun i hi => by
    obtain ⟨u', h', _, t'⟩ := R.own hi
    rw [h] at h'; cases h'; rw [t] at t'; cases t'
  have mb : ∀ i, m i = true → (fxE K κ np m).bor i = false := fun i h => by simp [fxE, h]
  refine ⟨fun i => if m i = true then F' i else [], ⟨s.fr, fun i a h => s.nw i a (sub i a h).2, ⟨fun i d h => ?_, fun i a h => ?_, fun i j a h1 h2 => s.rs.dis i j a (sub i a h1).2 (sub j a h2).2, fun i => ?_, fun i a h => s.rs.nb i a (sub i a h).2, fun _ a h => h.elim, by simp [l, hl, hd]⟩, fun _ _ => rfl⟩, ⟨o.nw, o.nd, fun i a h => o.dis i a (sub i a h).2⟩⟩
  · rw [List.getElem?_map] at h
    cases q : ds'[i]? with
    | none => rw [q] at h; cases h
    | some d1 =>
      rw [q] at h; cases h
      obtain ⟨h1, h2⟩ := ho i d q
      rw [Nat.zero_add] at h1 h2
      by_cases z : m i = true
      · obtain ⟨v, fp, k1, k2, k3, _⟩ := s.rs.rep i d (h1 z)
        refine ⟨v, fp, ?_, k2, fun _ => by rw [if_pos z]; exact k3 (mb i z), fun w => by rw [mb i z] at w; cases w⟩
        rw [← k1]
        have := s.msk i z
        rw [this, List.getElem?_append_left (by simp [hl]; exact hm i z)]
      · have zf : m i = false := by simpa using z
        have hi : (ds.map some)[i]? = some (some d) := by rw [List.getElem?_map, h2 zf]; rfl
        have hib : (fxE K κ np m).bor i = true := by
          have := (List.getElem?_eq_some_iff.mp (h2 zf)).1
          simp [fxE, zf]; omega
        obtain ⟨v, fp, k1, k2, _, k4⟩ := R.rep i d hi
        have efp : fp = [] := by
          cases fp with
          | nil => rfl
          | cons a r => exact (k4 hib a List.mem_cons_self).elim
        subst efp
        exact ⟨v, [], k1, k2.move tfk (fun a ha => absurd ha (by simp)), (fun w => by rw [hib] at w; cases w), (fun _ a ha => absurd ha (by simp))⟩
  · obtain ⟨z, h⟩ := sub i a h
    refine ⟨mb i z, ?_⟩
    have hi : i < ds'.length := by rw [l, hd]; exact hm i z
    exact ⟨ds'[i], by rw [List.getElem?_map, List.getElem?_eq_getElem hi]; rfl⟩
  · by_cases z : m i = true
    · rw [if_pos z]; exact s.rs.nd i
    · rw [if_neg z]; exact List.nodup_nil
section
variable {P : Program} {w : World} {K : PySem.W.Frag} {mg : Str → Option Value} {base : Heap} {κ : Str → Addr}
theorem fn_io {x qual : Str} {st : Stmt} {f : Addr} {fd : FuncData} {N ps : List Str} {k : Nat} {fb : PSt → Option (Fl × PSt)} {m : Nat → Bool} (F : Fun K x qual st f fd) (S : FnScope N ps (defScope st)) (hm : ∀ i, m i = true → i < ps.length)
    (hbody : ∀ (cdv : Value) (A : Around) (outer : List Env) (s : Shared) (H : Hp) (E : XK), Room k (A.deeper (envOfC qual (defScope st) s.heap.objs.size f cdv)) →
      QSs (cxOf CX0 P w K mg base N qual (defScope st) f cdv A outer s H E).nox κ (f0E ps.length m) (defBody st) fb) :
    FnOk P w K mg base CX0 (k + 1) f fd ps (SpE ps.length K κ m (gE ps.length (N.length - ps.length) m fb)) := by
  refine F.ok S (fun vs H Q E h => h.1) fun cdv A outer s H vs Q E hr ⟨hl, ds, r, ds', F0, hd, R, e, q⟩ => ⟨_, hbody cdv A outer s H E hr, ?_⟩
  have hn : ps.length ≤ N.length := by have := congrArg List.length S.pre; rw [List.length_take] at this; omega
  unfold gE at e
  obtain ⟨_, e0⟩ := ite_some e
  obtain ⟨⟨fl, ps'⟩, e1, e2⟩ := bind_some e0
  have R0 := R.more (σ2 := List.replicate (N.length - vs.length) none) (n := N.length - ps.length) (by simp [hl, hd]) (by simp [hl])
  refine ⟨_, F0, fl, ps', R0, e1, ?_⟩
  cases fl with
  | ret d' =>
    obtain ⟨ds1, e3, e4⟩ := bind_some e2
    cases e4
    exact fun v σ' H' F' fv s o rv => by
      obtain ⟨F2, s2, o2⟩ := leave_io (n := 0) hm hl hd R s o e3
      exact q v H' F2 fv s2 o2 rv
  | nx =>
    obtain ⟨ds1, e3, e4⟩ := bind_some e2
    cases e4
    exact fun σ' H' F' s => by
      obtain ⟨F2, s2, o2⟩ := leave_io (n := 0) (fv := []) hm hl hd R s ⟨fun _ h => absurd h (by simp), List.nodup_nil, fun _ _ _ h => absurd h (by simp)⟩ e3
      exact q .non H' F2 [] s2 o2 .non
  | bk => cases e2
  | ct => cases e2
end
inductive Arg where
  | io (j : Nat) | im (f : PSt → Option D)
def argsD : List Arg → PSt → Option (List D)
  | [], _ => some []
  | .io j :: as, ps => ((ps[j]?).join).bind fun d => (argsD as ps).bind fun ds => some (d :: ds)
  | .im f :: as, ps => (fImm f ps).bind fun d => (argsD as ps).bind fun ds => some (d :: ds)
def isIo : List Arg → Nat → Bool
  | .io _ :: _, 0 => true
  | _ :: as, i + 1 => isIo as i
  | _, _ => false
def slots : List Arg → List Nat
  | [] => []
  | .io j :: as => j :: slots as
  | .im _ :: as => slots as
def updA : PSt → List Arg → List D → PSt
  | ps, .io j :: as, d :: ds => updA (ps.set j (some d)) as ds
  | ps, .im _ :: as, _ :: ds => updA ps as ds
  | ps, _, _ => ps
inductive ArgsAt (K : PySem.W.Frag) (κ : Str → Addr) (H : Hp) (σ : St) (ps : PSt) : List Arg → List V → List D → Prop
  | nil : ArgsAt K κ H σ ps [] [] []
  | io {j : Nat} {as : List Arg} {v : V} {vs : List V} {d : D} {ds : List D} : σ[j]? = some (some v) → ps[j]? = some (some d) → ArgsAt K κ H σ ps as vs ds → ArgsAt K κ H σ ps (.io j :: as) (v :: vs) (d :: ds)
  | im {f : PSt → Option D} {as : List Arg} {v : V} {vs : List V} {d : D} {ds : List D} : Rep K κ H v d [] → ArgsAt K κ H σ ps as vs ds → ArgsAt K κ H σ ps (.im f :: as) (v :: vs) (d :: ds)
theorem ArgsAt.same {K : PySem.W.Frag} {κ : Str → Addr} {H H' : Hp} {σ : St} {ps : PSt} (s : SameK H H') : ∀ {as : List Arg} {vs : List V} {ds : List D}, ArgsAt K κ H σ ps as vs ds → ArgsAt K κ H' σ ps as vs ds
  | _, _, _, .nil => .nil
  | _, _, _, .io h1 h2 h => .io h1 h2 (ArgsAt.same s h)
  | _, _, _, .im r h => .im (r.same s) (ArgsAt.same s h)
theorem ArgsAt.len {K : PySem.W.Frag} {κ : Str → Addr} {H : Hp} {σ : St} {ps : PSt} : ∀ {as : List Arg} {vs : List V} {ds : List D}, ArgsAt K κ H σ ps as vs ds → vs.length = as.length ∧ ds.length = as.length
  | _, _, _, .nil => ⟨rfl, rfl⟩
  | _, _, _, .io _ _ h => by have := h.len; simp [this]
  | _, _, _, .im _ h => by have := h.len; simp [this]
theorem ArgsAt.get {K : PySem.W.Frag} {κ : Str → Addr} {H : Hp} {σ : St} {ps : PSt} : ∀ {as : List Arg} {vs : List V} {ds : List D} {i : Nat} {d : D}, ArgsAt K κ H σ ps as vs ds → ds[i]? = some d → ∃ v, vs[i]? = some v ∧ ((∃ j, as[i]? = some (.io j) ∧ isIo as i = true ∧ σ[j]? = some (some v) ∧ ps[j]? = some (some d)) ∨ (isIo as i = false ∧ Rep K κ H v d []))
  | _, _, _, _, _, .nil, e => by simp at e
  | _, _, _, 0, _, .io h1 h2 _, e => by simp at e; subst e; exact ⟨_, rfl, .inl ⟨_, rfl, rfl, h1, h2⟩⟩
  | _, _, _, 0, _, .im r _, e => by simp at e; subst e; exact ⟨_, rfl, .inr ⟨rfl, r⟩⟩
  | _, _, _, i + 1, _, .io _ _ h, e => by
    obtain ⟨v, h1, h2⟩ := ArgsAt.get (i := i) h (by simpa using e)
    exact ⟨v, by simpa using h1, by simpa [isIo] using h2⟩
  | _, _, _, i + 1, _, .im _ h, e => by
    obtain ⟨v, h1, h2⟩ := ArgsAt.get (i := i) h (by simpa using e)
    exact ⟨v, by simpa using h1, by simpa [isIo] using h2⟩
theorem isIo_lt : ∀ {as : List Arg} {i : Nat}, isIo as i = true → ∃ j, as[i]? = some (.io j)
  | .io j :: _, 0, _ => ⟨j, rfl⟩
  | .im _ :: _, 0, h => by cases h
  | .io _ :: as, i + 1, h => by obtain ⟨j, e⟩ := isIo_lt (as := as) (i := i) h; exact ⟨j, by simpa using e⟩
  | .im _ :: as, i + 1, h => by obtain ⟨j, e⟩ := isIo_lt (as := as) (i := i) h; exact ⟨j, by simpa using e⟩
  | [], _, h => by cases h
theorem isIo_of : ∀ {as : List Arg} {i j : Nat}, as[i]? = some (.io j) → isIo as i = true
  | .io _ :: _, 0, _, _ => rfl
  | .im _ :: _, 0, _, h => by simp at h
  | .io _ :: as, i + 1, j, h => isIo_of (as := as) (i := i) (j := j) (by simpa using h)
  | .im _ :: as, i + 1, j, h => isIo_of (as := as) (i := i) (j := j) (by simpa using h)
  | [], _, _, h => by simp at h
theorem mem_slots : ∀ {as : List Arg} {i j : Nat}, as[i]? = some (.io j) → j ∈ slots as
  | .io _ :: _, 0, _, h => by simp at h; subst h; exact List.mem_cons_self
  | .im _ :: _, 0, _, h => by simp at h
  | .io _ :: as, i + 1, j, h => List.mem_cons_of_mem _ (mem_slots (as := as) (i := i) (by simpa using h))
  | .im _ :: as, i + 1, j, h => mem_slots (as := as) (i := i) (by simpa using h)
  | [], _, _, h => by simp at h
theorem slots_inj : ∀ {as : List Arg} {i k j : Nat}, (slots as).Nodup → as[i]? = some (.io j) → as[k]? = some (.io j) → i = k
  | [], _, _, _, _, h, _ => by simp at h
  | a :: as, 0, 0, _, _, _, _ => rfl
  | .io j' :: as, 0, k + 1, j, nd, h1, h2 => by
    simp at h1; subst h1
    exact absurd (mem_slots (as := as) (i := k) (by simpa using h2)) (List.nodup_cons.mp nd).1
  | .im _ :: as, 0, k + 1, j, _, h1, _ => by simp at h1
  | .io j' :: as, i + 1, 0, j, nd, h1, h2 => by
    simp at h2; subst h2
    exact absurd (mem_slots (as := as) (i := i) (by simpa using h1)) (List.nodup_cons.mp nd).1
  | .im _ :: as, i + 1, 0, j, _, _, h2 => by simp at h2
  | .io j' :: as, i + 1, k + 1, j, nd, h1, h2 => by rw [slots_inj (as := as) (i := i) (k := k) (j := j) (List.nodup_cons.mp nd).2 (by simpa using h1) (by simpa using h2)]
  | .im _ :: as, i + 1, k + 1, j, nd, h1, h2 => by rw [slots_inj (as := as) (i := i) (k := k) (j := j) nd (by simpa using h1) (by simpa using h2)]
def posOf : List Arg → Nat → Option Nat
  | [], _ => none
  | .io i :: as, j => if i = j then some 0 else (posOf as j).map (· + 1)
  | .im _ :: as, j => (posOf as j).map (· + 1)
theorem posOf_some : ∀ {as : List Arg} {j i : Nat}, posOf as j = some i → as[i]? = some (.io j)
  | [], _, _, h => by cases h
  | .io k :: as, j, i, h => by
    rw [posOf] at h
    by_cases z : k = j
    · rw [if_pos z] at h; cases h; rw [z]; rfl
    · rw [if_neg z] at h
      cases q : posOf as j with
      | none => rw [q] at h; cases h
      | some n => rw [q] at h; cases h; simpa using posOf_some q
  | .im _ :: as, j, i, h => by
    rw [posOf] at h
    cases q : posOf as j with
    | none => rw [q] at h; cases h
    | some n => rw [q] at h; cases h; simpa using posOf_some q
theorem posOf_none : ∀ {as : List Arg} {j : Nat}, posOf as j = none → j ∉ slots as
  | [], _, _ => by simp [slots]
  | .io k :: as, j, h => by
    rw [posOf] at h
    by_cases z : k = j
    · rw [if_pos z] at h; cases h
    · rw [if_neg z] at h
      have h' : posOf as j = none := by
        cases q : posOf as j with
        | none => rfl
        | some n => rw [q] at h; cases h
      exact fun hm => (List.mem_cons.mp hm).elim (fun e => z e.symm) (posOf_none h')
  | .im _ :: as, j, h => by
    rw [posOf] at h
    have h' : posOf as j = none := by
      cases q : posOf as j with
      | none => rfl
      | some n => rw [q] at h; cases h
    exact fun hm => posOf_none (as := as) h' hm
theorem updA_len : ∀ {as : List Arg} {ds : List D} {ps : PSt}, (updA ps as ds).length = ps.length
  | [], _, _ => by simp [updA]
  | .io j :: as, [], _ => by simp [updA]
  | .im _ :: as, [], _ => by simp [updA]
  | .io j :: as, d :: ds, ps => by rw [updA, updA_len (as := as)]; simp
  | .im _ :: as, d :: ds, ps => by rw [updA, updA_len (as := as)]
theorem updA_other : ∀ {as : List Arg} {ds : List D} {ps : PSt} {j : Nat}, j ∉ slots as → (updA ps as ds)[j]? = ps[j]?
  | [], _, _, _, _ => by simp [updA]
  | .io _ :: _, [], _, _, _ => by simp [updA]
  | .im _ :: _, [], _, _, _ => by simp [updA]
  | .io k :: as, d :: ds, ps, j, h => by
    rw [updA, updA_other (as := as) (fun z => h (List.mem_cons_of_mem _ z)), List.getElem?_set_ne (fun z => h (by rw [← z]; exact List.mem_cons_self))]
  | .im _ :: as, d :: ds, ps, j, h => by rw [updA]; exact updA_other (as := as) h
theorem updA_at : ∀ {as : List Arg} {ds : List D} {ps : PSt} {i j : Nat} {d : D}, (slots as).Nodup → as[i]? = some (.io j) → ds[i]? = some d → j < ps.length → (updA ps as ds)[j]? = some (some d)
  | [], _, _, _, _, _, _, h, _, _ => by simp at h
  | _ :: _, [], _, _, _, _, _, _, h, _ => by simp at h
  | .io k :: as, d1 :: ds, ps, 0, j, d, nd, h1, h2, h3 => by
    simp at h1 h2; subst h1; subst h2
    rw [updA, updA_other (List.nodup_cons.mp nd).1, List.getElem?_set_self h3]
  | .im _ :: as, d1 :: ds, ps, 0, j, d, _, h1, _, _ => by simp at h1
  | .io k :: as, d1 :: ds, ps, i + 1, j, d, nd, h1, h2, h3 => by
    rw [updA]; exact updA_at (List.nodup_cons.mp nd).2 (by simpa using h1) (by simpa using h2) (by simpa using h3)
  | .im _ :: as, d1 :: ds, ps, i + 1, j, d, nd, h1, h2, h3 => by
    rw [updA]; exact updA_at (as := as) nd (by simpa using h1) (by simpa using h2) h3
def argF (as : List Arg) (F : Nat → List Addr) : Nat → List Addr := fun i => match as[i]? with
  | some (.io j) => F j
  | _ => []
theorem argF_io {as : List Arg} {F : Nat → List Addr} {i j : Nat} (e : as[i]? = some (.io j)) : argF as F i = F j := by unfold argF; rw [e]
theorem argF_mem {as : List Arg} {F : Nat → List Addr} {i : Nat} {b : Addr} (h : b ∈ argF as F i) : ∃ j, as[i]? = some (.io j) ∧ b ∈ F j := by
  unfold argF at h
  cases q : as[i]? with
  | none => rw [q] at h; exact absurd h (by simp)
  | some x =>
    cases x with
    | io j => rw [q] at h; exact ⟨j, rfl, h⟩
    | im _ => rw [q] at h; exact absurd h (by simp)
theorem argF_im {as : List Arg} {F : Nat → List Addr} {i : Nat} (e : isIo as i = false) : argF as F i = [] := by
  unfold argF
  cases q : as[i]? with
  | none => rfl
  | some x => cases x with
    | io j => rw [isIo_of q] at e; cases e
    | im _ => rfl
theorem enter_io {φ : Fx} {H : Hp} {σ : St} {ps : PSt} {F : Nat → List Addr} {as : List Arg} {vs : List V} {ds : List D} (R : RS φ H σ ps F) (nd : (slots as).Nodup) (hb : ∀ j ∈ slots as, φ.bor j = false) (a : ArgsAt φ.K φ.κ H σ ps as vs ds) :
    RS (fxE φ.K φ.κ as.length (isIo as)) H (vs.map some) (ds.map some) (argF as F) := by
  obtain ⟨lv, ld⟩ := a.len
  have memF : ∀ i b, b ∈ argF as F i → ∃ j, as[i]? = some (Arg.io j) ∧ b ∈ F j := fun i b h => argF_mem h
  refine ⟨fun i d h => ?_, fun i b h => ?_, fun i k b h1 h2 => ?_, fun i => ?_, fun i b h k z => z.elim, fun k b z => z.elim, by simp [lv, ld]⟩
  · rw [List.getElem?_map] at h
    cases q : ds[i]? with
    | none => rw [q] at h; cases h
    | some d1 =>
      rw [q] at h; cases h
      obtain ⟨v, h1, h2⟩ := a.get q
      have hi := (List.getElem?_eq_some_iff.mp q).1
      refine ⟨v, argF as F i, by rw [List.getElem?_map, h1]; rfl, ?_, fun _ => rfl, fun z => ?_⟩
      · rcases h2 with ⟨j, e1, e2, e3, e4⟩ | ⟨e1, r⟩
        · obtain ⟨v', fp, k1, k2, k3, _⟩ := R.rep j d e4
          rw [e3] at k1; cases k1
          rw [argF_io e1]
          have := k3 (hb j (mem_slots e1))
          subst this
          exact k2
        · rw [argF_im e1]; exact r
      · rcases h2 with ⟨j, e1, e2, _⟩ | ⟨e1, r⟩
        · simp [fxE, e2] at z
        · rw [argF_im e1]; intro b hb; exact absurd hb (by simp)
  · obtain ⟨j, e, hj⟩ := memF i b h
    have hi : i < ds.length := by rw [ld]; exact (List.getElem?_eq_some_iff.mp e).1
    exact ⟨by simp [fxE, isIo_of e], ds[i], by rw [List.getElem?_map, List.getElem?_eq_getElem hi]; rfl⟩
  · obtain ⟨j1, e1, m1⟩ := memF i b h1
    obtain ⟨j2, e2, m2⟩ := memF k b h2
    have := R.dis j1 j2 b m1 m2
    subst this
    exact slots_inj nd e1 e2
  · cases z : isIo as i with
    | true => obtain ⟨j, e⟩ := isIo_lt z; rw [argF_io e]; exact R.nd j
    | false => rw [argF_im z]; exact List.nodup_nil
def backF (as : List Arg) (F Fc : Nat → List Addr) : Nat → List Addr := fun j => match posOf as j with
  | some i => Fc i
  | none => F j
theorem backF_mem {as : List Arg} {F Fc : Nat → List Addr} {j : Nat} {b : Addr} (h : b ∈ backF as F Fc j) : (∃ i, posOf as j = some i ∧ b ∈ Fc i) ∨ (posOf as j = none ∧ b ∈ F j) := by
  unfold backF at h
  cases q : posOf as j with
  | none => rw [q] at h; exact .inr ⟨rfl, h⟩
  | some i => rw [q] at h; exact .inl ⟨i, rfl, h⟩
theorem backF_some {as : List Arg} {F Fc : Nat → List Addr} {j i : Nat} (e : posOf as j = some i) : backF as F Fc j = Fc i := by unfold backF; rw [e]
theorem backF_none {as : List Arg} {F Fc : Nat → List Addr} {j : Nat} (e : posOf as j = none) : backF as F Fc j = F j := by unfold backF; rw [e]
theorem back_io {φ : Fx} {H H1 H' : Hp} {σ : St} {ps : PSt} {F Fc' : Nat → List Addr} {as : List Arg} {vs : List V} {ds ds' : List D} {fv : List Addr} (R : RS φ H σ ps F) (s1 : SameK H H1) (nd : (slots as).Nodup) (hb : ∀ j ∈ slots as, φ.bor j = false) (a : ArgsAt φ.K φ.κ H1 σ ps as vs ds) (hl : ds'.length = as.length)
    (s : Stp (fxE φ.K φ.κ as.length (isIo as)) (vs.map some) H1 (argF as F) (vs.map some) H' (ds'.map some) Fc') (o : OwnV (argF as F) H1 Fc' fv) :
    ∃ F', Stp φ σ H F σ H' (updA ps as ds') F' ∧ OwnV F H F' fv := by
  have memF : ∀ i b, b ∈ argF as F i → ∃ j, as[i]? = some (Arg.io j) ∧ b ∈ F j := fun i b h => argF_mem h
  have nwA : ∀ b, ((∃ i, b ∈ argF as F i) ∨ H1 b = none) → (∃ j ∈ slots as, b ∈ F j) ∨ H b = none := fun b h => by
    rcases h with ⟨i, h⟩ | h
    · obtain ⟨j, e, m⟩ := memF i b h
      exact .inl ⟨j, mem_slots e, m⟩
    · exact .inr (s1.grow b h)
  have isDisj : ∀ b, ((∃ i, b ∈ Fc' i) ∨ b ∈ fv) → ∀ j, j ∉ slots as → b ∉ F j := fun b h j hj hm => by
    have h' : (∃ j ∈ slots as, b ∈ F j) ∨ H b = none := by
      rcases h with ⟨i, h⟩ | h
      · exact nwA b (s.nw i b h)
      · exact nwA b (o.nw b h)
    rcases h' with ⟨k, hk, hm2⟩ | z
    · exact hj (R.dis j k b hm hm2 ▸ hk)
    · obtain ⟨u, q, _⟩ := R.own hm; rw [z] at q; cases q
  have keepN : ∀ b u, H b = some u → kd u = true → (∀ j ∈ slots as, b ∉ F j) → H' b = some u := fun b u h k n => s.fr.keep b u (s1.keep b u h k) k fun i hi => by
    obtain ⟨j, e, m⟩ := memF i b hi
    exact n j (mem_slots e) m
  have tfk : ∀ b u, H b = some u → tf u = true → H' b = some u := fun b u h t => keepN b u h (kd_of_tf t) fun j _ hm => by
    obtain ⟨u', h', _, t'⟩ := R.own hm
    rw [h] at h'; cases h'; rw [t] at t'; cases t'
  have posmem : ∀ j b, b ∈ backF as F Fc' j → (∃ i, posOf as j = some i ∧ b ∈ Fc' i) ∨ (posOf as j = none ∧ b ∈ F j) := fun j b h => backF_mem h
  refine ⟨backF as F Fc', ⟨⟨fun b u h k n => keepN b u h k fun j _ => n j, fun b h => s1.grow b (s.fr.grow b h)⟩, fun j b h => ?_, ⟨fun j d h => ?_, fun j b h => ?_, fun j k b h1 h2 => ?_, fun j => ?_, fun j b h => ?_, fun kk b hB z => R.bt kk b hB (s1.grow b (s.fr.grow b z)), by rw [updA_len]; exact R.len⟩, fun _ _ => rfl⟩, ⟨fun b hb' => ?_, o.nd, fun j b h hv => ?_⟩⟩
  · rcases posmem j b h with ⟨i, e, m⟩ | ⟨e, m⟩
    · exact (nwA b (s.nw i b m)).elim (fun ⟨k, _, hk⟩ => .inl ⟨k, hk⟩) .inr
    · exact .inl ⟨j, m⟩
  · cases q : posOf as j with
    | some i =>
      have e := posOf_some q
      have hi : i < ds'.length := by rw [hl]; exact (List.getElem?_eq_some_iff.mp e).1
      have ei : ds'[i]? = some ds'[i] := List.getElem?_eq_getElem hi
      have hj : j < ps.length := by
        have := (List.getElem?_eq_some_iff.mp h).1
        rwa [updA_len] at this
      rw [updA_at nd e ei hj] at h
      cases h
      obtain ⟨v, fp, k1, k2, k3, _⟩ := s.rs.rep i ds'[i] (by rw [List.getElem?_map, ei]; rfl)
      have hbi : (fxE φ.K φ.κ as.length (isIo as)).bor i = false := by simp [fxE, isIo_of e]
      have k3 := k3 hbi
      subst k3
      have hvi : i < vs.length := by rw [a.len.1]; exact (List.getElem?_eq_some_iff.mp e).1
      have hdi : i < ds.length := by rw [a.len.2]; exact (List.getElem?_eq_some_iff.mp e).1
      obtain ⟨v', g1, g2⟩ := a.get (List.getElem?_eq_getElem hdi)
      rw [List.getElem?_map, g1] at k1
      cases k1
      rcases g2 with ⟨j', e1, _, e3, _⟩ | ⟨e1, _⟩
      · rw [e] at e1; cases e1
        exact ⟨v, Fc' i, e3, k2, (fun _ => (backF_some q).symm), (fun z => by rw [hb j (mem_slots e)] at z; cases z)⟩
      · rw [isIo_of e] at e1; cases e1
    | none =>
      have hn := posOf_none q
      rw [updA_other hn] at h
      obtain ⟨v, fp, k1, k2, k3, k4⟩ := R.rep j d h
      refine ⟨v, fp, k1, k2.move tfk fun b hb' => ?_, (fun z => by rw [backF_none q]; exact k3 z), k4⟩
      obtain ⟨u, q1, q2, _⟩ := k2.own b hb'
      rw [q1]
      refine keepN b u q1 q2 fun k hk hm => ?_
      cases z : φ.bor j with
      | true => exact R.nb k b hm j (k4 z b hb')
      | false => rw [k3 z] at hb'; exact hn (R.dis j k b hb' hm ▸ hk)
  · rcases posmem j b h with ⟨i, e, m⟩ | ⟨e, m⟩
    · have e' := posOf_some e
      refine ⟨hb j (mem_slots e'), ?_⟩
      have hi : i < ds'.length := by rw [hl]; exact (List.getElem?_eq_some_iff.mp e').1
      have hdi : i < ds.length := by rw [a.len.2]; exact (List.getElem?_eq_some_iff.mp e').1
      obtain ⟨v', g1, g2⟩ := a.get (List.getElem?_eq_getElem hdi)
      rcases g2 with ⟨j', e1, _, _, e4⟩ | ⟨e1, _⟩
      · rw [e'] at e1; cases e1
        exact ⟨_, updA_at nd e' (List.getElem?_eq_getElem hi) (List.getElem?_eq_some_iff.mp e4).1⟩
      · rw [isIo_of e'] at e1; cases e1
    · obtain ⟨b1, d, b2⟩ := R.emp j b m
      exact ⟨b1, d, by rw [updA_other (posOf_none e)]; exact b2⟩
  · rcases posmem j b h1 with ⟨i, e, m⟩ | ⟨e, m⟩
    · rcases posmem k b h2 with ⟨i', e', m'⟩ | ⟨e', m'⟩
      · have := s.rs.dis i i' b m m'
        subst this
        have q1 := posOf_some e
        have q2 := posOf_some e'
        rw [q1] at q2
        cases q2; rfl
      · exact absurd m' (isDisj b (.inl ⟨i, m⟩) k (posOf_none e'))
    · rcases posmem k b h2 with ⟨i', e', m'⟩ | ⟨e', m'⟩
      · exact absurd m (isDisj b (.inl ⟨i', m'⟩) j (posOf_none e))
      · exact R.dis j k b m m'
  · cases q : posOf as j with
    | some i => rw [backF_some q]; exact s.rs.nd i
    | none => rw [backF_none q]; exact R.nd j
  · rcases posmem j b h with ⟨i, e, m⟩ | ⟨e, m⟩
    · exact R.notB ((nwA b (s.nw i b m)).elim (fun ⟨k, _, hk⟩ => .inl ⟨k, hk⟩) .inr)
    · exact R.nb j b m
  · exact (nwA b (o.nw b hb')).elim (fun ⟨k, _, hk⟩ => .inl ⟨k, hk⟩) .inr
  · rcases posmem j b h with ⟨i, e, m⟩ | ⟨e, m⟩
    · exact o.dis i b m hv
    · exact isDisj b (.inr hv) j (posOf_none e) m
def tIO (K : PySem.W.Frag) (κ : Str → Addr) (as : List Arg) : TA := fun σ H Q => ∃ ps ds, WS K κ H σ ps ∧ argsD as ps = some ds ∧ ∀ vs H', SameK H H' → ArgsAt K κ H' σ ps as vs ds → Q vs H'
def fIO (as : List Arg) (g : List D → Option (D × List D)) : PSt → Option (D × PSt) := fun ps => (argsD as ps).bind fun ds => (g ds).bind fun r => if r.2.length = as.length then some (r.1, updA ps as r.2) else none
section
variable {X : Cx} {φ : F0} {κ : Str → Addr} {e : Expr} {es : List Expr} {as : List Arg} {f : PSt → Option D} {pos p : Pos}
theorem qio_nil : PA X [] (tIO X.K κ []) := pa_nil.imp fun σ H Q ⟨ps, ds, w, e, q⟩ => by cases e; exact q [] H (.refl H) .nil
theorem qio_io (j : Nat) {x : Str} (hr : PA X es (tIO X.K κ as)) (hN : X.N[j]? = some x := by rfl) (hv : Vis X.env.scope x := by first | exact Or.inl rfl | exact Or.inr (Or.inl rfl) | exact Or.inr (Or.inr rfl)) (hd : (x == ("__debug__" : Str)) = false := by decide)
    (hcd : (x == ("__classdict__" : Str)) = false := by decide) (hs : starEach (.Name x pos :: es) X.env = (false, eval (.Name x pos) X.env) :: starEach es X.env := by rfl) : PA X (.Name x pos :: es) (tIO X.K κ (.io j :: as)) :=
  (pa_cons (pe_var hN hv hd hcd) hr hs).imp fun σ H Q ⟨ps, ds, w, e, q⟩ => by
    obtain ⟨d, e1, e2⟩ := bind_some e
    obtain ⟨ds', e3, e4⟩ := bind_some e2
    cases e4
    have e0 := join_some e1
    obtain ⟨v, fp, h1, h2⟩ := w j d e0
    exact ⟨v, h1, ps, ds', w, e3, fun vs H1 s1 a1 => q (v :: vs) H1 s1 (.io h1 e0 a1)⟩
theorem qe_fn {x : Str} {st : Stmt} {ps : List Str} {fa : Addr} {fd : FuncData} {k np : Nat} {m : Nat → Bool} {g : List D → Option (D × List D)} (Dd : Dn X.K X.mg x st ps fa fd) (G : FnOk X.prog X.w X.K X.mg X.base CX0 k fa fd ps (SpE np X.K κ m g)) (hr : Room k X.A) (hg : Gl X x) (ha : PA X (e :: es) (tIO X.K κ as))
    (hnp : np = as.length) (hm : m = isIo as) (nd : (slots as).Nodup) (hb : ∀ j ∈ slots as, φ.bor j = false)
    (hdb : (x == ("__debug__" : Str)) = false := by decide) (he : starEach (e :: es) X.env = (false, eval e X.env) :: starEach es X.env := by rfl) (hpl : (backTo pos (starEach es X.env)).any (·.1) = false := by rfl) :
    QE X κ φ (.Call (.Name x p) (e :: es) [] pos) (fIO as g) := (pe_fn Dd G hr hg ha hdb he hpl).imp fun σ H Q ⟨ps, F, d, ps', R, e, q⟩ => by
  obtain ⟨ds, e1, e2⟩ := bind_some e
  obtain ⟨⟨r, ds'⟩, e3, e4⟩ := bind_some e2
  obtain ⟨hl, e5⟩ := ite_some e4
  cases e5
  subst hnp hm
  refine ⟨ps, ds, R.ws, e1, fun vs H1 s1 a1 => ?_⟩
  show SpE _ X.K κ _ g (vs ++ []) H1 Q E0
  rw [List.append_nil]
  refine ⟨a1.len.1, ds, r, ds', _, a1.len.2, enter_io (R.same s1) nd hb a1, e3, fun v H' F' fv s o rv => ?_⟩
  obtain ⟨F2, s2, o2⟩ := back_io R s1 nd hb a1 hl s o
  exact q v H' F2 fv s2 o2 rv
end
end L2
namespace L2
open PySem PySem.Spec PyProof.Rows
inductive AreD : List Expr → List D → Prop
  | nil : AreD [] []
  | int {i : Int} {j : Nat} {pos : Pos} {es : List Expr} {ds : List D} : AreD es ds → AreD (.Constant (.int i) j pos :: es) (.int i :: ds)
  | str {x : Str} {j : Nat} {pos : Pos} {es : List Expr} {ds : List D} : AreD es ds → AreD (.Constant (.str x) j pos :: es) (.str x :: ds)
def fKs (ds : List D) : PSt → Option (List D) := fun _ => some ds
theorem qpa_consts {X : Cx} {κ : Str → Addr} {es : List Expr} {ds : List D} (h : AreD es ds) : QPA X κ es (fKs ds) := by
  have key : ∃ vs, AreC es vs ∧ ∀ K κ H, Reps K κ H vs ds [] := by
    induction h with
    | nil => exact ⟨[], .nil, fun _ _ _ => .nil⟩
    | int _ ih => obtain ⟨vs, h1, h2⟩ := ih; exact ⟨_, .int h1, fun K κ H => .cons (f := []) (g := []) (.int _) (h2 K κ H)⟩
    | str _ ih => obtain ⟨vs, h1, h2⟩ := ih; exact ⟨_, .str h1, fun K κ H => .cons (f := []) (g := []) (.str _) (h2 K κ H)⟩
  obtain ⟨vs, h1, h2⟩ := key
  exact (pa_consts h1).imp fun σ H Q ⟨ps, ds', w, e, q⟩ => by cases e; exact q vs H [] (.refl H) (fun _ h => absurd h (by simp)) List.nodup_nil (h2 _ _ _)
def maskL (l : List Bool) : Nat → Bool := fun i => (l[i]?).getD false
def kindsA (as : List Arg) : List Bool := as.map fun a => match a with
  | .io _ => true
  | .im _ => false
theorem maskL_isIo : ∀ {as : List Arg} {l : List Bool}, kindsA as = l → maskL l = isIo as := by
  intro as l h
  subst h
  funext i
  induction as generalizing i with
  | nil => cases i <;> rfl
  | cons a as ih =>
    cases i with
    | zero => cases a <;> rfl
    | succ i =>
      have e : isIo (a :: as) (i + 1) = isIo as i := by cases a <;> rfl
      rw [e, ← ih i]
      simp [maskL, kindsA]
theorem maskL_lt {l : List Bool} {i : Nat} (h : maskL l i = true) : i < l.length := by
  unfold maskL at h
  cases q : l[i]? with
  | none => rw [q] at h; cases h
  | some b => exact (List.getElem?_eq_some_iff.mp q).1
section
variable {P : Program} {w : World} {K : PySem.W.Frag} {mg : Str → Option Value} {base : Heap} {κ : Str → Addr}
theorem FnOk.noneP {f : Addr} {fd : FuncData} {ps : List Str} {k : Nat} : FnOk P w K mg base CX0 k f fd ps (SpP ps.length K κ fun _ => none) :=
  ⟨fun vs H Q E h => h.1, fun A outer s H args us vs Q E _ _ _ _ ⟨_, ds, fp, d, _, e, _⟩ => by cases e⟩
end
end L2
namespace L2
open PySem PySem.Spec PyProof.Rows
def KDk (P : Program) (w : World) (K : PySem.W.Frag) (a : Addr) (kvs : List (Key × V)) : Prop :=
  (a == sysModules) = false ∧ ∃ (o : Obj) (es : Array DictEntry) (ep : Nat) (vs : List (Key × Value)), K.lookup a = some o ∧ o.ExactDict ∧ o.data = .dict es ep ∧ KV kvs vs ∧ KeysOf (mixKind P w) es ∧ PySem.Pairs (mixKind P w) es.toList vs ∧ (vs.map (·.1)).Nodup
def KTab (P : Program) (w : World) (K : PySem.W.Frag) (κ : Str → Addr) (a : Addr) (ks : List Key) (ds : List D) : Prop := ∃ kvs, KDk P w K a kvs ∧ kvs.map (·.1) = ks ∧ ∀ H, Reps K κ H (kvs.map (·.2)) ds []
def Itk (ks : List V) : It := ⟨fun i _ => i < ks.length, fun i H x H' => H' = H ∧ ks[i]? = some x, fun i _ => ks.length ≤ i⟩
theorem rel_key {k : Key} {u : Value} (h : keyIs k u = true) : RelV (kV k) u := by
  rcases keyIs_shape h with ⟨i, t, rfl, rfl⟩ | ⟨x, t, rfl, rfl⟩
  · exact ⟨t, rfl⟩
  · exact ⟨t, rfl⟩
theorem turn_kd {P : Program} {w : World} {K : PySem.W.Frag} {tg : Expr} {a it : Addr} {o : Obj} {es : Array DictEntry} {ep : Nat} {vs : List (Key × Value)} {kvs : List (Key × V)} (hk : K.lookup a = some o) (hx : o.ExactDict) (hd : o.data = .dict es ep) (hv : KV kvs vs)
    (h1 : KeysOf (mixKind P w) es) (h2 : PySem.Pairs (mixKind P w) es.toList vs) (h3 : (vs.map (·.1)).Nodup) : Turn P w K tg (Itk (kvs.map fun kv => kV kv.1)) [it] it (fun i h => h.IsKeyIter it a i vs.length ep) where
  mem := by simp
  obj := fun i h st b hb => by
    have e : b = it := by simpa using hb
    subst e
    obtain ⟨o, e, c, d⟩ := st
    exact ⟨o, e, fun v z => by rw [d] at z; cases z⟩
  keep := fun i h h' st k => st.at fun o e => k it (by simp) o e
  item := by
    intro X hP hw hK hc i pins s σ H E I hf st hg
    subst hP hw hK
    have dd : s.heap.DictAt (mixKind X.prog X.w) a vs ep := ⟨o, es, I.kIn a o hk, hx, hd, h1, h2, h3⟩
    have hi : i < vs.length := by
      have : i < (kvs.map fun kv => kV kv.1).length := hg
      rw [List.length_map, Paired.length hv] at this; exact this
    obtain ⟨⟨k, x⟩, hx'⟩ : ∃ p, vs[i]? = some p := ⟨vs[i], by simp [hi]⟩
    obtain ⟨⟨k', v'⟩, hx2, he, _⟩ := pair_get hv hx'
    have he' : k' = k := he
    subst he'
    obtain ⟨f0, f1, f2, f3, f4, f5⟩ := hf it (by simp)
    refine wpAny_pyNext_dict_item st dd hx' fun key h' hkey st' sb => ?_
    have I1 : Inv X pins σ H { s with heap := h' } := I.turned (t' := s.toks) (fun b o hb e => (sb.2 b hb).trans e) f0 f1 f3 f4 f5
    obtain ⟨o2, e, c, d⟩ := id st'
    exact ⟨key, rfl, go_of (s := { s with heap := h' }) e c d (by decide) ⟨kV k', H, I1, rel_key hkey, ⟨rfl, by rw [List.getElem?_map, hx2]; rfl⟩, st', fun b hb => (hf b hb).1⟩⟩
  done := by
    intro X hP hw hK hc i pins s σ H E I hf st hg
    subst hP hw hK
    have dd : s.heap.DictAt (mixKind X.prog X.w) a vs ep := ⟨o, es, I.kIn a o hk, hx, hd, h1, h2, h3⟩
    have hi : vs.length ≤ i := by
      have : (kvs.map fun kv => kV kv.1).length ≤ i := hg
      rw [List.length_map, Paired.length hv] at this; exact this
    obtain ⟨f0, f1, f2, f3, f4, f5⟩ := hf it (by simp)
    exact wpAny_pyNext_dict_end (I.ok.hd hc) st dd (List.getElem?_eq_none hi) fun h' eb => ⟨rfl, I.turned (t' := s.toks) (fun b o hb e => eb b o hb e) f0 f1 f3 f4 f5⟩
  self := fun _ _ _ _ _ st h => wpAny_pyIter_keyiter st h
def keyD : Key → D
  | .inl i => .int i
  | .inr x => .str x
theorem keyD_rep {K : PySem.W.Frag} {κ : Str → Addr} {H : Hp} (k : Key) : Rep K κ H (kV k) (keyD k) [] := by
  cases k with
  | inl i => exact .int i
  | inr x => exact .str x
section
variable {X : Cx} {κ : Str → Addr} {tg b : Expr} {fb : PSt → Option D} {pos p : Pos} {x : Str} {a : Addr} {ks : List Key} {ds : List D}
theorem qi_kd (hg : Gl X x) (hm : X.mg x = some (.ref a)) (hk : KTab X.prog X.w X.K κ a ks ds) (hdb : (x == ("__debug__" : Str)) = false := by decide) : QIP X κ tg (.Name x pos) (fKs (ks.map keyD)) := by
  obtain ⟨kvs, ⟨hsm, o, es, ep, vs, h1, h2, h3, h4, h5, h6, h7⟩, hks, hds⟩ := hk
  intro pins s σ H R I ⟨ps, l, w, e, q⟩
  cases e
  refine thn (pe_glob (v := .ref a) hg hm rfl hdb pins s σ H (fun x H1 => x = .ref a ∧ H1 = H) I ⟨rfl, rfl⟩) fun v s1 ⟨x, H1, I1, r1, e1, e2⟩ => ?_
  subst e1 e2
  cases r1
  have dd : s1.heap.DictAt (mixKind X.prog X.w) a vs ep := ⟨o, es, I1.kIn a o h1, h2, h3, h5, h6, h7⟩
  refine wpAny_pyIter_dict hsm dd ?_
  refine ⟨s1.heap.objs.size, [s1.heap.objs.size], _, _, H1, rfl, I1.kept (t' := s1.toks) fun b o e => Heap.get?_push_of_some _ e, turn_kd h1 h2 h3 h4 h5 h6 h7, ⟨_, Heap.get?_push_size _ rfl, rfl, rfl⟩, fun b hb => ?_, q _ H1 [] (.refl H1) (fun _ h => absurd h (by simp)) ?_⟩
  · have e : b = s1.heap.objs.size := by simpa using hb
    subst e
    exact I1.fpOk (Nat.le_refl _) (I1.hok.fresh (Nat.le_refl _))
  · subst hks
    refine ⟨fun H' _ i d e => ?_, fun H' _ => ?_⟩
    · rw [List.map_map, List.getElem?_map] at e
      obtain ⟨kv, hkv, e⟩ := Option.map_eq_some_iff.mp e
      refine ⟨?_, fun y H2 ⟨hy1, hy2⟩ => ⟨hy1, ?_⟩⟩
      · show i < (kvs.map fun kv => kV kv.1).length
        rw [List.length_map]
        exact (List.getElem?_eq_some_iff.mp hkv).1
      · rw [List.getElem?_map, hkv] at hy2
        cases hy2
        rw [← e]
        exact keyD_rep kv.1
    · show (kvs.map fun kv => kV kv.1).length ≤ _
      rw [List.length_map, List.length_map, List.length_map]; exact Nat.le_refl _
theorem pe_kget {kvs : List (Key × V)} {ty : TE} (hg : Gl X x) (hm : X.mg x = some (.ref a)) (hk : KDk X.prog X.w X.K a kvs) (hi : PE X b ty) (hs : NoSl b) (hdb : (x == ("__debug__" : Str)) = false := by decide) :
    PE X (.Subscript (.Name x p) b pos) (fun σ H Q => ty σ H fun y H1 => ∃ k v, y = kV k ∧ valV kvs k = some v ∧ Q v H1) := by
  obtain ⟨hsm, o, es, ep, vs, h1, h2, h3, h4, h5, h6, h7⟩ := hk
  intro pins s σ H Q I h
  refine subD_of PySem.F.slot_dict_getitem.lookup hs (thn (pe_glob (v := .ref a) hg hm rfl hdb pins s σ H (fun x H1 => x = .ref a ∧ H1 = H) I ⟨rfl, rfl⟩) fun u s1 ⟨x, H1, I1, r1, e1, e2⟩ => ?_)
  subst e1 e2
  cases r1
  refine thn (hi pins s1 σ H1 _ I1 h) fun iv s2 ⟨y, H2, I2, ry, k, v, ey, l, q2⟩ => ?_
  subst ey
  have dd : s2.heap.DictAt (mixKind X.prog X.w) a vs ep := ⟨o, es, I2.kIn a o h1, h2, h3, h5, h6, h7⟩
  obtain ⟨w', hw, rw'⟩ := RelO.some_of (v := v) (o := valueAt vs k) (by rw [← l]; exact h4.val k)
  exact ⟨dd.dictOf.typeIs, wpAny_getItem_of (kV_is ry) dd.dictOf.mapOf hw ⟨v, H2, I2.tok _, rw', q2⟩⟩
theorem qv_kget (hg : Gl X x) (hm : X.mg x = some (.ref a)) (hk : KTab X.prog X.w X.K κ a ks ds) (hb : QV X κ b fb) (hs : NoSl b := by exact fun _ _ => rfl) (hdb : (x == ("__debug__" : Str)) = false := by decide) : QV X κ (.Subscript (.Name x p) b pos) (f2 dGet (fC (.dic false ks ds)) fb) := by
  obtain ⟨kvs, hkd, hks, hds⟩ := hk
  refine (pe_kget hg hm hkd hb hs hdb).imp fun σ H Q ⟨ps, d, w, e, q⟩ => ?_
  obtain ⟨x, y, e1, e2, e3⟩ := f2_some e
  cases e1
  obtain ⟨k, e4, e5⟩ := bind_some e3
  refine ⟨ps, y, w, e2, fun u H1 fq s1 r1 => ?_⟩
  obtain ⟨v, f, q1, q2, q3⟩ := getK_val hks (hds H1) e5
  exact ⟨k, v, key_rep r1 e4, q1, q v H1 f s1 q2⟩
end
theorem vals_strsT : ∀ ys : List (Str × Tok), Vals (ys.map fun p => V.str p.1) (ys.map fun p => Value.str p.1 p.2)
  | [] => .nil
  | y :: ys => .cons ⟨y.2, rfl⟩ (vals_strsT ys)
theorem reps_strs {K : PySem.W.Frag} {κ : Str → Addr} {H : Hp} : ∀ ys : List (Str × Tok), Reps K κ H (ys.map fun p => V.str p.1) (ys.map fun p => D.str p.1) []
  | [] => .nil
  | y :: ys => .cons (f := []) (g := []) (.str _) (reps_strs ys)
theorem krep_tup {K : PySem.W.Frag} {κ : Str → Addr} {a : Addr} {ys : List (Str × Tok)} {od : Option Addr} {n : Nat} {sl : Array (Option Value)} (h : K.lookup a = some ⟨.type "tuple", od, .seq (ys.map fun p => Value.str p.1 p.2).toArray n, sl⟩) (hl : ys.length ≤ 1000) (H : Hp) :
    Rep K κ H (.ref a) (.tup (ys.map fun p => D.str p.1)) [] :=
  .tup (.inr ⟨_, _, n, h, rfl, rfl, by rw [List.size_toArray, List.length_map]; exact small hl, vals_strsT ys⟩) (reps_strs ys)
end L2
namespace L3
open PySem PySem.Spec PyProof.Rows L2
@[irreducible] def PE := @L2.PE
@[irreducible] def PT := @L2.PT
@[irreducible] def PW := @L2.PW
@[irreducible] def PA := @L2.PA
@[irreducible] def PS := @L2.PS
@[irreducible] def PSs := @L2.PSs
@[irreducible] def PI := @L2.PI
@[irreducible] def PG := @L2.PG
@[irreducible] def PGs := @L2.PGs
@[irreducible] def PTs := @L2.PTs
@[irreducible] def PO := @L2.PO
@[irreducible] def OpR := @L2.OpR
@[irreducible] def CallR := @L2.CallR
@[irreducible] def MtR := @L2.MtR
abbrev QV (X : Cx) (κ : Str → Addr) (e : Expr) (f : PSt → Option D) : Prop := PE X e (tV X.K κ f)
abbrev QP (X : Cx) (κ : Str → Addr) (e : Expr) (f : PSt → Option D) : Prop := PE X e (tP X.K κ f)
abbrev QT (X : Cx) (κ : Str → Addr) (e : Expr) (f : PSt → Option Bool) : Prop := PT X e (tQ X.K κ f)
abbrev QW (X : Cx) (κ : Str → Addr) (e : Expr) (f : PSt → Option Bool) : Prop := PW X e (tQ X.K κ f)
abbrev QVA (X : Cx) (κ : Str → Addr) (es : List Expr) (f : PSt → Option (List D)) : Prop := PA X es (tVA X.K κ f)
abbrev QPA (X : Cx) (κ : Str → Addr) (es : List Expr) (f : PSt → Option (List D)) : Prop := PA X es (tPA X.K κ f)
abbrev QO (X : Cx) (κ : Str → Addr) (e : Option Expr) (f : PSt → Option (Option Int)) : Prop := PO X e (tO X.K κ f)
abbrev QS (X : Cx) (κ : Str → Addr) (φ : F0) (st : Stmt) (f : PSt → Option (Fl × PSt)) : Prop := PS X st (tS (φ.fx X.K κ) f)
abbrev QSs (X : Cx) (κ : Str → Addr) (φ : F0) (st : List Stmt) (f : PSt → Option (Fl × PSt)) : Prop := PSs X st (tS (φ.fx X.K κ) f)
abbrev QE (X : Cx) (κ : Str → Addr) (φ : F0) (e : Expr) (f : PSt → Option (D × PSt)) : Prop := PE X e (tE (φ.fx X.K κ) f)
abbrev QTE (X : Cx) (κ : Str → Addr) (φ : F0) (e : Expr) (f : PSt → Option (Bool × PSt)) : Prop := PT X e (tTE (φ.fx X.K κ) f)
abbrev QIV (X : Cx) (κ : Str → Addr) (tg iter : Expr) (f : PSt → Option (List D)) : Prop := PI X tg iter (tIV X.K κ f)
abbrev QIP (X : Cx) (κ : Str → Addr) (tg iter : Expr) (f : PSt → Option (List D)) : Prop := PI X tg iter (tIP X.K κ f)
section
variable {X : Cx} {pos : Pos}
theorem pg_name {i : Nat} {x : Str} (hN : X.N.Nodup) (hi : X.N[i]? = some x) (hx : Loc X.env.scope x) (hf : X.fn x = true ∨ X.env.scope.names.lookup x = some .local := by first | exact .inl rfl | exact .inr rfl | assumption) : PG X (.Name x pos) (gName i) := by with_unfolding_all exact L2.pg_name hN hi hx hf
end
section
variable {X : Cx} {pos : Pos}
theorem pgs_nil : PGs X [] gNil := by with_unfolding_all exact L2.pgs_nil
end
section
variable {X : Cx} {pos : Pos}
theorem pgs_cons {e : Expr} {es : List Expr} {t : TG} {u : TGs} (h1 : PG X e t) (h2 : PGs X es u)
    (hs : (assignEach (e :: es) X.env).map (·.2) = assign e X.env :: (assignEach es X.env).map (·.2) := by rfl) : PGs X (e :: es) (gCons t u) := by with_unfolding_all exact L2.pgs_cons h1 h2 hs
end
section
variable {X : Cx} {κ : Str → Addr} {e a b : Expr} {f fa fb : PSt → Option D}
theorem QP.v (h : QP X κ e f) : QV X κ e f := by with_unfolding_all exact L2.QP.v h
end
section
variable {X : Cx} {κ : Str → Addr} {e a b : Expr} {f fa fb : PSt → Option D}
theorem QV.p (h : QV X κ e f) : QP X κ e (fImm f) := by with_unfolding_all exact L2.QV.p h
end
section
variable {X : Cx} {κ : Str → Addr} {e a b : Expr} {f fa fb : PSt → Option D}
theorem qv_name (i : Nat) {x : Str} {pos : Pos} (hN : X.N[i]? = some x := by rfl) (hv : Vis X.env.scope x := by first | exact Or.inl rfl | exact Or.inr (Or.inl rfl) | exact Or.inr (Or.inr rfl)) (hd : (x == ("__debug__" : Str)) = false := by decide)
    (hcd : (x == ("__classdict__" : Str)) = false := by decide) : QV X κ (.Name x pos) (fVar i) := by with_unfolding_all exact L2.qv_name i hN hv hd hcd
end
section
variable {X : Cx} {κ : Str → Addr} {e a b : Expr} {f fa fb : PSt → Option D}
theorem qp_int {i j pos} : QP X κ (.Constant (.int i) j pos) (fC (.int i)) := by with_unfolding_all exact L2.qp_int
end
section
variable {X : Cx} {κ : Str → Addr} {e a b : Expr} {f fa fb : PSt → Option D}
theorem qp_str {x j pos} : QP X κ (.Constant (.str x) j pos) (fC (.str x)) := by with_unfolding_all exact L2.qp_str
end
section
variable {X : Cx} {κ : Str → Addr} {e a b : Expr} {f fa fb : PSt → Option D}
theorem qp_bl {b j pos} : QP X κ (.Constant (.bool b) j pos) (fC (.bl b)) := by with_unfolding_all exact L2.qp_bl
end
section
variable {X : Cx} {κ : Str → Addr} {e a b : Expr} {f fa fb : PSt → Option D}
theorem qp_glob {x : Str} {v : V} {u : Value} {d : D} {pos : Pos} (hg : Gl X x) (hm : X.mg x = some u) (r : RelV v u) (hd : ∀ H, Rep X.K κ H v d []) (hdb : (x == ("__debug__" : Str)) = false := by decide) : QP X κ (.Name x pos) (fC d) := by with_unfolding_all exact L2.qp_glob hg hm r hd hdb
end
section
variable {X : Cx} {κ : Str → Addr} {e a b : Expr} {f fa fb : PSt → Option D}
theorem qp_ty {x : Str} {n : String} {pos : Pos} (hg : Gl X x) (hm : X.mg x = none) (hv : bootBuiltins x = some (.type n)) (hn : x ≠ "__name__" := by decide) (hd : (x == ("__debug__" : Str)) = false := by decide) : QP X κ (.Name x pos) (fC (.ty n)) := by with_unfolding_all exact L2.qp_ty hg hm hv hn hd
end
section
variable {X : Cx} {κ : Str → Addr} {e a b : Expr} {f fa fb : PSt → Option D}
theorem qp_op {op : Operator} {g : D → D → Option D} {pos : Pos} (ho : OpR X (binaryOp op) (POp X.K κ g)) (ha : QV X κ a fa) (hb : QV X κ b fb) : QP X κ (.BinOp a op b pos) (f2 g fa fb) := by with_unfolding_all exact L2.qp_op ho ha hb
end
section
variable {X : Cx} {κ : Str → Addr} {e a b : Expr} {f fa fb : PSt → Option D}
theorem qp_cmp {op : CmpOp} {g : D → D → Option D} {pos : Pos} (ho : OpR X (compareOp op) (POp X.K κ g)) (ha : QV X κ a fa) (hb : QV X κ b fb) (hm : behindInMarks op b = false) : QP X κ (.Compare a [op] [b] pos) (f2 g fa fb) := by with_unfolding_all exact L2.qp_cmp ho ha hb hm
end
section
variable {X : Cx} {κ : Str → Addr} {e a b : Expr} {f fa fb : PSt → Option D}
theorem qt_cmp {op : CmpOp} {g : D → D → Option D} {pos : Pos} (ho : OpR X (compareOp op) (POp X.K κ g)) (ha : QV X κ a fa) (hb : QV X κ b fb) (hm : behindInMarks op b = false) : QT X κ (.Compare a [op] [b] pos) (fB (f2 g fa fb)) := by with_unfolding_all exact L2.qt_cmp ho ha hb hm
end
section
variable {X : Cx} {κ : Str → Addr} {e a b : Expr} {f fa fb : PSt → Option D}
theorem qt_val (ha : QV X κ a fa) (he : ∀ whole, isTrue a X.env whole = (do let v ← whole; standAt a.pos; holding [v] (truthy v)) := by intro _; rfl) : QT X κ a (fT fa) := by with_unfolding_all exact L2.qt_val ha he
end
section
variable {X : Cx} {κ : Str → Addr} {e a b : Expr} {f fa fb : PSt → Option D}
variable {pos : Pos} {rest : List Expr} {ta tb : PSt → Option Bool}
theorem qw_and1 (ha : QT X κ a ta) : QW X κ (.BoolOp .And [a] pos) ta := by with_unfolding_all exact L2.qw_and1 ha
end
section
variable {X : Cx} {κ : Str → Addr} {e a b : Expr} {f fa fb : PSt → Option D}
variable {pos : Pos} {rest : List Expr} {ta tb : PSt → Option Bool}
theorem qw_or1 (ha : QT X κ a ta) : QW X κ (.BoolOp .Or [a] pos) ta := by with_unfolding_all exact L2.qw_or1 ha
end
section
variable {X : Cx} {κ : Str → Addr} {e a b : Expr} {f fa fb : PSt → Option D}
variable {pos : Pos} {rest : List Expr} {ta tb : PSt → Option Bool}
theorem qw_and (ha : QT X κ a ta) (hb : QW X κ (.BoolOp .And (b :: rest) pos) tb) : QW X κ (.BoolOp .And (a :: b :: rest) pos) (tAndF ta tb) := by with_unfolding_all exact L2.qw_and ha hb
end
section
variable {X : Cx} {κ : Str → Addr} {e a b : Expr} {f fa fb : PSt → Option D}
variable {pos : Pos} {rest : List Expr} {ta tb : PSt → Option Bool}
theorem qw_or (ha : QT X κ a ta) (hb : QW X κ (.BoolOp .Or (b :: rest) pos) tb) : QW X κ (.BoolOp .Or (a :: b :: rest) pos) (tOrF ta tb) := by with_unfolding_all exact L2.qw_or ha hb
end
section
variable {X : Cx} {κ : Str → Addr} {e a b : Expr} {f fa fb : PSt → Option D}
variable {pos : Pos} {rest : List Expr} {ta tb : PSt → Option Bool}
theorem qt_w (h : QW X κ a ta) : QT X κ a ta := by with_unfolding_all exact L2.qt_w h
end
section
variable {X : Cx} {κ : Str → Addr} {e a b : Expr} {f fa fb : PSt → Option D}
variable {pos : Pos} {rest : List Expr} {ta tb : PSt → Option Bool}
theorem qt_not (ha : QT X κ a ta) : QT X κ (.UnaryOp .Not a pos) (tNotF ta) := by with_unfolding_all exact L2.qt_not ha
end
section
variable {X : Cx} {κ : Str → Addr} {e a b : Expr} {f fa fb : PSt → Option D}
variable {pos : Pos} {rest : List Expr} {ta tb : PSt → Option Bool}
theorem qp_neg (ha : QV X κ a fa) : QP X κ (.UnaryOp .USub a pos) (fNeg fa) := by with_unfolding_all exact L2.qp_neg ha
end
section
variable {X : Cx} {κ : Str → Addr}
theorem o_add : OpR X (binaryOp .Add) (POp X.K κ dAdd) := by with_unfolding_all exact L2.o_add
end
section
variable {X : Cx} {κ : Str → Addr}
theorem o_mul : OpR X (binaryOp .Mult) (POp X.K κ dMul) := by with_unfolding_all exact L2.o_mul
end
section
variable {X : Cx} {κ : Str → Addr}
theorem o_mod : OpR X (binaryOp .Mod) (POp X.K κ dMod) := by with_unfolding_all exact L2.o_mod
end
section
variable {X : Cx} {κ : Str → Addr}
theorem o_div : OpR X (binaryOp .FloorDiv) (POp X.K κ dDiv) := by with_unfolding_all exact L2.o_div
end
section
variable {X : Cx} {κ : Str → Addr}
theorem o_lt (hu : X.A.units < cLine) : OpR X (compareOp .Lt) (POp X.K κ dLt) := by with_unfolding_all exact L2.o_lt hu
end
section
variable {X : Cx} {κ : Str → Addr}
theorem o_le : OpR X (compareOp .LtE) (POp X.K κ dLe) := by with_unfolding_all exact L2.o_le
end
section
variable {X : Cx} {κ : Str → Addr}
theorem o_gt : OpR X (compareOp .Gt) (POp X.K κ dGt) := by with_unfolding_all exact L2.o_gt
end
section
variable {X : Cx} {κ : Str → Addr}
theorem o_eq (hu : X.A.units + 64 < cLine) : OpR X (compareOp .Eq) (POp X.K κ dEq) := by with_unfolding_all exact L2.o_eq hu
end
section
variable {X : Cx} {κ : Str → Addr}
theorem o_ne (hu : X.A.units + 64 < cLine) : OpR X (compareOp .NotEq) (POp X.K κ dNe) := by with_unfolding_all exact L2.o_ne hu
end
section
variable {X : Cx} {κ : Str → Addr} {e a b : Expr} {es : List Expr} {f fa fb : PSt → Option D} {g : PSt → Option (List D)} {pos p2 : Pos}
theorem qva_nil : QVA X κ [] fNil := by with_unfolding_all exact L2.qva_nil
end
section
variable {X : Cx} {κ : Str → Addr} {e a b : Expr} {es : List Expr} {f fa fb : PSt → Option D} {g : PSt → Option (List D)} {pos p2 : Pos}
theorem qva_cons (ha : QV X κ e f) (hr : QVA X κ es g) (hs : starEach (e :: es) X.env = (false, eval e X.env) :: starEach es X.env := by rfl) : QVA X κ (e :: es) (fCons f g) := by with_unfolding_all exact L2.qva_cons ha hr hs
end
section
variable {X : Cx} {κ : Str → Addr} {e a b : Expr} {es : List Expr} {f fa fb : PSt → Option D} {g : PSt → Option (List D)} {pos p2 : Pos}
theorem qpa_nil : QPA X κ [] fNil := by with_unfolding_all exact L2.qpa_nil
end
section
variable {X : Cx} {κ : Str → Addr} {e a b : Expr} {es : List Expr} {f fa fb : PSt → Option D} {g : PSt → Option (List D)} {pos p2 : Pos}
theorem qpa_cons (ha : QP X κ e f) (hr : QPA X κ es g) (hs : starEach (e :: es) X.env = (false, eval e X.env) :: starEach es X.env := by rfl) : QPA X κ (e :: es) (fCons f g) := by with_unfolding_all exact L2.qpa_cons ha hr hs
end
section
variable {X : Cx} {κ : Str → Addr} {e a b : Expr} {es : List Expr} {f fa fb : PSt → Option D} {g : PSt → Option (List D)} {pos p2 : Pos}
theorem qp_tup {x1} (h : QPA X κ es g) : QP X κ (.Tuple es x1 pos) (fTup g) := by with_unfolding_all exact L2.qp_tup h
end
section
variable {X : Cx} {κ : Str → Addr} {e a b : Expr} {es : List Expr} {f fa fb : PSt → Option D} {g : PSt → Option (List D)} {pos p2 : Pos}
theorem qp_lst (h : QPA X κ es g) : QP X κ (.List es pos) (fLst g) := by with_unfolding_all exact L2.qp_lst h
end
section
variable {X : Cx} {κ : Str → Addr} {e a b : Expr} {es : List Expr} {f fa fb : PSt → Option D} {g : PSt → Option (List D)} {pos p2 : Pos}
theorem qv_ix (ha : QV X κ a fa) (hb : QV X κ b fb) (hs : PlainIx b := by exact fun _ _ => rfl) : QV X κ (.Subscript a b pos) (f2 dIx fa fb) := by with_unfolding_all exact L2.qv_ix ha hb hs
end
section
variable {X : Cx} {κ : Str → Addr} {e a b : Expr} {es : List Expr} {f fa fb : PSt → Option D} {g : PSt → Option (List D)} {pos p2 : Pos}
theorem qp_ix (ha : QP X κ a fa) (hb : QV X κ b fb) (hs : PlainIx b := by exact fun _ _ => rfl) : QP X κ (.Subscript a b pos) (f2 dIx fa fb) := by with_unfolding_all exact L2.qp_ix ha hb hs
end
section
variable {X : Cx} {κ : Str → Addr} {e a b : Expr} {es : List Expr} {f fa fb : PSt → Option D} {g : PSt → Option (List D)} {pos p2 : Pos}
theorem qo_none : QO X κ none fNoPart := by with_unfolding_all exact L2.qo_none
end
section
variable {X : Cx} {κ : Str → Addr} {e a b : Expr} {es : List Expr} {f fa fb : PSt → Option D} {g : PSt → Option (List D)} {pos p2 : Pos}
theorem qo_some (h : QV X κ e f) : QO X κ (some e) (fPart f) := by with_unfolding_all exact L2.qo_some h
end
section
variable {X : Cx} {κ : Str → Addr} {e a b : Expr} {es : List Expr} {f fa fb : PSt → Option D} {g : PSt → Option (List D)} {pos p2 : Pos}
theorem qp_slice {lo hi : Option Expr} {fl fh : PSt → Option (Option Int)} (he : QV X κ e f) (hl : QO X κ lo fl) (hh : QO X κ hi fh) : QP X κ (.Subscript e (.Slice lo hi none p2) pos) (fSl f fl fh) := by with_unfolding_all exact L2.qp_slice he hl hh
end
section
variable {X : Cx} {κ : Str → Addr} {e a b : Expr} {es : List Expr} {f fa fb : PSt → Option D} {g : PSt → Option (List D)} {pos p2 : Pos}
theorem qp_callB {x : Str} {id : String} {p : Pos} {h : List D → Option D} (hc : CallR X (.builtin id) (PCl X.K κ h)) (hg : Gl X x) (hm : X.mg x = none) (hv : bootBuiltins x = some (.builtin id)) (ha : QVA X κ (e :: es) g) (hn : x ≠ "__name__" := by decide) (hdb : (x == ("__debug__" : Str)) = false := by decide)
    (hs : starEach (e :: es) X.env = (false, eval e X.env) :: starEach es X.env := by rfl) (hpl : (backTo pos (starEach es X.env)).any (·.1) = false := by rfl) : QP X κ (.Call (.Name x p) (e :: es) [] pos) (fCall h g) := by with_unfolding_all exact L2.qp_callB hc hg hm hv ha hn hdb hs hpl
end
section
variable {X : Cx} {κ : Str → Addr} {e a b : Expr} {es : List Expr} {f fa fb : PSt → Option D} {g : PSt → Option (List D)} {pos p2 : Pos}
theorem qp_callTy {x : Str} {T : String} {p : Pos} {h : List D → Option D} (hc : CallR X (.type T) (PCl X.K κ h)) (hg : Gl X x) (hm : X.mg x = none) (hv : bootBuiltins x = some (.type T)) (ha : QVA X κ (e :: es) g) (hn : x ≠ "__name__" := by decide) (hdb : (x == ("__debug__" : Str)) = false := by decide)
    (hs : starEach (e :: es) X.env = (false, eval e X.env) :: starEach es X.env := by rfl) (hpl : (backTo pos (starEach es X.env)).any (·.1) = false := by rfl) : QP X κ (.Call (.Name x p) (e :: es) [] pos) (fCall h g) := by with_unfolding_all exact L2.qp_callTy hc hg hm hv ha hn hdb hs hpl
end
section
variable {X : Cx} {κ : Str → Addr} {e a b : Expr} {es : List Expr} {f fa fb : PSt → Option D} {g : PSt → Option (List D)} {pos p2 : Pos}
theorem c_len : CallR X (.builtin "len") (PCl X.K κ dLen) := by with_unfolding_all exact L2.c_len
end
section
variable {X : Cx} {κ : Str → Addr} {e a b : Expr} {es : List Expr} {f fa fb : PSt → Option D} {g : PSt → Option (List D)} {pos p2 : Pos}
theorem c_min2 (hc : X.calm = true) : CallR X (.builtin "min") (PCl X.K κ dMin2) := by with_unfolding_all exact L2.c_min2 hc
end
section
variable {X : Cx} {κ : Str → Addr} {e a b : Expr} {es : List Expr} {f fa fb : PSt → Option D} {g : PSt → Option (List D)} {pos p2 : Pos}
theorem c_isi : CallR X (.builtin "isinstance") (PCl X.K κ dIsi) := by with_unfolding_all exact L2.c_isi
end
section
variable {X : Cx} {κ : Str → Addr} {e a b : Expr} {es : List Expr} {f fa fb : PSt → Option D} {g : PSt → Option (List D)} {pos p2 : Pos}
theorem c_tuple : CallR X (.type "tuple") (PCl X.K κ dTuple) := by with_unfolding_all exact L2.c_tuple
end
section
variable {X : Cx} {κ : Str → Addr} {e a b : Expr} {es : List Expr} {f fa fb : PSt → Option D} {g : PSt → Option (List D)} {pos p2 : Pos}
theorem c_int : CallR X (.type "int") (PCl X.K κ dInt1) := by with_unfolding_all exact L2.c_int
end
section
variable {X : Cx} {κ : Str → Addr} {e a b : Expr} {es : List Expr} {f fa fb : PSt → Option D} {g : PSt → Option (List D)} {pos p2 : Pos}
theorem c_str : CallR X (.type "str") (PCl X.K κ dStr1) := by with_unfolding_all exact L2.c_str
end
section
variable {X : Cx} {κ : Str → Addr} {e a b : Expr} {es : List Expr} {f fa fb : PSt → Option D} {g : PSt → Option (List D)} {pos p2 : Pos}
theorem qp_ms {name : Str} {id : String} {apos : Pos} {h : D → List D → Option D} (slot : Slot "str" name id) (hty : typeOf (.builtin id) = pure (.type "method_descriptor")) (hm : MtR X id (PMt X.K κ h)) (ho : QV X κ a fa) (ha : QVA X κ (e :: es) g)
    (hbase : attributeBase a name X.env (eval a X.env) = eval a X.env := by rfl)
    (hfew : ((backTo pos (starEach (e :: es) X.env)).all (fun x => !x.1) && (backToKw pos (keywordEach [] X.env)).all (fun x => x.1.isSome)
      && decide ((e :: es).length + ([] : List Keyword).length + (if ([] : List Keyword).isEmpty then 0 else 1) < 30)) = true := by rfl)
    (hline : (apos.endLine == pos.line) = true := by rfl) (hs : starEach (e :: es) X.env = (false, eval e X.env) :: starEach es X.env := by rfl) (hplain : (backTo pos (starEach es X.env)).any (·.1) = false := by rfl) :
    QP X κ (.Call (.Attribute a name apos) (e :: es) [] pos) (fMt h fa g) := by with_unfolding_all exact L2.qp_ms slot hty hm ho ha hbase hfew hline hs hplain
end
section
variable {X : Cx} {κ : Str → Addr} {e a b : Expr} {es : List Expr} {f fa fb : PSt → Option D} {g : PSt → Option (List D)} {pos p2 : Pos}
theorem m_join : MtR X "str.join" (PMt X.K κ dJoin) := by with_unfolding_all exact L2.m_join
end
section
variable {X : Cx} {κ : Str → Addr} {φ : F0} {st : Stmt} {rest : List Stmt} {f g : PSt → Option (Fl × PSt)} {pos : Pos}
theorem qss_nil : QSs X κ φ [] fSkip := by with_unfolding_all exact L2.qss_nil
end
section
variable {X : Cx} {κ : Str → Addr} {φ : F0} {st : Stmt} {rest : List Stmt} {f g : PSt → Option (Fl × PSt)} {pos : Pos}
theorem qss_one (h : QS X κ φ st f) : QSs X κ φ [st] f := by with_unfolding_all exact L2.qss_one h
end
section
variable {X : Cx} {κ : Str → Addr} {φ : F0} {st : Stmt} {rest : List Stmt} {f g : PSt → Option (Fl × PSt)} {pos : Pos}
theorem qss_cons (h1 : QS X κ φ st f) (h2 : QSs X κ φ rest g) : QSs X κ φ (st :: rest) (fSeq f g) := by with_unfolding_all exact L2.qss_cons h1 h2
end
section
variable {X : Cx} {κ : Str → Addr} {φ : F0} {st : Stmt} {rest : List Stmt} {f g : PSt → Option (Fl × PSt)} {pos : Pos}
theorem QP.e {e : Expr} {f : PSt → Option D} (h : PE X e (tP X.K κ f)) : QE X κ φ e (fPure f) := by with_unfolding_all exact L2.QP.e h
end
section
variable {X : Cx} {κ : Str → Addr} {φ : F0} {st : Stmt} {rest : List Stmt} {f g : PSt → Option (Fl × PSt)} {pos : Pos}
theorem QT.e {e : Expr} {f : PSt → Option Bool} (h : PT X e (tQ X.K κ f)) : QTE X κ φ e (fTPure f) := by with_unfolding_all exact L2.QT.e h
end
section
variable {X : Cx} {κ : Str → Addr} {φ : F0} {st : Stmt} {rest : List Stmt} {f g : PSt → Option (Fl × PSt)} {pos : Pos}
theorem qs_set (i : Nat) {x : Str} {e : Expr} {pos' : Pos} {f : PSt → Option (D × PSt)} (hN : X.N.Nodup) (hi : X.N[i]? = some x) (hx : Loc X.env.scope x) (hb : φ.bor i = false) (hm : φ.M i = false) (he : QE X κ φ e f) (hs : swapsWith e (some (.Name x pos')) pos.line X.env = pure false := by rfl) (hf : X.fn x = true ∨ X.env.scope.names.lookup x = some .local := by first | exact .inl rfl | exact .inr rfl | assumption) :
    QS X κ φ (.Assign [.Name x pos'] e pos) (fSet i f) := by with_unfolding_all exact L2.qs_set i hN hi hx hb hm he hs hf
end
section
variable {X : Cx} {κ : Str → Addr} {φ : F0} {st : Stmt} {rest : List Stmt} {f g : PSt → Option (Fl × PSt)} {pos : Pos}
theorem qs_expr {e : Expr} {f : PSt → Option (D × PSt)} (he : QE X κ φ e f) (hs : swapsWith e none pos.line X.env = pure false := by rfl) : QS X κ φ (.Expr e pos) (fExpr f) := by with_unfolding_all exact L2.qs_expr he hs
end
section
variable {X : Cx} {κ : Str → Addr} {φ : F0} {st : Stmt} {rest : List Stmt} {f g : PSt → Option (Fl × PSt)} {pos : Pos}
theorem qs_ret {e : Expr} {f : PSt → Option (D × PSt)} (he : QE X κ φ e f) : QS X κ φ (.Return (some e) pos) (fRet f) := by with_unfolding_all exact L2.qs_ret he
end
section
variable {X : Cx} {κ : Str → Addr} {φ : F0} {st : Stmt} {rest : List Stmt} {f g : PSt → Option (Fl × PSt)} {pos : Pos}
theorem qs_retL (i : Nat) {x : Str} {p : Pos} (hb : φ.bor i = false) (hN : X.N[i]? = some x := by rfl) (hv : Vis X.env.scope x := by first | exact Or.inl rfl | exact Or.inr (Or.inl rfl) | exact Or.inr (Or.inr rfl)) (hd : (x == ("__debug__" : Str)) = false := by decide)
    (hcd : (x == ("__classdict__" : Str)) = false := by decide) : QS X κ φ (.Return (some (.Name x p)) pos) (fRetL i) := by with_unfolding_all exact L2.qs_retL i hb hN hv hd hcd
end
section
variable {X : Cx} {κ : Str → Addr} {φ : F0} {st : Stmt} {rest : List Stmt} {f g : PSt → Option (Fl × PSt)} {pos : Pos}
theorem qs_if {c : Expr} {a b : List Stmt} {tc : PSt → Option (Bool × PSt)} (hc : QTE X κ φ c tc) (ha : QSs X κ φ a f) (hb : QSs X κ φ b g) : QS X κ φ (.If c a b pos) (fIf tc f g) := by with_unfolding_all exact L2.qs_if hc ha hb
end
section
variable {X : Cx} {φ : Fx} {pos : Pos} {body : List Stmt} {f : PSt → Option (Fl × PSt)}
theorem qs_while {κ : Str → Addr} {φ : F0} (n : Nat) {c : Expr} {tc : PSt → Option (Bool × PSt)} (hp : PassesOwn (model X.prog X.w) X.A X.env X.xe) (hc : QTE X κ φ c tc) (hb : QSs X κ φ body f) : QS X κ φ (.While c body [] pos) (fWhile tc f n) := by with_unfolding_all exact L2.qs_while n hp hc hb
end
section
theorem QIP.v {X : Cx} {κ : Str → Addr} {tg iter : Expr} {f : PSt → Option (List D)} (h : QIP X κ tg iter f) : QIV X κ tg iter f := by with_unfolding_all exact L2.QIP.v h
end
section
variable {X : Cx} {κ : Str → Addr} {tg l a b : Expr} {f : PSt → Option D} {g : PSt → Option (List D)} {p pos : Pos}
theorem qi_range1 (hg : Gl X "range") (hm : X.mg "range" = none) (ha : QVA X κ [a] g) (hs : starEach [a] X.env = [(false, eval a X.env)] := by rfl) : QIP X κ tg (.Call (.Name "range" p) [a] [] pos) (fRng1 g) := by with_unfolding_all exact L2.qi_range1 hg hm ha hs
end
section
variable {X : Cx} {κ : Str → Addr} {tg l a b : Expr} {f : PSt → Option D} {g : PSt → Option (List D)} {p pos : Pos}
theorem qi_range2 (hg : Gl X "range") (hm : X.mg "range" = none) (ha : QVA X κ [a, b] g) (hs : starEach [a, b] X.env = [(false, eval a X.env), (false, eval b X.env)] := by rfl) (hs2 : starEach [b] X.env = [(false, eval b X.env)] := by rfl) : QIP X κ tg (.Call (.Name "range" p) [a, b] [] pos) (fRng2 g) := by with_unfolding_all exact L2.qi_range2 hg hm ha hs hs2
end
section
variable {X : Cx} {κ : Str → Addr} {tg l a b : Expr} {f : PSt → Option D} {g : PSt → Option (List D)} {p pos : Pos}
theorem qi_new (h : QP X κ l f) : QIP X κ tg l (fSeqI f) := by with_unfolding_all exact L2.qi_new h
end
section
variable {X : Cx} {κ : Str → Addr} {tg l a b : Expr} {f : PSt → Option D} {g : PSt → Option (List D)} {p pos : Pos}
theorem qi_see (h : QV X κ l f) : QIV X κ tg l (fSeqI f) := by with_unfolding_all exact L2.qi_see h
end
section
variable {X : Cx} {φ : Fx} {pos : Pos} {body : List Stmt} {f : PSt → Option (Fl × PSt)}
theorem qs_for {κ : Str → Addr} {φ : F0} (i : Nat) {x : Str} {px : Pos} {iter : Expr} {fi : PSt → Option (List D)} (hp : PassesOwn (model X.prog X.w) X.A X.env X.xe) (hc : X.calm = true) (hN : X.N.Nodup) (hi : X.N[i]? = some x) (hx : Loc X.env.scope x) (hb : φ.bor i = false) (hm : φ.M i = false)
    (hit : PI X (.Name x px) iter (tIP X.K κ fi)) (hbd : QSs X κ φ body f) (hs : ∀ x, foldedSetIterable iter X.env x = pure x := by intro _; rfl) (hf : X.fn x = true ∨ X.env.scope.names.lookup x = some .local := by first | exact .inl rfl | exact .inr rfl | assumption) :
    QS X κ φ (.For (.Name x px) iter body [] pos) (fFor i fi f) := by with_unfolding_all exact L2.qs_for i hp hc hN hi hx hb hm hit hbd hs hf
end
section
variable {X : Cx} {φ : Fx} {pos : Pos} {body : List Stmt} {f : PSt → Option (Fl × PSt)}
theorem qs_forB {κ : Str → Addr} {φ : F0} (i j : Nat) {x y : Str} {px py : Pos} (hp : PassesOwn (model X.prog X.w) X.A X.env X.xe) (hc : X.calm = true) (hN : X.N.Nodup) (hi : X.N[i]? = some x) (hx : Loc X.env.scope x) (hb : φ.bor i = false) (hm : φ.M i = false) (hj : φ.bor j = true)
    (hbd : QSs X κ φ body f) (hNj : X.N[j]? = some y := by rfl) (hv : Vis X.env.scope y := by first | exact Or.inl rfl | exact Or.inr (Or.inl rfl) | exact Or.inr (Or.inr rfl)) (hd : (y == ("__debug__" : Str)) = false := by decide)
    (hcd : (y == ("__classdict__" : Str)) = false := by decide) (hs : ∀ x, foldedSetIterable (.Name y py) X.env x = pure x := by intro _; rfl) (hf : X.fn x = true ∨ X.env.scope.names.lookup x = some .local := by first | exact .inl rfl | exact .inr rfl | assumption) :
    QS X κ φ (.For (.Name x px) (.Name y py) body [] pos) (fFor i (fSeqI (fVar j)) f) := by with_unfolding_all exact L2.qs_forB i j hp hc hN hi hx hb hm hj hbd hNj hv hd hcd hs hf
end
section
variable {P : Program} {w : World} {K : PySem.W.Frag} {mg : Str → Option Value} {base : Heap} {κ : Str → Addr}
theorem fn_pure {x qual : Str} {st : Stmt} {f : Addr} {fd : FuncData} {N ps : List Str} {k : Nat} {fb : PSt → Option (Fl × PSt)} (F : Fun K x qual st f fd) (S : FnScope N ps (defScope st))
    (hbody : ∀ (cdv : Value) (A : Around) (outer : List Env) (s : Shared) (H : Hp) (E : XK) (B : Nat → Addr → Prop), Room k (A.deeper (envOfC qual (defScope st) s.heap.objs.size f cdv)) →
      QSs (cxOf CX0 P w K mg base N qual (defScope st) f cdv A outer s H E).nox κ (f0P ps.length B) (defBody st) fb) :
    FnOk P w K mg base CX0 (k + 1) f fd ps (SpP ps.length K κ (gP ps.length (N.length - ps.length) fb)) := by with_unfolding_all exact L2.fn_pure F S hbody
end
section
variable {X : Cx} {κ : Str → Addr} {e : Expr} {es : List Expr} {g : PSt → Option (List D)} {pos p : Pos}
theorem qp_fn {x : Str} {st : Stmt} {ps : List Str} {f : Addr} {fd : FuncData} {k np : Nat} {h : List D → Option D} (Dd : Dn X.K X.mg x st ps f fd) (G : FnOk X.prog X.w X.K X.mg X.base CX0 k f fd ps (SpP np X.K κ h)) (hr : Room k X.A) (hg : Gl X x) (hnp : (e :: es).length = np) (ha : QVA X κ (e :: es) g)
    (hlen : ∀ ps ds, g ps = some ds → ds.length = (e :: es).length)
    (hdb : (x == ("__debug__" : Str)) = false := by decide) (he : starEach (e :: es) X.env = (false, eval e X.env) :: starEach es X.env := by rfl) (hpl : (backTo pos (starEach es X.env)).any (·.1) = false := by rfl) :
    QP X κ (.Call (.Name x p) (e :: es) [] pos) (fCall h g) := by with_unfolding_all exact L2.qp_fn Dd G hr hg hnp ha hlen hdb he hpl
end
section
variable {X : Cx} {κ : Str → Addr} {sc : Scope} {NX N : List Str} {pick : List (Option Nat)} {elt iter : Expr} {ifs : List Expr} {scope : Scope} {pos px : Pos} {x : Str} {fi : PSt → Option (List D)} {ft : PSt → Option Bool} {fe : PSt → Option D}
theorem qts_nil {X : Cx} : PTs X [] (tQ X.K κ fYes) := by with_unfolding_all exact L2.qts_nil
end
section
variable {X : Cx} {κ : Str → Addr} {sc : Scope} {NX N : List Str} {pick : List (Option Nat)} {elt iter : Expr} {ifs : List Expr} {scope : Scope} {pos px : Pos} {x : Str} {fi : PSt → Option (List D)} {ft : PSt → Option Bool} {fe : PSt → Option D}
theorem qts_one {X : Cx} {c : Expr} (h : QT X κ c ft) : PTs X [c] (tQ X.K κ ft) := by with_unfolding_all exact L2.qts_one h
end
section
variable {X : Cx} {κ : Str → Addr} {sc : Scope} {NX N : List Str} {pick : List (Option Nat)} {elt iter : Expr} {ifs : List Expr} {scope : Scope} {pos px : Pos} {x : Str} {fi : PSt → Option (List D)} {ft : PSt → Option Bool} {fe : PSt → Option D}
theorem qp_comp (S : CScope sc NX N pick scope) (hsc : X.env.scope = sc) (hNX : X.N = NX) (hc : X.calm = true) (hi : QIV X κ (.Name x px) iter fi)
    (hg : ∀ cl fp s H, PG (cxB X N scope cl fp s H) (.Name x px) (gName 0)) (ht : ∀ cl fp s H, PTs (cxB X N scope cl fp s H) ifs (tQ X.K κ ft)) (he : ∀ cl fp s H, PE (cxB X N scope cl fp s H) elt (tP X.K κ fe))
    (hs : ∀ x, foldedSetIterable iter X.env x = pure x := by intro _; rfl) : QP X κ (.ListComp elt [⟨.Name x px, iter, ifs, 0⟩] scope pos) (fComp pick fi ft fe) := by with_unfolding_all exact L2.qp_comp S hsc hNX hc hi hg ht he hs
end
section
variable {X : Cx} {φ : F0} {κ : Str → Addr} {K : PySem.W.Frag} {o e a b : Expr} {f fb fe : PSt → Option D} {g : PSt → Option (List D)} {pf : PSt → Option (List Ps1)} {j : Nat} {pos apos : Pos}
theorem qpath_name (j : Nat) {x : Str} (hN : X.N[j]? = some x := by rfl) (hv : Vis X.env.scope x := by first | exact Or.inl rfl | exact Or.inr (Or.inl rfl) | exact Or.inr (Or.inr rfl)) (hd : (x == ("__debug__" : Str)) = false := by decide)
    (hcd : (x == ("__classdict__" : Str)) = false := by decide) : PE X (.Name x pos) (tPath K κ j fPNil) := by with_unfolding_all exact L2.qpath_name j hN hv hd hcd
end
section
variable {X : Cx} {φ : F0} {κ : Str → Addr} {K : PySem.W.Frag} {o e a b : Expr} {f fb fe : PSt → Option D} {g : PSt → Option (List D)} {pf : PSt → Option (List Ps1)} {j : Nat} {pos apos : Pos}
theorem qpath_ix (ha : PE X a (tPath X.K κ j pf)) (hb : QV X κ b fb) (hs : PlainIx b := by exact fun _ _ => rfl) : PE X (.Subscript a b pos) (tPath X.K κ j (fPIx j pf fb)) := by with_unfolding_all exact L2.qpath_ix ha hb hs
end
section
variable {X : Cx} {φ : F0} {κ : Str → Addr} {K : PySem.W.Frag} {o e a b : Expr} {f fb fe : PSt → Option D} {g : PSt → Option (List D)} {pf : PSt → Option (List Ps1)} {j : Nat} {pos apos : Pos}
theorem qe_append (hb : φ.bor j = false) (ho : PE X o (tPath X.K κ j pf)) (ha : PA X [e] (tPA X.K κ g))
    (hbase : attributeBase o "append" X.env (eval o X.env) = eval o X.env := by rfl)
    (hfew : ((backTo pos (starEach [e] X.env)).all (fun x => !x.1) && (backToKw pos (keywordEach [] X.env)).all (fun x => x.1.isSome)
      && decide ([e].length + ([] : List Keyword).length + (if ([] : List Keyword).isEmpty then 0 else 1) < 30)) = true := by rfl)
    (hline : (apos.endLine == pos.line) = true := by rfl) (hs : starEach [e] X.env = (false, eval e X.env) :: starEach [] X.env := by rfl) (hplain : (backTo pos (starEach [] X.env)).any (·.1) = false := by rfl) :
    QE X κ φ (.Call (.Attribute o "append" apos) [e] [] pos) (fMut j pf g hAppend) := by with_unfolding_all exact L2.qe_append hb ho ha hbase hfew hline hs hplain
end
section
variable {X : Cx} {φ : F0} {κ : Str → Addr} {K : PySem.W.Frag} {o e a b : Expr} {f fi fe : PSt → Option D} {g : PSt → Option (List D)} {pf : PSt → Option (List Ps1)} {j : Nat} {pos apos : Pos}
theorem qe_pop (hb : φ.bor j = false) (ho : PE X o (tPath X.K κ j pf))
    (hbase : attributeBase o "pop" X.env (eval o X.env) = eval o X.env := by rfl) (hline : (apos.endLine == pos.line) = true := by rfl) : QE X κ φ (.Call (.Attribute o "pop" apos) [] [] pos) (fMut j pf fNil hPop) := by with_unfolding_all exact L2.qe_pop hb ho hbase hline
end
section
variable {X : Cx} {φ : F0} {κ : Str → Addr} {K : PySem.W.Frag} {o e a b : Expr} {f fi fe : PSt → Option D} {g : PSt → Option (List D)} {pf : PSt → Option (List Ps1)} {j : Nat} {pos apos : Pos}
theorem qe_extend (hb : φ.bor j = false) (ho : PE X o (tPath X.K κ j pf)) (ha : PA X [e] (tVA X.K κ g))
    (hbase : attributeBase o "extend" X.env (eval o X.env) = eval o X.env := by rfl)
    (hfew : ((backTo pos (starEach [e] X.env)).all (fun x => !x.1) && (backToKw pos (keywordEach [] X.env)).all (fun x => x.1.isSome)
      && decide ([e].length + ([] : List Keyword).length + (if ([] : List Keyword).isEmpty then 0 else 1) < 30)) = true := by rfl)
    (hline : (apos.endLine == pos.line) = true := by rfl) (hs : starEach [e] X.env = (false, eval e X.env) :: starEach [] X.env := by rfl) (hplain : (backTo pos (starEach [] X.env)).any (·.1) = false := by rfl) :
    QE X κ φ (.Call (.Attribute o "extend" apos) [e] [] pos) (fMut j pf g hExtend) := by with_unfolding_all exact L2.qe_extend hb ho ha hbase hfew hline hs hplain
end
section
variable {X : Cx} {φ : F0} {κ : Str → Addr} {K : PySem.W.Frag} {o e a b : Expr} {f fi fe : PSt → Option D} {g : PSt → Option (List D)} {pf : PSt → Option (List Ps1)} {j : Nat} {pos apos : Pos}
theorem qs_setix {i : Expr} (hb : φ.bor j = false) (he : PE X e (tP X.K κ fe)) (ho : PE X o (tPath X.K κ j pf)) (hi : PE X i (tV X.K κ fi)) (hs : swapsWithSole [.Subscript o i apos] e pos.line X.env = pure false := by rfl) (hw : swappedStores [.Subscript o i apos] e X.env = pure none := by rfl)
    (h1 : (assignEach [.Subscript o i apos] X.env).map (·.2) = [assign (.Subscript o i apos) X.env] := by rfl)
    (ha : ∀ v, assign (.Subscript o i apos) X.env v = (do
      let ov ← holding [v] (eval o X.env)
      let iv ← holding [v, ov] (eval i X.env)
      standAt apos
      holding [v, ov, iv] (setItem ov iv v)
      release [v, ov, iv] []) := by intro _; rfl) : QS X κ φ (.Assign [.Subscript o i apos] e pos) (fSetIx j pf fi fe) := by with_unfolding_all exact L2.qs_setix hb he ho hi hs hw h1 ha
end
section
variable {X : Cx} {κ : Str → Addr} {φ : F0} {es : List Expr} {pos p : Pos} {k : Nat} {is : List Nat} {e : Expr} {f : PSt → Option (D × PSt)}
theorem qs_unpack (hc : X.calm = true) (hg : PGs X es (gNames is)) (he : QE X κ φ e f) (hb : ∀ i ∈ is, φ.bor i = false ∧ φ.M i = false) (hn : (assignEach es X.env).length = is.length := by rfl) (hst : (assignEach es X.env).findIdx? (·.1) = none := by rfl)
    (hs : swapsWithSole [.Tuple es k p] e pos.line X.env = pure false := by rfl) (hw : swappedStores [.Tuple es k p] e X.env = pure none := by rfl)
    (h1 : (assignEach [.Tuple es k p] X.env).map (·.2) = [assign (.Tuple es k p) X.env] := by rfl) : QS X κ φ (.Assign [.Tuple es k p] e pos) (fUnp is f) := by with_unfolding_all exact L2.qs_unpack hc hg he hb hn hst hs hw h1
end
section
variable {P : Program} {w : World} {K : PySem.W.Frag} {mg : Str → Option Value} {base : Heap} {κ : Str → Addr}
theorem fn_io {x qual : Str} {st : Stmt} {f : Addr} {fd : FuncData} {N ps : List Str} {k : Nat} {fb : PSt → Option (Fl × PSt)} {m : Nat → Bool} (F : Fun K x qual st f fd) (S : FnScope N ps (defScope st)) (hm : ∀ i, m i = true → i < ps.length)
    (hbody : ∀ (cdv : Value) (A : Around) (outer : List Env) (s : Shared) (H : Hp) (E : XK), Room k (A.deeper (envOfC qual (defScope st) s.heap.objs.size f cdv)) →
      QSs (cxOf CX0 P w K mg base N qual (defScope st) f cdv A outer s H E).nox κ (f0E ps.length m) (defBody st) fb) :
    FnOk P w K mg base CX0 (k + 1) f fd ps (SpE ps.length K κ m (gE ps.length (N.length - ps.length) m fb)) := by with_unfolding_all exact L2.fn_io F S hm hbody
end
section
variable {X : Cx} {φ : F0} {κ : Str → Addr} {e : Expr} {es : List Expr} {as : List L2.Arg} {f : PSt → Option D} {pos p : Pos}
theorem qio_nil : PA X [] (tIO X.K κ []) := by with_unfolding_all exact L2.qio_nil
end
section
variable {X : Cx} {φ : F0} {κ : Str → Addr} {e : Expr} {es : List Expr} {as : List L2.Arg} {f : PSt → Option D} {pos p : Pos}
theorem qio_io (j : Nat) {x : Str} (hr : PA X es (tIO X.K κ as)) (hN : X.N[j]? = some x := by rfl) (hv : Vis X.env.scope x := by first | exact Or.inl rfl | exact Or.inr (Or.inl rfl) | exact Or.inr (Or.inr rfl)) (hd : (x == ("__debug__" : Str)) = false := by decide)
    (hcd : (x == ("__classdict__" : Str)) = false := by decide) (hs : starEach (.Name x pos :: es) X.env = (false, eval (.Name x pos) X.env) :: starEach es X.env := by rfl) : PA X (.Name x pos :: es) (tIO X.K κ (.io j :: as)) := by with_unfolding_all exact L2.qio_io j hr hN hv hd hcd hs
end
section
variable {X : Cx} {φ : F0} {κ : Str → Addr} {e : Expr} {es : List Expr} {as : List L2.Arg} {f : PSt → Option D} {pos p : Pos}
theorem qe_fn {x : Str} {st : Stmt} {ps : List Str} {fa : Addr} {fd : FuncData} {k np : Nat} {m : Nat → Bool} {g : List D → Option (D × List D)} (Dd : Dn X.K X.mg x st ps fa fd) (G : FnOk X.prog X.w X.K X.mg X.base CX0 k fa fd ps (SpE np X.K κ m g)) (hr : Room k X.A) (hg : Gl X x) (ha : PA X (e :: es) (tIO X.K κ as))
    (hnp : np = as.length) (hm : m = isIo as) (nd : (slots as).Nodup) (hb : ∀ j ∈ slots as, φ.bor j = false)
    (hdb : (x == ("__debug__" : Str)) = false := by decide) (he : starEach (e :: es) X.env = (false, eval e X.env) :: starEach es X.env := by rfl) (hpl : (backTo pos (starEach es X.env)).any (·.1) = false := by rfl) :
    QE X κ φ (.Call (.Name x p) (e :: es) [] pos) (fIO as g) := by with_unfolding_all exact L2.qe_fn Dd G hr hg ha hnp hm nd hb hdb he hpl
end
section
theorem qpa_consts {X : Cx} {κ : Str → Addr} {es : List Expr} {ds : List D} (h : AreD es ds) : QPA X κ es (fKs ds) := by with_unfolding_all exact L2.qpa_consts h
end
section
variable {X : Cx} {κ : Str → Addr} {tg b : Expr} {fb : PSt → Option D} {pos p : Pos} {x : Str} {a : Addr} {ks : List Key} {ds : List D}
theorem qi_kd (hg : Gl X x) (hm : X.mg x = some (.ref a)) (hk : KTab X.prog X.w X.K κ a ks ds) (hdb : (x == ("__debug__" : Str)) = false := by decide) : QIP X κ tg (.Name x pos) (fKs (ks.map keyD)) := by with_unfolding_all exact L2.qi_kd hg hm hk hdb
end
section
variable {X : Cx} {κ : Str → Addr} {tg b : Expr} {fb : PSt → Option D} {pos p : Pos} {x : Str} {a : Addr} {ks : List Key} {ds : List D}
theorem qv_kget (hg : Gl X x) (hm : X.mg x = some (.ref a)) (hk : KTab X.prog X.w X.K κ a ks ds) (hb : QV X κ b fb) (hs : NoSl b := by exact fun _ _ => rfl) (hdb : (x == ("__debug__" : Str)) = false := by decide) : QV X κ (.Subscript (.Name x p) b pos) (f2 dGet (fC (.dic false ks ds)) fb) := by with_unfolding_all exact L2.qv_kget hg hm hk hb hs hdb
end
end L3
namespace L3
open PySem PySem.Spec PyProof.Rows L2
def top (i : Nat) : Stmt := PySem.Challenge.pw_linepress_k15_written.main.body.getD i (.Pass ⟨0, 0, 0, 0⟩)
end L3
namespace My
open PySem PySem.Spec PyProof.Rows L2 L3
variable {P : Program} {w : World} {K : PySem.W.Frag} {mg : Str → Option Value} {base : Heap} {κ : Str → Addr}
inductive Leaf where
  | word (x : Str) | gap (x : Str) | stop (c : Int) | fin
inductive Tk where
  | leaf (l : Leaf) | opn | cls | hng (n : Int) | bck | eit | orr | don
inductive Pc where
  | leaf (l : Leaf) | group (r : List Pc) | hang (n : Int) (r : List Pc) | either (rs : List (List Pc))
mutual
def toksP : Pc → List Tk
  | .leaf l => [.leaf l]
  | .group r => .opn :: (toksR r ++ [.cls])
  | .hang n r => .hng n :: (toksR r ++ [.bck])
  | .either rs => .eit :: (toksRows rs ++ [.don])
def toksR : List Pc → List Tk
  | [] => []
  | p :: r => toksP p ++ toksR r
def toksRows : List (List Pc) → List Tk
  | [] => []
  | r :: rs => toksR r ++ toksMore rs
def toksMore : List (List Pc) → List Tk
  | [] => []
  | r :: rs => .orr :: (toksR r ++ toksMore rs)
end
theorem toksR_append : ∀ r s : List Pc, toksR (r ++ s) = toksR r ++ toksR s
  | [], s => rfl
  | p :: r, s => by
    show toksP p ++ toksR (r ++ s) = (toksP p ++ toksR r) ++ toksR s
    rw [toksR_append r s, List.append_assoc]
theorem toksR_one (p : Pc) : toksR [p] = toksP p := by
  show toksP p ++ [] = toksP p
  rw [List.append_nil]
def fullT : List (List Pc) → List Tk
  | [] => []
  | r :: rs => toksR r ++ .orr :: fullT rs
structure Fm where
  op : Option Tk
  full : List (List Pc)
  parts : List Pc
def opT : Option Tk → List Tk
  | none => []
  | some t => [t]
def flat : List Fm → List Tk
  | [] => []
  | f :: fs => flat fs ++ (opT f.op ++ (fullT f.full ++ toksR f.parts))
def put (f : Fm) (p : Pc) : Fm := { f with parts := f.parts ++ [p] }
def step : List Fm → Tk → Option (List Fm)
  | f :: fs, .leaf l => some (put f (.leaf l) :: fs)
  | fs, .opn => some (⟨some .opn, [], []⟩ :: fs)
  | fs, .hng n => some (⟨some (.hng n), [], []⟩ :: fs)
  | fs, .eit => some (⟨some .eit, [], []⟩ :: fs)
  | ⟨some .eit, full, parts⟩ :: fs, .orr => some (⟨some .eit, full ++ [parts], []⟩ :: fs)
  | ⟨some .opn, _, parts⟩ :: g :: fs, .cls => some (put g (.group parts) :: fs)
  | ⟨some (.hng n), _, parts⟩ :: g :: fs, .bck => some (put g (.hang n parts) :: fs)
  | ⟨some .eit, full, parts⟩ :: g :: fs, .don => if full = [] then none else some (put g (.either (full ++ [parts])) :: fs)
  | _, _ => none
def Fm.ok (f : Fm) : Prop := f.op ≠ some .eit → f.full = []
def run (fs : List Fm) : List Tk → Option (List Fm)
  | [] => some fs
  | t :: ts => (step fs t).bind fun fs' => run fs' ts
mutual
def depP : Pc → Nat
  | .leaf _ => 0
  | .group r => depR r + 1
  | .hang _ r => depR r + 1
  | .either rs => depRs rs + 1
def depR : List Pc → Nat
  | [] => 0
  | p :: r => max (depP p) (depR r)
def depRs : List (List Pc) → Nat
  | [] => 0
  | r :: rs => max (depR r) (depRs rs)
end
theorem depR_snoc : ∀ (r : List Pc) (p : Pc), depR (r ++ [p]) = max (depR r) (depP p)
  | [], p => by
    show max (depP p) 0 = max 0 (depP p)
    omega
  | q :: r, p => by
    show max (depP q) (depR (r ++ [p])) = max (max (depP q) (depR r)) (depP p)
    rw [depR_snoc r p]; omega
theorem depRs_snoc : ∀ (rs : List (List Pc)) (r : List Pc), depRs (rs ++ [r]) = max (depRs rs) (depR r)
  | [], r => by
    show max (depR r) 0 = max 0 (depR r)
    omega
  | q :: rs, r => by
    show max (depR q) (depRs (rs ++ [r])) = max (max (depR q) (depRs rs)) (depR r)
    rw [depRs_snoc rs r]; omega
theorem depR_mem : ∀ {r : List Pc} {p : Pc}, p ∈ r → depP p ≤ depR r
  | q :: r, p, h => by
    show depP p ≤ max (depP q) (depR r)
    rcases List.mem_cons.mp h with rfl | h
    · omega
    · have := depR_mem h
      omega
theorem depRs_mem : ∀ {rs : List (List Pc)} {r : List Pc}, r ∈ rs → depR r ≤ depRs rs
  | q :: rs, r, h => by
    show depR r ≤ max (depR q) (depRs rs)
    rcases List.mem_cons.mp h with rfl | h
    · omega
    · have := depRs_mem h
      omega
def goodC (c : Nat) : Bool := decide (33 ≤ c) && decide (c ≤ 126)
def WordOk (z : Str) : Prop := 1 ≤ z.length ∧ z.length ≤ 12 ∧ z.cps.toList.all goodC = true
def LeafOk : Leaf → Prop
  | .word x => WordOk x
  | .gap x => x = "" ∨ x = " "
  | .stop c => 0 ≤ c ∧ c ≤ 40
  | .fin => True
def TkOk : Tk → Prop
  | .leaf l => LeafOk l
  | .hng n => 0 ≤ n ∧ n ≤ 12
  | _ => True
end My
namespace My
open PySem PySem.Spec PyProof.Rows L2 L3
variable {P : Program} {w : World} {K : PySem.W.Frag} {mg : Str → Option Value} {base : Heap} {κ : Str → Addr}
def cellAt (ns : List Int) (k : Int) : Int := ns.getD (k % (ns.length : Int)).toNat 0
def lapOf (ns : List Int) (k : Int) : Int := k / (if (ns.length : Int) > 1 then (ns.length : Int) else 1)
def nearOf (ns : List Int) (k salt : Int) : Int := PySem.Builtin.bitAnd (cellAt ns k) 2147483647 + 1009 * k * k + 7919 * salt * salt + 12
def near1 (ns : List Int) (k salt : Int) : Int := nearOf ns k salt * 48271 % 2147483647
def near2 (ns : List Int) (k salt : Int) : Int := near1 ns k salt * near1 ns k salt % 2147483629
def mixed (ns : List Int) (k salt : Int) : Int := PySem.Builtin.bitAnd (cellAt ns k / 2 ^ (31 * (salt + 128 * lapOf ns k)).toNat + near2 ns k salt) 2147483647
theorem mixed_range (ns : List Int) (k salt : Int) : 0 ≤ mixed ns k salt ∧ mixed ns k salt < 2147483648 := by
  have e : mixed ns k salt = (cellAt ns k / 2 ^ (31 * (salt + 128 * lapOf ns k)).toNat + near2 ns k salt) % 2147483648 := PySem.W.kbt_mask _ 31
  rw [e]
  exact ⟨Int.emod_nonneg _ (by decide), Int.emod_lt_of_pos _ (by decide)⟩
def spCell (K : PySem.W.Frag) : Sp := fun vs H Q _ => ∃ (a : Addr) (ns : List Int) (k : Int), vs = [.ref a, .int k] ∧ SqL K H a (ns.map V.int) ∧ Q (.int (cellAt ns k)) H
def spMixed (K : PySem.W.Frag) : Sp := fun vs H Q _ => ∃ (a : Addr) (ns : List Int) (k salt : Int), vs = [.ref a, .int k, .int salt] ∧ SqL K H a (ns.map V.int) ∧ ns.length ≤ 63 ∧ (0 ≤ k ∧ k < 1000000) ∧ (0 ≤ salt ∧ salt < 1000000) ∧ Q (.int (mixed ns k salt)) H
abbrev st_l_cell_at : Stmt := top 13
theorem sc_l_cell_at : FnScope ["_law_script", "_law_k"] ["_law_script", "_law_k"] (defScope st_l_cell_at) := ⟨rfl, rfl, rfl, by decide +kernel, rfl, by decide +kernel, by decide +kernel⟩
theorem ok_l_cell_at {n : Nat} {f : Addr} {fd : FuncData} (D : Dn K mg "_law_cell_at" st_l_cell_at ["_law_script", "_law_k"] f fd) (z_len : mg "len" = none) :
    FnOk P w K mg base CX0 (n + 1) f fd ["_law_script", "_law_k"] (spCell K) := by
  refine D.F.ok sc_l_cell_at (fun vs H Q E h => ?_) (fun cdv A outer s H vs Q E hr h => ?_)
  · obtain ⟨a, ns, k, rfl, _⟩ := h
    rfl
  obtain ⟨a, ns, k, rfl, hS, q⟩ := h
  refine ⟨_, (pss_cons (ps_if (pt_cmpR op_eq (pe_callB call_len_seq rfl z_len boot_len (pa_cons (pv 0) pa_nil)) pe_int (nomark _)) (pss_one (ps_ret pe_int)) pss_nil)
    (pss_one (ps_ret (pe_ix ix_list (pv 0) (pe_op op_mod (pv 1) (pe_callB call_len_seq rfl z_len boot_len (pa_cons (pv 0) pa_nil))) (fun _ _ => rfl))))), ?_⟩
  have hl : (ns.map V.int).length = ns.length := List.length_map _
  refine ⟨_, rfl, a, _, rfl, .inl hS, rfl, _, rfl, ?_⟩
  refine ite2 (fun c => ?_) (fun c => ?_)
  · have e : (((ns.map V.int).length : Nat) : Int) = 0 := by simpa using c
    have e' : ns = [] := by
      rw [hl] at e
      exact List.eq_nil_of_length_eq_zero (by omega)
    subst e'
    exact q
  · have e : ¬ (((ns.map V.int).length : Nat) : Int) = 0 := by simpa using c
    rw [hl] at e
    have hp : (0 : Int) < ((ns.map V.int).length : Nat) := by rw [hl]; omega
    refine ⟨_, rfl, _, rfl, _, rfl, a, _, rfl, .inl hS, _, _, rfl, rfl, hp, a, _, _, _, rfl, rfl, hS, ?_, q⟩
    rw [hl]
    have h0 := Int.emod_nonneg k e
    have h1 := Int.emod_lt_of_pos k (show (0 : Int) < ns.length by omega)
    have ek : k % (ns.length : Int) = (((k % (ns.length : Int)).toNat : Nat) : Int) := by omega
    rw [ek]
    refine atI_nat ?_
    rw [List.getElem?_map, List.getElem?_eq_getElem (by omega)]
    unfold cellAt
    rw [List.getD_eq_getElem?_getD, List.getElem?_eq_getElem (by omega)]
    rfl
abbrev st_l_mixed : Stmt := top 14
theorem sc_l_mixed : FnScope ["_law_script", "_law_k", "_law_salt", "_law_cell", "_law_lap", "_law_near"] ["_law_script", "_law_k", "_law_salt"] (defScope st_l_mixed) := ⟨rfl, rfl, rfl, by decide +kernel, rfl, by decide +kernel, by decide +kernel⟩
theorem ok_l_mixed {n : Nat} {f f1 : Addr} {fd fd1 : FuncData} (D : Dn K mg "_law_mixed" st_l_mixed ["_law_script", "_law_k", "_law_salt"] f fd) (D_l_cell_at : Dn K mg "_law_cell_at" st_l_cell_at ["_law_script", "_law_k"] f1 fd1)
    (G_l_cell_at : FnOk P w K mg base CX0 n f1 fd1 ["_law_script", "_law_k"] (spCell K)) (z_len : mg "len" = none) (z_max : mg "max" = none) :
    FnOk P w K mg base CX0 (n + 1) f fd ["_law_script", "_law_k", "_law_salt"] (spMixed K) := by
  refine D.F.ok sc_l_mixed (fun vs H Q E h => ?_) (fun cdv A outer s H vs Q E hr h => ?_)
  · obtain ⟨a, ns, k, salt, rfl, _⟩ := h
    rfl
  obtain ⟨a, ns, k, salt, rfl, hS, h63, ⟨hk0, hk1⟩, ⟨hs0, hs1⟩, q⟩ := h
  refine ⟨_, (pss_cons (ps_set (i := 3) sc_l_mixed.nd rfl (by first | exact Or.inl rfl | exact Or.inr rfl) (pe_fn D_l_cell_at G_l_cell_at hr rfl (pa_cons (pv 0) (pa_cons (pv 1) pa_nil))))
    (pss_cons (ps_set (i := 4) sc_l_mixed.nd rfl (by first | exact Or.inl rfl | exact Or.inr rfl) (pe_op op_fdiv (pv 1) (pe_callB (call_max2 rfl) rfl z_max boot_max (pa_cons pe_int (pa_cons (pe_callB call_len_seq rfl z_len boot_len (pa_cons (pv 0) pa_nil)) pa_nil)))))
    (pss_cons (ps_set (i := 5) sc_l_mixed.nd rfl (by first | exact Or.inl rfl | exact Or.inr rfl) (pe_op op_add (pe_op op_add (pe_op op_add (pe_op op_and (pv 3) pe_int) (pe_op op_mul (pe_op op_mul pe_int (pv 1)) (pv 1))) (pe_op op_mul (pe_op op_mul pe_int (pv 2)) (pv 2))) pe_int))
    (pss_cons (ps_set (i := 5) sc_l_mixed.nd rfl (by first | exact Or.inl rfl | exact Or.inr rfl) (pe_op op_mod (pe_op op_mul (pv 5) pe_int) pe_int))
    (pss_cons (ps_set (i := 5) sc_l_mixed.nd rfl (by first | exact Or.inl rfl | exact Or.inr rfl) (pe_op op_mod (pe_op op_mul (pv 5) (pv 5)) pe_int))
    (pss_one (ps_ret (pe_op op_and (pe_op op_add (pe_op op_shr (pv 3) (pe_op op_mul pe_int (pe_op op_add (pv 2) (pe_op op_mul pe_int (pv 4))))) (pv 5)) pe_int)))))))), ?_⟩
  have hl : (ns.map V.int).length = ns.length := List.length_map _
  have hlap : 0 ≤ lapOf ns k := by unfold lapOf; exact Int.ediv_nonneg hk0 (by split <;> omega)
  have hn1 : 0 ≤ near1 ns k salt ∧ near1 ns k salt < 2147483647 := ⟨Int.emod_nonneg _ (by decide), Int.emod_lt_of_pos _ (by decide)⟩
  refine ⟨_, rfl, _, rfl, a, ns, k, rfl, hS, ?_⟩
  refine ⟨_, rfl, _, rfl, a, _, rfl, .inl hS, _, _, rfl, _, _, rfl, rfl, ?_, ?_⟩
  · rw [hl]; constructor
    · split <;> omega
    · split <;> omega
  rw [hl]
  refine ⟨_, rfl, _, _, rfl, rfl, _, rfl, _, _, rfl, rfl, .inl ⟨by decide, by decide⟩, _, rfl, _, _, rfl, rfl, .inr ⟨by omega, by omega⟩, _, _, rfl, rfl, _, rfl, _, _, rfl, rfl, .inl ⟨by decide, by decide⟩, _, rfl, _, _, rfl, rfl, .inr ⟨by omega, by omega⟩, _, _, rfl, rfl, _, _, rfl, rfl, ?_⟩
  refine ⟨_, rfl, _, _, rfl, rfl, .inr ⟨by decide, by decide⟩, _, _, rfl, rfl, (by show (0 : Int) < 2147483647; decide), ?_⟩
  refine ⟨_, rfl, _, rfl, _, _, rfl, rfl, .inl ⟨by show -(2 ^ 64) < near1 ns k salt; omega, by show near1 ns k salt < 2 ^ 64; omega⟩, _, _, rfl, rfl, (by show (0 : Int) < 2147483629; decide), ?_⟩
  refine ⟨_, rfl, _, rfl, _, rfl, _, _, rfl, rfl, .inl ⟨by decide, by decide⟩, _, _, rfl, rfl, _, _, rfl, rfl, .inl ⟨by decide, by decide⟩, _, _, rfl, rfl, ?_, _, rfl, _, _, rfl, rfl, _, _, rfl, rfl, q⟩
  show 0 ≤ 31 * (salt + 128 * lapOf ns k)
  omega
end My
namespace L3
open PySem PySem.Spec PyProof.Rows L2 My
variable {P : Program} {w : World} {K : PySem.W.Frag} {mg : Str → Option Value} {base : Heap} {κ : Str → Addr}
abbrev ks_SIGNS : List Key := [.inr "_", .inr ".", .inr "/", .inr "[", .inr "]", .inr "<", .inr "{", .inr "|", .inr "}"]
abbrev ds_SIGNS : List D := [(.tup [(.str "gap"), (.str " ")]), (.tup [(.str "gap"), (.str "")]), (.tup [(.str "end")]), (.tup [(.str "open")]), (.tup [(.str "close")]), (.tup [(.str "back")]), (.tup [(.str "either")]), (.tup [(.str "or")]), (.tup [(.str "done")])]
def fb_p_tokens (g_p_tokens_of_piece : (List D → Option D)) : PSt → Option (Fl × PSt) :=
  (fSeq (fSet 1 (fPure (fLst fNil)))
  (fSeq (fFor 2 (fSeqI (fVar 0))
   (fExpr (fMut 1 fPNil (fCons (fCall g_p_tokens_of_piece (fCons (fVar 2) fNil)) fNil) hExtend)))
  (fRetL 1)))
abbrev st_p_tokens : Stmt := top 1
theorem sc_p_tokens : FnScope ["row", "told", "piece"] ["row"] (defScope st_p_tokens) := ⟨rfl, rfl, rfl, by decide +kernel, rfl, by decide +kernel, by decide +kernel⟩
theorem ok_p_tokens {n : Nat} {f : Addr} {fd : FuncData} {g_p_tokens_of_piece : (List D → Option D)} {f_p_tokens_of_piece : Addr} {fd_p_tokens_of_piece : FuncData} (D_p_tokens : Dn K mg "tokens" st_p_tokens ["row"] f fd)
    (D_p_tokens_of_piece : Dn K mg "tokens_of_piece" st_p_tokens_of_piece ["piece"] f_p_tokens_of_piece fd_p_tokens_of_piece) (G_p_tokens_of_piece : FnOk P w K mg base CX0 n f_p_tokens_of_piece fd_p_tokens_of_piece ["piece"] (SpP 1 K κ g_p_tokens_of_piece)) :
    FnOk P w K mg base CX0 (n + 1) f fd ["row"] (SpP 1 K κ (gP 1 2 (fb_p_tokens g_p_tokens_of_piece))) :=
  fn_pure D_p_tokens.F sc_p_tokens fun cdv A outer s H E B hr =>
  (qss_cons (qs_set 1 sc_p_tokens.nd rfl (by first | exact Or.inl rfl | exact Or.inr rfl) rfl rfl (QP.e (qp_lst qpa_nil)))
  (qss_cons (qs_forB 2 0 PassesOwn.never rfl sc_p_tokens.nd rfl (by first | exact Or.inl rfl | exact Or.inr rfl) rfl rfl rfl
   (qss_one (qs_expr (qe_extend (j := 1) rfl (qpath_name 1) (qva_cons (QP.v (qp_fn D_p_tokens_of_piece G_p_tokens_of_piece hr rfl rfl (qva_cons (qv_name 2) qva_nil) (len_cons len_nil))) qva_nil)))))
  (qss_one (qs_retL 1 rfl))))
def fb_p_tokens_of_piece (g_p_tokens : (List D → Option D)) (g_p_tokens_of_either : (List D → Option D)) : PSt → Option (Fl × PSt) :=
  (fSeq (fSet 1 (fPure (fImm (f2 dIx (fVar 0) (fC (.int 0))))))
  (fSeq (fIf (fTPure (fB (f2 dEq (fVar 1) (fC (.str "group")))))
   (fRet (fPure (f2 dAdd (f2 dAdd (fLst (fCons (fTup (fCons (fC (.str "open")) fNil)) fNil)) (fCall g_p_tokens (fCons (f2 dIx (fVar 0) (fC (.int 1))) fNil))) (fLst (fCons (fTup (fCons (fC (.str "close")) fNil)) fNil)))))
   fSkip)
  (fSeq (fIf (fTPure (fB (f2 dEq (fVar 1) (fC (.str "hang")))))
   (fRet (fPure (f2 dAdd (f2 dAdd (fLst (fCons (fTup (fCons (fC (.str "hang")) (fCons (fImm (f2 dIx (fVar 0) (fC (.int 1)))) fNil))) fNil)) (fCall g_p_tokens (fCons (f2 dIx (fVar 0) (fC (.int 2))) fNil))) (fLst (fCons (fTup (fCons (fC (.str "back")) fNil)) fNil)))))
   fSkip)
  (fSeq (fIf (fTPure (fB (f2 dEq (fVar 1) (fC (.str "either")))))
   (fRet (fPure (fCall g_p_tokens_of_either (fCons (f2 dIx (fVar 0) (fC (.int 1))) fNil))))
   fSkip)
  (fRet (fPure (fLst (fCons (fImm (fVar 0)) fNil))))))))
abbrev st_p_tokens_of_piece : Stmt := top 2
theorem sc_p_tokens_of_piece : FnScope ["piece", "kind"] ["piece"] (defScope st_p_tokens_of_piece) := ⟨rfl, rfl, rfl, by decide +kernel, rfl, by decide +kernel, by decide +kernel⟩
theorem ok_p_tokens_of_piece {n : Nat} {f : Addr} {fd : FuncData} {g_p_tokens : (List D → Option D)} {f_p_tokens : Addr} {fd_p_tokens : FuncData} {g_p_tokens_of_either : (List D → Option D)} {f_p_tokens_of_either : Addr} {fd_p_tokens_of_either : FuncData} (D_p_tokens_of_piece : Dn K mg "tokens_of_piece" st_p_tokens_of_piece ["piece"] f fd)
    (D_p_tokens : Dn K mg "tokens" st_p_tokens ["row"] f_p_tokens fd_p_tokens) (G_p_tokens : FnOk P w K mg base CX0 n f_p_tokens fd_p_tokens ["row"] (SpP 1 K κ g_p_tokens))
    (D_p_tokens_of_either : Dn K mg "tokens_of_either" st_p_tokens_of_either ["rows"] f_p_tokens_of_either fd_p_tokens_of_either) (G_p_tokens_of_either : FnOk P w K mg base CX0 n f_p_tokens_of_either fd_p_tokens_of_either ["rows"] (SpP 1 K κ g_p_tokens_of_either)) :
    FnOk P w K mg base CX0 (n + 1) f fd ["piece"] (SpP 1 K κ (gP 1 1 (fb_p_tokens_of_piece g_p_tokens g_p_tokens_of_either))) :=
  fn_pure D_p_tokens_of_piece.F sc_p_tokens_of_piece fun cdv A outer s H E B hr =>
  (qss_cons (qs_set 1 sc_p_tokens_of_piece.nd rfl (by first | exact Or.inl rfl | exact Or.inr rfl) rfl rfl (QP.e (QV.p (qv_ix (qv_name 0) (QP.v qp_int)))))
  (qss_cons (qs_if (QT.e (qt_cmp (o_eq (Room.units hr)) (qv_name 1) (QP.v qp_str) (nomark _)))
   (qss_one (qs_ret (QP.e (qp_op o_add (QP.v (qp_op o_add (QP.v (qp_lst (qpa_cons (qp_tup (qpa_cons qp_str qpa_nil)) qpa_nil))) (QP.v (qp_fn D_p_tokens G_p_tokens hr rfl rfl (qva_cons (qv_ix (qv_name 0) (QP.v qp_int)) qva_nil) (len_cons len_nil))))) (QP.v (qp_lst (qpa_cons (qp_tup (qpa_cons qp_str qpa_nil)) qpa_nil)))))))
   qss_nil)
  (qss_cons (qs_if (QT.e (qt_cmp (o_eq (Room.units hr)) (qv_name 1) (QP.v qp_str) (nomark _)))
   (qss_one (qs_ret (QP.e (qp_op o_add (QP.v (qp_op o_add (QP.v (qp_lst (qpa_cons (qp_tup (qpa_cons qp_str (qpa_cons (QV.p (qv_ix (qv_name 0) (QP.v qp_int))) qpa_nil))) qpa_nil))) (QP.v (qp_fn D_p_tokens G_p_tokens hr rfl rfl (qva_cons (qv_ix (qv_name 0) (QP.v qp_int)) qva_nil) (len_cons len_nil))))) (QP.v (qp_lst (qpa_cons (qp_tup (qpa_cons qp_str qpa_nil)) qpa_nil)))))))
   qss_nil)
  (qss_cons (qs_if (QT.e (qt_cmp (o_eq (Room.units hr)) (qv_name 1) (QP.v qp_str) (nomark _)))
   (qss_one (qs_ret (QP.e (qp_fn D_p_tokens_of_either G_p_tokens_of_either hr rfl rfl (qva_cons (qv_ix (qv_name 0) (QP.v qp_int)) qva_nil) (len_cons len_nil)))))
   qss_nil)
  (qss_one (qs_ret (QP.e (qp_lst (qpa_cons (QV.p (qv_name 0)) qpa_nil)))))))))
def fb_p_tokens_of_either (g_p_tokens : (List D → Option D)) : PSt → Option (Fl × PSt) :=
  (fSeq (fSet 1 (fPure (f2 dAdd (fLst (fCons (fTup (fCons (fC (.str "either")) fNil)) fNil)) (fCall g_p_tokens (fCons (f2 dIx (fVar 0) (fC (.int 0))) fNil)))))
  (fSeq (fFor 2 (fSeqI (fSl (fVar 0) (fPart (fC (.int 1))) fNoPart))
   (fSeq (fExpr (fMut 1 fPNil (fCons (fTup (fCons (fC (.str "or")) fNil)) fNil) hAppend))
  (fExpr (fMut 1 fPNil (fCons (fCall g_p_tokens (fCons (fVar 2) fNil)) fNil) hExtend))))
  (fSeq (fExpr (fMut 1 fPNil (fCons (fTup (fCons (fC (.str "done")) fNil)) fNil) hAppend))
  (fRetL 1))))
abbrev st_p_tokens_of_either : Stmt := top 3
theorem sc_p_tokens_of_either : FnScope ["rows", "told", "row"] ["rows"] (defScope st_p_tokens_of_either) := ⟨rfl, rfl, rfl, by decide +kernel, rfl, by decide +kernel, by decide +kernel⟩
theorem ok_p_tokens_of_either {n : Nat} {f : Addr} {fd : FuncData} {g_p_tokens : (List D → Option D)} {f_p_tokens : Addr} {fd_p_tokens : FuncData} (D_p_tokens_of_either : Dn K mg "tokens_of_either" st_p_tokens_of_either ["rows"] f fd)
    (D_p_tokens : Dn K mg "tokens" st_p_tokens ["row"] f_p_tokens fd_p_tokens) (G_p_tokens : FnOk P w K mg base CX0 n f_p_tokens fd_p_tokens ["row"] (SpP 1 K κ g_p_tokens)) :
    FnOk P w K mg base CX0 (n + 1) f fd ["rows"] (SpP 1 K κ (gP 1 2 (fb_p_tokens_of_either g_p_tokens))) :=
  fn_pure D_p_tokens_of_either.F sc_p_tokens_of_either fun cdv A outer s H E B hr =>
  (qss_cons (qs_set 1 sc_p_tokens_of_either.nd rfl (by first | exact Or.inl rfl | exact Or.inr rfl) rfl rfl (QP.e (qp_op o_add (QP.v (qp_lst (qpa_cons (qp_tup (qpa_cons qp_str qpa_nil)) qpa_nil))) (QP.v (qp_fn D_p_tokens G_p_tokens hr rfl rfl (qva_cons (qv_ix (qv_name 0) (QP.v qp_int)) qva_nil) (len_cons len_nil))))))
  (qss_cons (qs_for 2 PassesOwn.never rfl sc_p_tokens_of_either.nd rfl (by first | exact Or.inl rfl | exact Or.inr rfl) rfl rfl (qi_new (qp_slice (qv_name 0) (qo_some (QP.v qp_int)) qo_none))
   (qss_cons (qs_expr (qe_append (j := 1) rfl (qpath_name 1) (qpa_cons (qp_tup (qpa_cons qp_str qpa_nil)) qpa_nil)))
  (qss_one (qs_expr (qe_extend (j := 1) rfl (qpath_name 1) (qva_cons (QP.v (qp_fn D_p_tokens G_p_tokens hr rfl rfl (qva_cons (qv_name 2) qva_nil) (len_cons len_nil))) qva_nil))))))
  (qss_cons (qs_expr (qe_append (j := 1) rfl (qpath_name 1) (qpa_cons (qp_tup (qpa_cons qp_str qpa_nil)) qpa_nil)))
  (qss_one (qs_retL 1 rfl)))))
def fb_p_sign_of  : PSt → Option (Fl × PSt) :=
  (fRet (fPure (f2 dIx (fComp [none, some 0] (fKs (ks_SIGNS.map keyD)) (fB (f2 dEq (f2 dGet (fC (.dic false ks_SIGNS ds_SIGNS)) (fVar 0)) (fVar 1))) (fImm (fVar 0))) (fC (.int 0)))))
abbrev st_p_sign_of : Stmt := top 9
theorem sc_p_sign_of : FnScope ["token"] ["token"] (defScope st_p_sign_of) := ⟨rfl, rfl, rfl, by decide +kernel, rfl, by decide +kernel, by decide +kernel⟩
theorem ok_p_sign_of {n : Nat} {f : Addr} {fd : FuncData} {a_SIGNS : Addr} (D_p_sign_of : Dn K mg "sign_of" st_p_sign_of ["token"] f fd)
    (g_SIGNS : mg "SIGNS" = some (.ref a_SIGNS)) (k_SIGNS : KTab P w K κ a_SIGNS ks_SIGNS ds_SIGNS) :
    FnOk P w K mg base CX0 (n + 1) f fd ["token"] (SpP 1 K κ (gP 1 0 (fb_p_sign_of ))) :=
  fn_pure D_p_sign_of.F sc_p_sign_of fun cdv A outer s H E B hr =>
  (qss_one (qs_ret (QP.e (qp_ix (qp_comp (sc := defScope st_p_sign_of) (NX := ["token"]) (N := ["sign", "token"]) (pick := [none, some 0]) ⟨rfl, by decide +kernel, by decide +kernel, by decide +kernel, by decide +kernel, by decide, rfl⟩ rfl rfl rfl (QIP.v (qi_kd rfl g_SIGNS k_SIGNS)) (fun _ _ _ _ => (pg_name (i := 0) (show (["sign", "token"] : List Str).Nodup by decide) rfl (by first | exact Or.inl rfl | exact Or.inr rfl))) (fun _ _ _ _ => (qts_one (qt_cmp (o_eq (Room.units hr)) (qv_kget rfl g_SIGNS k_SIGNS (qv_name 0)) (qv_name 1) (nomark _)))) (fun _ _ _ _ => (QV.p (qv_name 0)))) (QP.v qp_int)))))
def fb_p_written_token (g_p_sign_of : (List D → Option D)) : PSt → Option (Fl × PSt) :=
  (fSeq (fSet 1 (fPure (fImm (f2 dIx (fVar 0) (fC (.int 0))))))
  (fSeq (fIf (fTPure (fB (f2 dEq (fVar 1) (fC (.str "word")))))
   (fRet (fPure (f2 dAdd (fC (.str "'")) (f2 dIx (fVar 0) (fC (.int 1))))))
   fSkip)
  (fSeq (fIf (fTPure (fB (f2 dEq (fVar 1) (fC (.str "stop")))))
   (fRet (fPure (f2 dAdd (fC (.str "\x40")) (fCall dStr1 (fCons (f2 dIx (fVar 0) (fC (.int 1))) fNil)))))
   fSkip)
  (fSeq (fIf (fTPure (fB (f2 dEq (fVar 1) (fC (.str "hang")))))
   (fRet (fPure (f2 dAdd (fC (.str ">")) (fCall dStr1 (fCons (f2 dIx (fVar 0) (fC (.int 1))) fNil)))))
   fSkip)
  (fRet (fPure (fCall g_p_sign_of (fCons (fVar 0) fNil))))))))
abbrev st_p_written_token : Stmt := top 10
theorem sc_p_written_token : FnScope ["token", "kind"] ["token"] (defScope st_p_written_token) := ⟨rfl, rfl, rfl, by decide +kernel, rfl, by decide +kernel, by decide +kernel⟩
theorem ok_p_written_token {n : Nat} {f : Addr} {fd : FuncData} {g_p_sign_of : (List D → Option D)} {f_p_sign_of : Addr} {fd_p_sign_of : FuncData} {t_WORD_SIGN : Tok} {t_STOP_SIGN : Tok} {t_HANG_SIGN : Tok} (D_p_written_token : Dn K mg "written_token" st_p_written_token ["token"] f fd)
    (D_p_sign_of : Dn K mg "sign_of" st_p_sign_of ["token"] f_p_sign_of fd_p_sign_of) (G_p_sign_of : FnOk P w K mg base CX0 n f_p_sign_of fd_p_sign_of ["token"] (SpP 1 K κ g_p_sign_of))
    (z_str : mg "str" = none)
    (g_WORD_SIGN : mg "WORD_SIGN" = some (.str "'" t_WORD_SIGN))
    (g_STOP_SIGN : mg "STOP_SIGN" = some (.str "\x40" t_STOP_SIGN))
    (g_HANG_SIGN : mg "HANG_SIGN" = some (.str ">" t_HANG_SIGN)) :
    FnOk P w K mg base CX0 (n + 1) f fd ["token"] (SpP 1 K κ (gP 1 1 (fb_p_written_token g_p_sign_of))) :=
  fn_pure D_p_written_token.F sc_p_written_token fun cdv A outer s H E B hr =>
  (qss_cons (qs_set 1 sc_p_written_token.nd rfl (by first | exact Or.inl rfl | exact Or.inr rfl) rfl rfl (QP.e (QV.p (qv_ix (qv_name 0) (QP.v qp_int)))))
  (qss_cons (qs_if (QT.e (qt_cmp (o_eq (Room.units hr)) (qv_name 1) (QP.v qp_str) (nomark _)))
   (qss_one (qs_ret (QP.e (qp_op o_add (QP.v (qp_glob (v := .str "'") (d := .str "'") rfl g_WORD_SIGN ⟨_, rfl⟩ (fun _ => .str "'"))) (qv_ix (qv_name 0) (QP.v qp_int))))))
   qss_nil)
  (qss_cons (qs_if (QT.e (qt_cmp (o_eq (Room.units hr)) (qv_name 1) (QP.v qp_str) (nomark _)))
   (qss_one (qs_ret (QP.e (qp_op o_add (QP.v (qp_glob (v := .str "\x40") (d := .str "\x40") rfl g_STOP_SIGN ⟨_, rfl⟩ (fun _ => .str "\x40"))) (QP.v (qp_callTy c_str rfl z_str boot_str (qva_cons (qv_ix (qv_name 0) (QP.v qp_int)) qva_nil)))))))
   qss_nil)
  (qss_cons (qs_if (QT.e (qt_cmp (o_eq (Room.units hr)) (qv_name 1) (QP.v qp_str) (nomark _)))
   (qss_one (qs_ret (QP.e (qp_op o_add (QP.v (qp_glob (v := .str ">") (d := .str ">") rfl g_HANG_SIGN ⟨_, rfl⟩ (fun _ => .str ">"))) (QP.v (qp_callTy c_str rfl z_str boot_str (qva_cons (qv_ix (qv_name 0) (QP.v qp_int)) qva_nil)))))))
   qss_nil)
  (qss_one (qs_ret (QP.e (qp_fn D_p_sign_of G_p_sign_of hr rfl rfl (qva_cons (qv_name 0) qva_nil) (len_cons len_nil)))))))))
def fb_p_written (g_p_written_token : (List D → Option D)) (g_p_tokens : (List D → Option D)) : PSt → Option (Fl × PSt) :=
  (fRet (fPure (fMt dJoin (fC (.str " ")) (fCons (fComp [none] (fSeqI (fCall g_p_tokens (fCons (fVar 0) fNil))) fYes (fCall g_p_written_token (fCons (fVar 0) fNil))) fNil))))
abbrev st_p_written : Stmt := top 11
theorem sc_p_written : FnScope ["row"] ["row"] (defScope st_p_written) := ⟨rfl, rfl, rfl, by decide +kernel, rfl, by decide +kernel, by decide +kernel⟩
theorem ok_p_written {n : Nat} {f : Addr} {fd : FuncData} {g_p_written_token : (List D → Option D)} {f_p_written_token : Addr} {fd_p_written_token : FuncData} {g_p_tokens : (List D → Option D)} {f_p_tokens : Addr} {fd_p_tokens : FuncData} (D_p_written : Dn K mg "written" st_p_written ["row"] f fd)
    (D_p_written_token : Dn K mg "written_token" st_p_written_token ["token"] f_p_written_token fd_p_written_token) (G_p_written_token : FnOk P w K mg base CX0 n f_p_written_token fd_p_written_token ["token"] (SpP 1 K κ g_p_written_token))
    (D_p_tokens : Dn K mg "tokens" st_p_tokens ["row"] f_p_tokens fd_p_tokens) (G_p_tokens : FnOk P w K mg base CX0 n f_p_tokens fd_p_tokens ["row"] (SpP 1 K κ g_p_tokens)) :
    FnOk P w K mg base CX0 (n + 1) f fd ["row"] (SpP 1 K κ (gP 1 0 (fb_p_written g_p_written_token g_p_tokens))) :=
  fn_pure D_p_written.F sc_p_written fun cdv A outer s H E B hr =>
  (qss_one (qs_ret (QP.e (qp_ms PySem.F.slot_str_join PySem.F.type_str_join m_join (QP.v qp_str) (qva_cons (QP.v (qp_comp (sc := defScope st_p_written) (NX := ["row"]) (N := ["token"]) (pick := [none]) ⟨rfl, by decide +kernel, by decide +kernel, by decide +kernel, by decide +kernel, by decide, rfl⟩ rfl rfl rfl (qi_see (QP.v (qp_fn D_p_tokens G_p_tokens hr rfl rfl (qva_cons (qv_name 0) qva_nil) (len_cons len_nil)))) (fun _ _ _ _ => (pg_name (i := 0) (show (["token"] : List Str).Nodup by decide) rfl (by first | exact Or.inl rfl | exact Or.inr rfl))) (fun _ _ _ _ => qts_nil) (fun _ _ _ _ => (qp_fn D_p_written_token G_p_written_token hr rfl rfl (qva_cons (qv_name 0) qva_nil) (len_cons len_nil))))) qva_nil)))))
def fb_l_word  : PSt → Option (Fl × PSt) :=
  (fSeq (fSet 1 (fPure (fC (.str "abcdefghijklmnopqrstuvwxyzABCDEFGHIJKLMNOPQRSTUVWXYZ0123456789"))))
  (fSeq (fSet 1 (fPure (f2 dAdd (fVar 1) (fC (.str "!\"#$&'()*+,-./:;<=>?\x40[\\]^_`{|}~")))))
  (fSeq (fSet 2 (fPure (f2 dIx (fLst (fKs [.int 1, .int 2, .int 3, .int 4, .int 5, .int 6, .int 7, .int 8, .int 10, .int 11, .int 9, .int 12])) (f2 dMod (fVar 0) (fC (.int 12))))))
  (fSeq (fSet 3 (fPure (fC (.str ""))))
  (fSeq (fFor 4 (fRng1 (fCons (fVar 2) fNil))
   (fSet 3 (fPure (f2 dAdd (fVar 3) (f2 dIx (fVar 1) (f2 dMod (f2 dAdd (f2 dDiv (fVar 0) (fC (.int 12))) (f2 dMul (fVar 4) (f2 dMod (f2 dDiv (fVar 0) (fC (.int 9000))) (fC (.int 93))))) (fC (.int 93))))))))
  (fRetL 3))))))
abbrev st_l_word : Stmt := top 15
theorem sc_l_word : FnScope ["_law_number", "_law_signs", "_law_size", "_law_word_here", "_law_j"] ["_law_number"] (defScope st_l_word) := ⟨rfl, rfl, rfl, by decide +kernel, rfl, by decide +kernel, by decide +kernel⟩
theorem ok_l_word {n : Nat} {f : Addr} {fd : FuncData}  (D_l_word : Dn K mg "_law_word" st_l_word ["_law_number"] f fd)
    (z_range : mg "range" = none) :
    FnOk P w K mg base CX0 (n + 1) f fd ["_law_number"] (SpP 1 K κ (gP 1 4 (fb_l_word ))) :=
  fn_pure D_l_word.F sc_l_word fun cdv A outer s H E B hr =>
  (qss_cons (qs_set 1 sc_l_word.nd rfl (by first | exact Or.inl rfl | exact Or.inr rfl) rfl rfl (QP.e qp_str))
  (qss_cons (qs_set 1 sc_l_word.nd rfl (by first | exact Or.inl rfl | exact Or.inr rfl) rfl rfl (QP.e (qp_op o_add (qv_name 1) (QP.v qp_str))))
  (qss_cons (qs_set 2 sc_l_word.nd rfl (by first | exact Or.inl rfl | exact Or.inr rfl) rfl rfl (QP.e (qp_ix (qp_lst (qpa_consts (.int (.int (.int (.int (.int (.int (.int (.int (.int (.int (.int (.int .nil)))))))))))))) (QP.v (qp_op o_mod (qv_name 0) (QP.v qp_int))))))
  (qss_cons (qs_set 3 sc_l_word.nd rfl (by first | exact Or.inl rfl | exact Or.inr rfl) rfl rfl (QP.e qp_str))
  (qss_cons (qs_for 4 PassesOwn.never rfl sc_l_word.nd rfl (by first | exact Or.inl rfl | exact Or.inr rfl) rfl rfl (qi_range1 rfl z_range (qva_cons (qv_name 2) qva_nil))
   (qss_one (qs_set 3 sc_l_word.nd rfl (by first | exact Or.inl rfl | exact Or.inr rfl) rfl rfl (QP.e (qp_op o_add (qv_name 3) (qv_ix (qv_name 1) (QP.v (qp_op o_mod (QP.v (qp_op o_add (QP.v (qp_op o_div (qv_name 0) (QP.v qp_int))) (QP.v (qp_op o_mul (qv_name 4) (QP.v (qp_op o_mod (QP.v (qp_op o_div (qv_name 0) (QP.v qp_int))) (QP.v qp_int))))))) (QP.v qp_int)))))))))
  (qss_one (qs_retL 3 rfl)))))))
def fb_l_leaf (g_l_word : (List D → Option D)) : PSt → Option (Fl × PSt) :=
  (fSeq (fSet 1 (fPure (f2 dDiv (fVar 0) (fC (.int 16)))))
  (fSeq (fSet 2 (fPure (fLst (fKs [.str "[", .str "]", .str "{", .str "|", .str "}", .str "<", .str ">3", .str "\x407", .str "_", .str ".", .str "/", .str "'", .str "''", .str "'["]))))
  (fSeq (fIf (fTPure (fB (f2 dLt (f2 dMod (fVar 0) (fC (.int 16))) (fC (.int 2)))))
   (fRet (fPure (fTup (fCons (fC (.str "word")) (fCons (fImm (f2 dIx (fVar 2) (f2 dMod (fVar 1) (fC (.int 14))))) fNil)))))
   fSkip)
  (fSeq (fIf (fTPure (fB (f2 dLt (f2 dMod (fVar 0) (fC (.int 16))) (fC (.int 8)))))
   (fRet (fPure (fTup (fCons (fC (.str "word")) (fCons (fCall g_l_word (fCons (fVar 1) fNil)) fNil)))))
   fSkip)
  (fSeq (fIf (fTPure (fB (f2 dLt (f2 dMod (fVar 0) (fC (.int 16))) (fC (.int 13)))))
   (fRet (fPure (fTup (fCons (fC (.str "gap")) (fCons (f2 dIx (fLst (fKs [.str " ", .str " ", .str " ", .str ""])) (f2 dMod (fVar 1) (fC (.int 4)))) fNil)))))
   fSkip)
  (fSeq (fIf (fTPure (fB (f2 dEq (f2 dMod (fVar 0) (fC (.int 16))) (fC (.int 13)))))
   (fRet (fPure (fTup (fCons (fC (.str "end")) fNil))))
   fSkip)
  (fRet (fPure (fTup (fCons (fC (.str "stop")) (fCons (f2 dIx (fLst (fCons (f2 dMod (f2 dDiv (fVar 1) (fC (.int 2))) (fC (.int 10))) (fCons (f2 dMod (f2 dDiv (fVar 1) (fC (.int 2))) (fC (.int 41))) fNil))) (f2 dMod (fVar 1) (fC (.int 2)))) fNil)))))))))))
abbrev st_l_leaf : Stmt := top 16
theorem sc_l_leaf : FnScope ["_law_number", "_law_some_here", "_law_odd"] ["_law_number"] (defScope st_l_leaf) := ⟨rfl, rfl, rfl, by decide +kernel, rfl, by decide +kernel, by decide +kernel⟩
theorem ok_l_leaf {n : Nat} {f : Addr} {fd : FuncData} {g_l_word : (List D → Option D)} {f_l_word : Addr} {fd_l_word : FuncData} (D_l_leaf : Dn K mg "_law_leaf" st_l_leaf ["_law_number"] f fd)
    (D_l_word : Dn K mg "_law_word" st_l_word ["_law_number"] f_l_word fd_l_word) (G_l_word : FnOk P w K mg base CX0 n f_l_word fd_l_word ["_law_number"] (SpP 1 K κ g_l_word)) :
    FnOk P w K mg base CX0 (n + 1) f fd ["_law_number"] (SpP 1 K κ (gP 1 2 (fb_l_leaf g_l_word))) :=
  fn_pure D_l_leaf.F sc_l_leaf fun cdv A outer s H E B hr =>
  (qss_cons (qs_set 1 sc_l_leaf.nd rfl (by first | exact Or.inl rfl | exact Or.inr rfl) rfl rfl (QP.e (qp_op o_div (qv_name 0) (QP.v qp_int))))
  (qss_cons (qs_set 2 sc_l_leaf.nd rfl (by first | exact Or.inl rfl | exact Or.inr rfl) rfl rfl (QP.e (qp_lst (qpa_consts (.str (.str (.str (.str (.str (.str (.str (.str (.str (.str (.str (.str (.str (.str .nil))))))))))))))))))
  (qss_cons (qs_if (QT.e (qt_cmp (o_lt (Room.units0 hr)) (QP.v (qp_op o_mod (qv_name 0) (QP.v qp_int))) (QP.v qp_int) (nomark _)))
   (qss_one (qs_ret (QP.e (qp_tup (qpa_cons qp_str (qpa_cons (QV.p (qv_ix (qv_name 2) (QP.v (qp_op o_mod (qv_name 1) (QP.v qp_int))))) qpa_nil))))))
   qss_nil)
  (qss_cons (qs_if (QT.e (qt_cmp (o_lt (Room.units0 hr)) (QP.v (qp_op o_mod (qv_name 0) (QP.v qp_int))) (QP.v qp_int) (nomark _)))
   (qss_one (qs_ret (QP.e (qp_tup (qpa_cons qp_str (qpa_cons (qp_fn D_l_word G_l_word hr rfl rfl (qva_cons (qv_name 1) qva_nil) (len_cons len_nil)) qpa_nil))))))
   qss_nil)
  (qss_cons (qs_if (QT.e (qt_cmp (o_lt (Room.units0 hr)) (QP.v (qp_op o_mod (qv_name 0) (QP.v qp_int))) (QP.v qp_int) (nomark _)))
   (qss_one (qs_ret (QP.e (qp_tup (qpa_cons qp_str (qpa_cons (qp_ix (qp_lst (qpa_consts (.str (.str (.str (.str .nil)))))) (QP.v (qp_op o_mod (qv_name 1) (QP.v qp_int)))) qpa_nil))))))
   qss_nil)
  (qss_cons (qs_if (QT.e (qt_cmp (o_eq (Room.units hr)) (QP.v (qp_op o_mod (qv_name 0) (QP.v qp_int))) (QP.v qp_int) (nomark _)))
   (qss_one (qs_ret (QP.e (qp_tup (qpa_cons qp_str qpa_nil)))))
   qss_nil)
  (qss_one (qs_ret (QP.e (qp_tup (qpa_cons qp_str (qpa_cons (qp_ix (qp_lst (qpa_cons (qp_op o_mod (QP.v (qp_op o_div (qv_name 1) (QP.v qp_int))) (QP.v qp_int)) (qpa_cons (qp_op o_mod (QP.v (qp_op o_div (qv_name 1) (QP.v qp_int))) (QP.v qp_int)) qpa_nil))) (QP.v (qp_op o_mod (qv_name 1) (QP.v qp_int)))) qpa_nil))))))))))))
def fb_l_shut  : PSt → Option (Fl × PSt) :=
  (fSeq (fUnp [1, 2, 3, 4] (fMut 0 fPNil fNil hPop))
  (fSeq (fSet 3 (fPure (f2 dAdd (fVar 3) (fLst (fCons (fCall dTuple (fCons (fVar 4) fNil)) fNil)))))
  (fSeq (fIf (fTPure (tAndF (fB (f2 dEq (fVar 1) (fC (.str "either")))) (fB (f2 dLt (fCall dLen (fCons (fVar 3) fNil)) (fC (.int 2))))))
   (fSet 3 (fPure (f2 dAdd (fVar 3) (fLst (fCons (fTup (fCons (fTup (fCons (fC (.str "word")) (fCons (fC (.str "or")) fNil))) fNil)) fNil)))))
   fSkip)
  (fSeq (fSet 5 (fPure (fTup (fCons (fC (.str "group")) (fCons (fImm (f2 dIx (fVar 3) (fC (.int 0)))) fNil)))))
  (fSeq (fIf (fTPure (fB (f2 dEq (fVar 1) (fC (.str "hang")))))
   (fSet 5 (fPure (fTup (fCons (fC (.str "hang")) (fCons (fImm (fVar 2)) (fCons (fImm (f2 dIx (fVar 3) (fC (.int 0)))) fNil))))))
   fSkip)
  (fSeq (fIf (fTPure (fB (f2 dEq (fVar 1) (fC (.str "either")))))
   (fSet 5 (fPure (fTup (fCons (fC (.str "either")) (fCons (fCall dTuple (fCons (fVar 3) fNil)) fNil)))))
   fSkip)
  (fExpr (fMut 0 (fPIx 0 (fPIx 0 fPNil (fNeg (fC (.int 1)))) (fC (.int 3))) (fCons (fImm (fVar 5)) fNil) hAppend))))))))
abbrev st_l_shut : Stmt := top 17
theorem sc_l_shut : FnScope ["_law_frames", "_law_kind", "_law_n", "_law_full", "_law_parts", "_law_piece"] ["_law_frames"] (defScope st_l_shut) := ⟨rfl, rfl, rfl, by decide +kernel, rfl, by decide +kernel, by decide +kernel⟩
theorem ok_l_shut {n : Nat} {f : Addr} {fd : FuncData}  (D_l_shut : Dn K mg "_law_shut" st_l_shut ["_law_frames"] f fd)
    (z_tuple : mg "tuple" = none)
    (z_len : mg "len" = none) :
    FnOk P w K mg base CX0 (n + 1) f fd ["_law_frames"] (SpE 1 K κ (maskL [true]) (gE 1 5 (maskL [true]) (fb_l_shut ))) :=
  fn_io D_l_shut.F sc_l_shut (fun i hi => maskL_lt hi) fun cdv A outer s H E hr =>
  (qss_cons (qs_unpack (is := [1, 2, 3, 4]) rfl (pgs_cons (pg_name (i := 1) sc_l_shut.nd rfl (by first | exact Or.inl rfl | exact Or.inr rfl)) (pgs_cons (pg_name (i := 2) sc_l_shut.nd rfl (by first | exact Or.inl rfl | exact Or.inr rfl)) (pgs_cons (pg_name (i := 3) sc_l_shut.nd rfl (by first | exact Or.inl rfl | exact Or.inr rfl)) (pgs_cons (pg_name (i := 4) sc_l_shut.nd rfl (by first | exact Or.inl rfl | exact Or.inr rfl)) pgs_nil)))) (qe_pop (j := 0) rfl (qpath_name 0)) (fun j hj => by simp only [List.mem_cons, List.not_mem_nil, or_false] at hj; rcases hj with rfl | rfl | rfl | rfl <;> exact ⟨rfl, rfl⟩))
  (qss_cons (qs_set 3 sc_l_shut.nd rfl (by first | exact Or.inl rfl | exact Or.inr rfl) rfl rfl (QP.e (qp_op o_add (qv_name 3) (QP.v (qp_lst (qpa_cons (qp_callTy c_tuple rfl z_tuple boot_tuple (qva_cons (qv_name 4) qva_nil)) qpa_nil))))))
  (qss_cons (qs_if (QT.e (qt_w (qw_and (qt_cmp (o_eq (Room.units hr)) (qv_name 1) (QP.v qp_str) (nomark _)) (qw_and1 (qt_cmp (o_lt (Room.units0 hr)) (QP.v (qp_callB c_len rfl z_len boot_len (qva_cons (qv_name 3) qva_nil))) (QP.v qp_int) (nomark _))))))
   (qss_one (qs_set 3 sc_l_shut.nd rfl (by first | exact Or.inl rfl | exact Or.inr rfl) rfl rfl (QP.e (qp_op o_add (qv_name 3) (QP.v (qp_lst (qpa_cons (qp_tup (qpa_cons (qp_tup (qpa_cons qp_str (qpa_cons qp_str qpa_nil))) qpa_nil)) qpa_nil)))))))
   qss_nil)
  (qss_cons (qs_set 5 sc_l_shut.nd rfl (by first | exact Or.inl rfl | exact Or.inr rfl) rfl rfl (QP.e (qp_tup (qpa_cons qp_str (qpa_cons (QV.p (qv_ix (qv_name 3) (QP.v qp_int))) qpa_nil)))))
  (qss_cons (qs_if (QT.e (qt_cmp (o_eq (Room.units hr)) (qv_name 1) (QP.v qp_str) (nomark _)))
   (qss_one (qs_set 5 sc_l_shut.nd rfl (by first | exact Or.inl rfl | exact Or.inr rfl) rfl rfl (QP.e (qp_tup (qpa_cons qp_str (qpa_cons (QV.p (qv_name 2)) (qpa_cons (QV.p (qv_ix (qv_name 3) (QP.v qp_int))) qpa_nil)))))))
   qss_nil)
  (qss_cons (qs_if (QT.e (qt_cmp (o_eq (Room.units hr)) (qv_name 1) (QP.v qp_str) (nomark _)))
   (qss_one (qs_set 5 sc_l_shut.nd rfl (by first | exact Or.inl rfl | exact Or.inr rfl) rfl rfl (QP.e (qp_tup (qpa_cons qp_str (qpa_cons (qp_callTy c_tuple rfl z_tuple boot_tuple (qva_cons (qv_name 3) qva_nil)) qpa_nil))))))
   qss_nil)
  (qss_one (qs_expr (qe_append (j := 0) rfl (qpath_ix (qpath_ix (qpath_name 0) (QP.v (qp_neg (QP.v qp_int)))) (QP.v qp_int)) (qpa_cons (QV.p (qv_name 5)) qpa_nil))))))))))
def fb_l_row (g_l_mixed : (List D → Option D)) (g_l_shut : (List D → Option (D × List D))) (g_l_leaf : (List D → Option D)) : PSt → Option (Fl × PSt) :=
  (fSeq (fSet 4 (fPure (fLst (fCons (fLst (fCons (fC (.str "top")) (fCons (fC (.int 0)) (fCons (fLst fNil) (fCons (fLst fNil) fNil))))) fNil))))
  (fSeq (fFor 5 (fRng2 (fCons (fVar 1) (fCons (f2 dAdd (fVar 1) (fVar 2)) fNil)))
   (fSeq (fSet 6 (fPure (fCall g_l_mixed (fCons (fVar 0) (fCons (fVar 5) (fCons (fC (.int 31)) fNil))))))
  (fSeq (fSet 7 (fPure (f2 dMod (fVar 6) (fC (.int 13)))))
  (fSeq (fSet 8 (fPure (fImm (f2 dIx (f2 dIx (fVar 4) (fNeg (fC (.int 1)))) (fC (.int 0))))))
  (fIf (fTPure (tAndF (fB (f2 dLt (fVar 7) (fC (.int 4)))) (fB (f2 dLe (fCall dLen (fCons (fVar 4) fNil)) (fVar 3)))))
   (fSeq (fSet 9 (fPure (f2 dIx (fLst (fKs [.str "group", .str "group", .str "hang", .str "either"])) (fVar 7))))
  (fExpr (fMut 4 fPNil (fCons (fLst (fCons (fImm (fVar 9)) (fCons (f2 dIx (fLst (fCons (fC (.int 1)) (fCons (fC (.int 2)) (fCons (fC (.int 4)) (fCons (f2 dMod (f2 dDiv (fVar 6) (fC (.int 13))) (fC (.int 13))) fNil))))) (f2 dMod (f2 dDiv (fVar 6) (fC (.int 169))) (fC (.int 4)))) (fCons (fLst fNil) (fCons (fLst fNil) fNil))))) fNil) hAppend)))
   (fIf (fTPure (tAndF (fB (f2 dEq (fVar 7) (fC (.int 4)))) (fB (f2 dGt (fCall dLen (fCons (fVar 4) fNil)) (fC (.int 1))))))
   (fExpr (fIO [.io 4] g_l_shut))
   (fIf (fTPure (tAndF (fB (f2 dLt (fVar 7) (fC (.int 7)))) (tAndF (fB (f2 dEq (fVar 8) (fC (.str "either")))) (fB (f2 dLt (fCall dLen (fCons (f2 dIx (f2 dIx (fVar 4) (fNeg (fC (.int 1)))) (fC (.int 2))) fNil)) (fC (.int 3)))))))
   (fSeq (fExpr (fMut 4 (fPIx 4 (fPIx 4 fPNil (fNeg (fC (.int 1)))) (fC (.int 2))) (fCons (fCall dTuple (fCons (f2 dIx (f2 dIx (fVar 4) (fNeg (fC (.int 1)))) (fC (.int 3))) fNil)) fNil) hAppend))
  (fSetIx 4 (fPIx 4 fPNil (fNeg (fC (.int 1)))) (fC (.int 3)) (fLst fNil)))
   (fExpr (fMut 4 (fPIx 4 (fPIx 4 fPNil (fNeg (fC (.int 1)))) (fC (.int 3))) (fCons (fCall g_l_leaf (fCons (fCall g_l_mixed (fCons (fVar 0) (fCons (fVar 5) (fCons (fC (.int 32)) fNil)))) fNil)) fNil) hAppend)))))))))
  (fSeq (fWhile (fTPure (fB (f2 dGt (fCall dLen (fCons (fVar 4) fNil)) (fC (.int 1)))))
   (fExpr (fIO [.io 4] g_l_shut)) 400)
  (fRet (fPure (fCall dTuple (fCons (f2 dIx (f2 dIx (fVar 4) (fC (.int 0))) (fC (.int 3))) fNil)))))))
abbrev st_l_row : Stmt := top 18
theorem sc_l_row : FnScope ["_law_script", "_law_at", "_law_many", "_law_nest", "_law_frames", "_law_k", "_law_number", "_law_way", "_law_kind", "_law_new"] ["_law_script", "_law_at", "_law_many", "_law_nest"] (defScope st_l_row) := ⟨rfl, rfl, rfl, by decide +kernel, rfl, by decide +kernel, by decide +kernel⟩
theorem ok_l_row {n : Nat} {f : Addr} {fd : FuncData} {g_l_mixed : (List D → Option D)} {f_l_mixed : Addr} {fd_l_mixed : FuncData} {g_l_shut : (List D → Option (D × List D))} {f_l_shut : Addr} {fd_l_shut : FuncData} {g_l_leaf : (List D → Option D)} {f_l_leaf : Addr} {fd_l_leaf : FuncData} (D_l_row : Dn K mg "_law_row" st_l_row ["_law_script", "_law_at", "_law_many", "_law_nest"] f fd)
    (D_l_mixed : Dn K mg "_law_mixed" st_l_mixed ["_law_script", "_law_k", "_law_salt"] f_l_mixed fd_l_mixed) (G_l_mixed : FnOk P w K mg base CX0 n f_l_mixed fd_l_mixed ["_law_script", "_law_k", "_law_salt"] (SpP 3 K κ g_l_mixed))
    (D_l_shut : Dn K mg "_law_shut" st_l_shut ["_law_frames"] f_l_shut fd_l_shut) (G_l_shut : FnOk P w K mg base CX0 n f_l_shut fd_l_shut ["_law_frames"] (SpE 1 K κ (maskL [true]) g_l_shut))
    (D_l_leaf : Dn K mg "_law_leaf" st_l_leaf ["_law_number"] f_l_leaf fd_l_leaf) (G_l_leaf : FnOk P w K mg base CX0 n f_l_leaf fd_l_leaf ["_law_number"] (SpP 1 K κ g_l_leaf))
    (z_range : mg "range" = none)
    (z_tuple : mg "tuple" = none)
    (z_len : mg "len" = none) :
    FnOk P w K mg base CX0 (n + 1) f fd ["_law_script", "_law_at", "_law_many", "_law_nest"] (SpP 4 K κ (gP 4 6 (fb_l_row g_l_mixed g_l_shut g_l_leaf))) :=
  fn_pure D_l_row.F sc_l_row fun cdv A outer s H E B hr =>
  (qss_cons (qs_set 4 sc_l_row.nd rfl (by first | exact Or.inl rfl | exact Or.inr rfl) rfl rfl (QP.e (qp_lst (qpa_cons (qp_lst (qpa_cons qp_str (qpa_cons qp_int (qpa_cons (qp_lst qpa_nil) (qpa_cons (qp_lst qpa_nil) qpa_nil))))) qpa_nil))))
  (qss_cons (qs_for 5 PassesOwn.never rfl sc_l_row.nd rfl (by first | exact Or.inl rfl | exact Or.inr rfl) rfl rfl (qi_range2 rfl z_range (qva_cons (qv_name 1) (qva_cons (QP.v (qp_op o_add (qv_name 1) (qv_name 2))) qva_nil)))
   (qss_cons (qs_set 6 sc_l_row.nd rfl (by first | exact Or.inl rfl | exact Or.inr rfl) rfl rfl (QP.e (qp_fn D_l_mixed G_l_mixed hr rfl rfl (qva_cons (qv_name 0) (qva_cons (qv_name 5) (qva_cons (QP.v qp_int) qva_nil))) (len_cons (len_cons (len_cons len_nil))))))
  (qss_cons (qs_set 7 sc_l_row.nd rfl (by first | exact Or.inl rfl | exact Or.inr rfl) rfl rfl (QP.e (qp_op o_mod (qv_name 6) (QP.v qp_int))))
  (qss_cons (qs_set 8 sc_l_row.nd rfl (by first | exact Or.inl rfl | exact Or.inr rfl) rfl rfl (QP.e (QV.p (qv_ix (qv_ix (qv_name 4) (QP.v (qp_neg (QP.v qp_int)))) (QP.v qp_int)))))
  (qss_one (qs_if (QT.e (qt_w (qw_and (qt_cmp (o_lt (Room.units0 hr)) (qv_name 7) (QP.v qp_int) (nomark _)) (qw_and1 (qt_cmp o_le (QP.v (qp_callB c_len rfl z_len boot_len (qva_cons (qv_name 4) qva_nil))) (qv_name 3) (nomark _))))))
   (qss_cons (qs_set 9 sc_l_row.nd rfl (by first | exact Or.inl rfl | exact Or.inr rfl) rfl rfl (QP.e (qp_ix (qp_lst (qpa_consts (.str (.str (.str (.str .nil)))))) (qv_name 7))))
  (qss_one (qs_expr (qe_append (j := 4) rfl (qpath_name 4) (qpa_cons (qp_lst (qpa_cons (QV.p (qv_name 9)) (qpa_cons (qp_ix (qp_lst (qpa_cons qp_int (qpa_cons qp_int (qpa_cons qp_int (qpa_cons (qp_op o_mod (QP.v (qp_op o_div (qv_name 6) (QP.v qp_int))) (QP.v qp_int)) qpa_nil))))) (QP.v (qp_op o_mod (QP.v (qp_op o_div (qv_name 6) (QP.v qp_int))) (QP.v qp_int)))) (qpa_cons (qp_lst qpa_nil) (qpa_cons (qp_lst qpa_nil) qpa_nil))))) qpa_nil)))))
   (qss_one (qs_if (QT.e (qt_w (qw_and (qt_cmp (o_eq (Room.units hr)) (qv_name 7) (QP.v qp_int) (nomark _)) (qw_and1 (qt_cmp o_gt (QP.v (qp_callB c_len rfl z_len boot_len (qva_cons (qv_name 4) qva_nil))) (QP.v qp_int) (nomark _))))))
   (qss_one (qs_expr (qe_fn D_l_shut G_l_shut hr rfl (qio_io 4 qio_nil) rfl (maskL_isIo rfl) (show List.Nodup ([4] : List Nat) by decide) (fun j hj => by have h : j ∈ ([4] : List Nat) := hj; simp only [List.mem_cons, List.not_mem_nil, or_false] at h; rcases h with rfl <;> rfl))))
   (qss_one (qs_if (QT.e (qt_w (qw_and (qt_cmp (o_lt (Room.units0 hr)) (qv_name 7) (QP.v qp_int) (nomark _)) (qw_and (qt_cmp (o_eq (Room.units hr)) (qv_name 8) (QP.v qp_str) (nomark _)) (qw_and1 (qt_cmp (o_lt (Room.units0 hr)) (QP.v (qp_callB c_len rfl z_len boot_len (qva_cons (qv_ix (qv_ix (qv_name 4) (QP.v (qp_neg (QP.v qp_int)))) (QP.v qp_int)) qva_nil))) (QP.v qp_int) (nomark _)))))))
   (qss_cons (qs_expr (qe_append (j := 4) rfl (qpath_ix (qpath_ix (qpath_name 4) (QP.v (qp_neg (QP.v qp_int)))) (QP.v qp_int)) (qpa_cons (qp_callTy c_tuple rfl z_tuple boot_tuple (qva_cons (qv_ix (qv_ix (qv_name 4) (QP.v (qp_neg (QP.v qp_int)))) (QP.v qp_int)) qva_nil)) qpa_nil)))
  (qss_one (qs_setix (j := 4) rfl (qp_lst qpa_nil) (qpath_ix (qpath_name 4) (QP.v (qp_neg (QP.v qp_int)))) (QP.v qp_int))))
   (qss_one (qs_expr (qe_append (j := 4) rfl (qpath_ix (qpath_ix (qpath_name 4) (QP.v (qp_neg (QP.v qp_int)))) (QP.v qp_int)) (qpa_cons (qp_fn D_l_leaf G_l_leaf hr rfl rfl (qva_cons (QP.v (qp_fn D_l_mixed G_l_mixed hr rfl rfl (qva_cons (qv_name 0) (qva_cons (qv_name 5) (qva_cons (QP.v qp_int) qva_nil))) (len_cons (len_cons (len_cons len_nil))))) qva_nil) (len_cons len_nil)) qpa_nil))))))))))))))
  (qss_cons (qs_while 400 PassesOwn.never (QT.e (qt_cmp o_gt (QP.v (qp_callB c_len rfl z_len boot_len (qva_cons (qv_name 4) qva_nil))) (QP.v qp_int) (nomark _)))
   (qss_one (qs_expr (qe_fn D_l_shut G_l_shut hr rfl (qio_io 4 qio_nil) rfl (maskL_isIo rfl) (show List.Nodup ([4] : List Nat) by decide) (fun j hj => by have h : j ∈ ([4] : List Nat) := hj; simp only [List.mem_cons, List.not_mem_nil, or_false] at h; rcases h with rfl <;> rfl)))))
  (qss_one (qs_ret (QP.e (qp_callTy c_tuple rfl z_tuple boot_tuple (qva_cons (qv_ix (qv_ix (qv_name 4) (QP.v qp_int)) (QP.v qp_int)) qva_nil))))))))
def fb_l_listed (g_l_listed : (List D → Option D)) : PSt → Option (Fl × PSt) :=
  (fSeq (fSet 1 (fPure (fLst fNil)))
  (fSeq (fFor 2 (fSeqI (fVar 0))
   (fSeq (fIf (fTPure (fB (f2 dEq (f2 dIx (fVar 2) (fC (.int 0))) (fC (.str "word")))))
   (fExpr (fMut 1 fPNil (fCons (f2 dAdd (fC (.str "'")) (f2 dIx (fVar 2) (fC (.int 1)))) fNil) hAppend))
   fSkip)
  (fSeq (fIf (fTPure (fB (f2 dEq (f2 dIx (fVar 2) (fC (.int 0))) (fC (.str "gap")))))
   (fExpr (fMut 1 fPNil (fCons (f2 dIx (fLst (fCons (fC (.str "_")) (fCons (fC (.str ".")) fNil))) (fCall dInt1 (fCons (f2 dEq (f2 dIx (fVar 2) (fC (.int 1))) (fC (.str ""))) fNil))) fNil) hAppend))
   fSkip)
  (fSeq (fIf (fTPure (fB (f2 dEq (f2 dIx (fVar 2) (fC (.int 0))) (fC (.str "end")))))
   (fExpr (fMut 1 fPNil (fCons (fC (.str "/")) fNil) hAppend))
   fSkip)
  (fSeq (fIf (fTPure (fB (f2 dEq (f2 dIx (fVar 2) (fC (.int 0))) (fC (.str "stop")))))
   (fExpr (fMut 1 fPNil (fCons (f2 dAdd (fC (.str "\x40")) (fCall dStr1 (fCons (f2 dIx (fVar 2) (fC (.int 1))) fNil))) fNil) hAppend))
   fSkip)
  (fSeq (fIf (fTPure (fB (f2 dEq (f2 dIx (fVar 2) (fC (.int 0))) (fC (.str "group")))))
   (fSet 1 (fPure (f2 dAdd (f2 dAdd (f2 dAdd (fVar 1) (fLst (fCons (fC (.str "[")) fNil))) (fCall g_l_listed (fCons (f2 dIx (fVar 2) (fC (.int 1))) fNil))) (fLst (fCons (fC (.str "]")) fNil)))))
   fSkip)
  (fSeq (fIf (fTPure (fB (f2 dEq (f2 dIx (fVar 2) (fC (.int 0))) (fC (.str "hang")))))
   (fSet 1 (fPure (f2 dAdd (f2 dAdd (f2 dAdd (fVar 1) (fLst (fCons (f2 dAdd (fC (.str ">")) (fCall dStr1 (fCons (f2 dIx (fVar 2) (fC (.int 1))) fNil))) fNil))) (fCall g_l_listed (fCons (f2 dIx (fVar 2) (fC (.int 2))) fNil))) (fLst (fCons (fC (.str "<")) fNil)))))
   fSkip)
  (fIf (fTPure (fB (f2 dEq (f2 dIx (fVar 2) (fC (.int 0))) (fC (.str "either")))))
   (fSeq (fFor 3 (fRng1 (fCons (fCall dLen (fCons (f2 dIx (fVar 2) (fC (.int 1))) fNil)) fNil))
   (fSet 1 (fPure (f2 dAdd (f2 dAdd (fVar 1) (fLst (fCons (f2 dIx (fLst (fCons (fC (.str "{")) (fCons (fC (.str "|")) fNil))) (fCall dInt1 (fCons (f2 dGt (fVar 3) (fC (.int 0))) fNil))) fNil))) (fCall g_l_listed (fCons (f2 dIx (f2 dIx (fVar 2) (fC (.int 1))) (fVar 3)) fNil))))))
  (fExpr (fMut 1 fPNil (fCons (fC (.str "}")) fNil) hAppend)))
   fSkip))))))))
  (fRetL 1)))
abbrev st_l_listed : Stmt := top 19
theorem sc_l_listed : FnScope ["_law_row_here", "_law_signs", "_law_piece", "_law_k"] ["_law_row_here"] (defScope st_l_listed) := ⟨rfl, rfl, rfl, by decide +kernel, rfl, by decide +kernel, by decide +kernel⟩
theorem ok_l_listed {n : Nat} {f : Addr} {fd : FuncData} {g_l_listed : (List D → Option D)} (D_l_listed : Dn K mg "_law_listed" st_l_listed ["_law_row_here"] f fd)
    (G_l_listed : FnOk P w K mg base CX0 n f fd ["_law_row_here"] (SpP 1 K κ g_l_listed))
    (z_range : mg "range" = none)
    (z_len : mg "len" = none)
    (z_int : mg "int" = none)
    (z_str : mg "str" = none) :
    FnOk P w K mg base CX0 (n + 1) f fd ["_law_row_here"] (SpP 1 K κ (gP 1 3 (fb_l_listed g_l_listed))) :=
  fn_pure D_l_listed.F sc_l_listed fun cdv A outer s H E B hr =>
  (qss_cons (qs_set 1 sc_l_listed.nd rfl (by first | exact Or.inl rfl | exact Or.inr rfl) rfl rfl (QP.e (qp_lst qpa_nil)))
  (qss_cons (qs_forB 2 0 PassesOwn.never rfl sc_l_listed.nd rfl (by first | exact Or.inl rfl | exact Or.inr rfl) rfl rfl rfl
   (qss_cons (qs_if (QT.e (qt_cmp (o_eq (Room.units hr)) (qv_ix (qv_name 2) (QP.v qp_int)) (QP.v qp_str) (nomark _)))
   (qss_one (qs_expr (qe_append (j := 1) rfl (qpath_name 1) (qpa_cons (qp_op o_add (QP.v qp_str) (qv_ix (qv_name 2) (QP.v qp_int))) qpa_nil))))
   qss_nil)
  (qss_cons (qs_if (QT.e (qt_cmp (o_eq (Room.units hr)) (qv_ix (qv_name 2) (QP.v qp_int)) (QP.v qp_str) (nomark _)))
   (qss_one (qs_expr (qe_append (j := 1) rfl (qpath_name 1) (qpa_cons (qp_ix (qp_lst (qpa_cons qp_str (qpa_cons qp_str qpa_nil))) (QP.v (qp_callTy c_int rfl z_int boot_int (qva_cons (QP.v (qp_cmp (o_eq (Room.units hr)) (qv_ix (qv_name 2) (QP.v qp_int)) (QP.v qp_str) (nomark _))) qva_nil)))) qpa_nil))))
   qss_nil)
  (qss_cons (qs_if (QT.e (qt_cmp (o_eq (Room.units hr)) (qv_ix (qv_name 2) (QP.v qp_int)) (QP.v qp_str) (nomark _)))
   (qss_one (qs_expr (qe_append (j := 1) rfl (qpath_name 1) (qpa_cons qp_str qpa_nil))))
   qss_nil)
  (qss_cons (qs_if (QT.e (qt_cmp (o_eq (Room.units hr)) (qv_ix (qv_name 2) (QP.v qp_int)) (QP.v qp_str) (nomark _)))
   (qss_one (qs_expr (qe_append (j := 1) rfl (qpath_name 1) (qpa_cons (qp_op o_add (QP.v qp_str) (QP.v (qp_callTy c_str rfl z_str boot_str (qva_cons (qv_ix (qv_name 2) (QP.v qp_int)) qva_nil)))) qpa_nil))))
   qss_nil)
  (qss_cons (qs_if (QT.e (qt_cmp (o_eq (Room.units hr)) (qv_ix (qv_name 2) (QP.v qp_int)) (QP.v qp_str) (nomark _)))
   (qss_one (qs_set 1 sc_l_listed.nd rfl (by first | exact Or.inl rfl | exact Or.inr rfl) rfl rfl (QP.e (qp_op o_add (QP.v (qp_op o_add (QP.v (qp_op o_add (qv_name 1) (QP.v (qp_lst (qpa_cons qp_str qpa_nil))))) (QP.v (qp_fn D_l_listed G_l_listed hr rfl rfl (qva_cons (qv_ix (qv_name 2) (QP.v qp_int)) qva_nil) (len_cons len_nil))))) (QP.v (qp_lst (qpa_cons qp_str qpa_nil)))))))
   qss_nil)
  (qss_cons (qs_if (QT.e (qt_cmp (o_eq (Room.units hr)) (qv_ix (qv_name 2) (QP.v qp_int)) (QP.v qp_str) (nomark _)))
   (qss_one (qs_set 1 sc_l_listed.nd rfl (by first | exact Or.inl rfl | exact Or.inr rfl) rfl rfl (QP.e (qp_op o_add (QP.v (qp_op o_add (QP.v (qp_op o_add (qv_name 1) (QP.v (qp_lst (qpa_cons (qp_op o_add (QP.v qp_str) (QP.v (qp_callTy c_str rfl z_str boot_str (qva_cons (qv_ix (qv_name 2) (QP.v qp_int)) qva_nil)))) qpa_nil))))) (QP.v (qp_fn D_l_listed G_l_listed hr rfl rfl (qva_cons (qv_ix (qv_name 2) (QP.v qp_int)) qva_nil) (len_cons len_nil))))) (QP.v (qp_lst (qpa_cons qp_str qpa_nil)))))))
   qss_nil)
  (qss_one (qs_if (QT.e (qt_cmp (o_eq (Room.units hr)) (qv_ix (qv_name 2) (QP.v qp_int)) (QP.v qp_str) (nomark _)))
   (qss_cons (qs_for 3 PassesOwn.never rfl sc_l_listed.nd rfl (by first | exact Or.inl rfl | exact Or.inr rfl) rfl rfl (qi_range1 rfl z_range (qva_cons (QP.v (qp_callB c_len rfl z_len boot_len (qva_cons (qv_ix (qv_name 2) (QP.v qp_int)) qva_nil))) qva_nil))
   (qss_one (qs_set 1 sc_l_listed.nd rfl (by first | exact Or.inl rfl | exact Or.inr rfl) rfl rfl (QP.e (qp_op o_add (QP.v (qp_op o_add (qv_name 1) (QP.v (qp_lst (qpa_cons (qp_ix (qp_lst (qpa_cons qp_str (qpa_cons qp_str qpa_nil))) (QP.v (qp_callTy c_int rfl z_int boot_int (qva_cons (QP.v (qp_cmp o_gt (qv_name 3) (QP.v qp_int) (nomark _))) qva_nil)))) qpa_nil))))) (QP.v (qp_fn D_l_listed G_l_listed hr rfl rfl (qva_cons (qv_ix (qv_ix (qv_name 2) (QP.v qp_int)) (qv_name 3)) qva_nil) (len_cons len_nil))))))))
  (qss_one (qs_expr (qe_append (j := 1) rfl (qpath_name 1) (qpa_cons qp_str qpa_nil)))))
   qss_nil)))))))))
  (qss_one (qs_retL 1 rfl))))
def fb_l_some (g_l_mixed : (List D → Option D)) (g_l_leaf : (List D → Option D)) (g_l_row : (List D → Option D)) : PSt → Option (Fl × PSt) :=
  (fSeq (fSet 1 (fPure (fCall g_l_mixed (fCons (fVar 0) (fCons (fC (.int 0)) (fCons (fC (.int 40)) fNil))))))
  (fSeq (fIf (fTPure (fB (f2 dEq (f2 dMod (fVar 1) (fC (.int 8))) (fC (.int 1)))))
   (fRet (fPure (fCall dTuple (fCons (fComp [none, some 0] (fRng1 (fCons (f2 dAdd (fC (.int 60)) (f2 dMod (f2 dDiv (fVar 1) (fC (.int 8))) (fC (.int 141)))) fNil)) fYes (fCall g_l_leaf (fCons (fCall g_l_mixed (fCons (fVar 1) (fCons (fVar 0) (fCons (fC (.int 41)) fNil)))) fNil))) fNil))))
   fSkip)
  (fSeq (fSet 2 (fPure (fCall g_l_row (fCons (fVar 0) (fCons (fC (.int 0)) (fCons (fCall dMin2 (fCons (f2 dAdd (fCall dLen (fCons (fVar 0) fNil)) (fC (.int 3))) (fCons (fC (.int 40)) fNil))) (fCons (fC (.int 3)) fNil)))))))
  (fSeq (fIf (fTPure (fB (f2 dEq (f2 dMod (fVar 1) (fC (.int 8))) (fC (.int 3)))))
   (fFor 3 (fRng1 (fCons (f2 dAdd (fC (.int 3)) (f2 dMod (f2 dDiv (fVar 1) (fC (.int 8))) (fC (.int 7)))) fNil))
   (fSeq (fSet 4 (fPure (f2 dMod (fCall g_l_mixed (fCons (fVar 0) (fCons (fVar 3) (fCons (fC (.int 42)) fNil)))) (fC (.int 4)))))
  (fIf (fTPure (fB (f2 dEq (fVar 4) (fC (.int 0)))))
   (fSet 2 (fPure (fTup (fCons (fTup (fCons (fC (.str "hang")) (fCons (f2 dMod (fCall g_l_mixed (fCons (fVar 0) (fCons (fVar 3) (fCons (fC (.int 43)) fNil)))) (fC (.int 13))) (fCons (fImm (fVar 2)) fNil)))) fNil))))
   (fIf (fTPure (fB (f2 dEq (fVar 4) (fC (.int 1)))))
   (fSet 2 (fPure (fTup (fCons (fTup (fCons (fC (.str "either")) (fCons (fTup (fCons (fImm (fVar 2)) (fCons (fTup (fCons (fTup (fCons (fC (.str "end")) fNil)) fNil)) fNil))) fNil))) fNil))))
   (fSet 2 (fPure (fTup (fCons (fTup (fCons (fC (.str "group")) (fCons (fImm (fVar 2)) fNil))) fNil))))))))
   fSkip)
  (fRetL 2)))))
abbrev st_l_some : Stmt := top 20
theorem sc_l_some : FnScope ["_law_script", "_law_number", "_law_row_here", "_law_k", "_law_way"] ["_law_script"] (defScope st_l_some) := ⟨rfl, rfl, rfl, by decide +kernel, rfl, by decide +kernel, by decide +kernel⟩
theorem ok_l_some {n : Nat} {f : Addr} {fd : FuncData} {g_l_mixed : (List D → Option D)} {f_l_mixed : Addr} {fd_l_mixed : FuncData} {g_l_leaf : (List D → Option D)} {f_l_leaf : Addr} {fd_l_leaf : FuncData} {g_l_row : (List D → Option D)} {f_l_row : Addr} {fd_l_row : FuncData} (D_l_some : Dn K mg "_law_some" st_l_some ["_law_script"] f fd)
    (D_l_mixed : Dn K mg "_law_mixed" st_l_mixed ["_law_script", "_law_k", "_law_salt"] f_l_mixed fd_l_mixed) (G_l_mixed : FnOk P w K mg base CX0 n f_l_mixed fd_l_mixed ["_law_script", "_law_k", "_law_salt"] (SpP 3 K κ g_l_mixed))
    (D_l_leaf : Dn K mg "_law_leaf" st_l_leaf ["_law_number"] f_l_leaf fd_l_leaf) (G_l_leaf : FnOk P w K mg base CX0 n f_l_leaf fd_l_leaf ["_law_number"] (SpP 1 K κ g_l_leaf))
    (D_l_row : Dn K mg "_law_row" st_l_row ["_law_script", "_law_at", "_law_many", "_law_nest"] f_l_row fd_l_row) (G_l_row : FnOk P w K mg base CX0 n f_l_row fd_l_row ["_law_script", "_law_at", "_law_many", "_law_nest"] (SpP 4 K κ g_l_row))
    (z_tuple : mg "tuple" = none)
    (z_min : mg "min" = none)
    (z_range : mg "range" = none)
    (z_len : mg "len" = none) :
    FnOk P w K mg base CX0 (n + 1) f fd ["_law_script"] (SpP 1 K κ (gP 1 4 (fb_l_some g_l_mixed g_l_leaf g_l_row))) :=
  fn_pure D_l_some.F sc_l_some fun cdv A outer s H E B hr =>
  (qss_cons (qs_set 1 sc_l_some.nd rfl (by first | exact Or.inl rfl | exact Or.inr rfl) rfl rfl (QP.e (qp_fn D_l_mixed G_l_mixed hr rfl rfl (qva_cons (qv_name 0) (qva_cons (QP.v qp_int) (qva_cons (QP.v qp_int) qva_nil))) (len_cons (len_cons (len_cons len_nil))))))
  (qss_cons (qs_if (QT.e (qt_cmp (o_eq (Room.units hr)) (QP.v (qp_op o_mod (qv_name 1) (QP.v qp_int))) (QP.v qp_int) (nomark _)))
   (qss_one (qs_ret (QP.e (qp_callTy c_tuple rfl z_tuple boot_tuple (qva_cons (QP.v (qp_comp (sc := defScope st_l_some) (NX := ["_law_script", "_law_number", "_law_row_here", "_law_k", "_law_way"]) (N := ["_law_k", "_law_script"]) (pick := [none, some 0]) ⟨rfl, by decide +kernel, by decide +kernel, by decide +kernel, by decide +kernel, by decide, rfl⟩ rfl rfl rfl (QIP.v (qi_range1 rfl z_range (qva_cons (QP.v (qp_op o_add (QP.v qp_int) (QP.v (qp_op o_mod (QP.v (qp_op o_div (qv_name 1) (QP.v qp_int))) (QP.v qp_int))))) qva_nil))) (fun _ _ _ _ => (pg_name (i := 0) (show (["_law_k", "_law_script"] : List Str).Nodup by decide) rfl (by first | exact Or.inl rfl | exact Or.inr rfl))) (fun _ _ _ _ => qts_nil) (fun _ _ _ _ => (qp_fn D_l_leaf G_l_leaf hr rfl rfl (qva_cons (QP.v (qp_fn D_l_mixed G_l_mixed hr rfl rfl (qva_cons (qv_name 1) (qva_cons (qv_name 0) (qva_cons (QP.v qp_int) qva_nil))) (len_cons (len_cons (len_cons len_nil))))) qva_nil) (len_cons len_nil))))) qva_nil)))))
   qss_nil)
  (qss_cons (qs_set 2 sc_l_some.nd rfl (by first | exact Or.inl rfl | exact Or.inr rfl) rfl rfl (QP.e (qp_fn D_l_row G_l_row hr rfl rfl (qva_cons (qv_name 0) (qva_cons (QP.v qp_int) (qva_cons (QP.v (qp_callB (c_min2 rfl) rfl z_min boot_min (qva_cons (QP.v (qp_op o_add (QP.v (qp_callB c_len rfl z_len boot_len (qva_cons (qv_name 0) qva_nil))) (QP.v qp_int))) (qva_cons (QP.v qp_int) qva_nil)))) (qva_cons (QP.v qp_int) qva_nil)))) (len_cons (len_cons (len_cons (len_cons len_nil)))))))
  (qss_cons (qs_if (QT.e (qt_cmp (o_eq (Room.units hr)) (QP.v (qp_op o_mod (qv_name 1) (QP.v qp_int))) (QP.v qp_int) (nomark _)))
   (qss_one (qs_for 3 PassesOwn.never rfl sc_l_some.nd rfl (by first | exact Or.inl rfl | exact Or.inr rfl) rfl rfl (qi_range1 rfl z_range (qva_cons (QP.v (qp_op o_add (QP.v qp_int) (QP.v (qp_op o_mod (QP.v (qp_op o_div (qv_name 1) (QP.v qp_int))) (QP.v qp_int))))) qva_nil))
   (qss_cons (qs_set 4 sc_l_some.nd rfl (by first | exact Or.inl rfl | exact Or.inr rfl) rfl rfl (QP.e (qp_op o_mod (QP.v (qp_fn D_l_mixed G_l_mixed hr rfl rfl (qva_cons (qv_name 0) (qva_cons (qv_name 3) (qva_cons (QP.v qp_int) qva_nil))) (len_cons (len_cons (len_cons len_nil))))) (QP.v qp_int))))
  (qss_one (qs_if (QT.e (qt_cmp (o_eq (Room.units hr)) (qv_name 4) (QP.v qp_int) (nomark _)))
   (qss_one (qs_set 2 sc_l_some.nd rfl (by first | exact Or.inl rfl | exact Or.inr rfl) rfl rfl (QP.e (qp_tup (qpa_cons (qp_tup (qpa_cons qp_str (qpa_cons (qp_op o_mod (QP.v (qp_fn D_l_mixed G_l_mixed hr rfl rfl (qva_cons (qv_name 0) (qva_cons (qv_name 3) (qva_cons (QP.v qp_int) qva_nil))) (len_cons (len_cons (len_cons len_nil))))) (QP.v qp_int)) (qpa_cons (QV.p (qv_name 2)) qpa_nil)))) qpa_nil)))))
   (qss_one (qs_if (QT.e (qt_cmp (o_eq (Room.units hr)) (qv_name 4) (QP.v qp_int) (nomark _)))
   (qss_one (qs_set 2 sc_l_some.nd rfl (by first | exact Or.inl rfl | exact Or.inr rfl) rfl rfl (QP.e (qp_tup (qpa_cons (qp_tup (qpa_cons qp_str (qpa_cons (qp_tup (qpa_cons (QV.p (qv_name 2)) (qpa_cons (qp_tup (qpa_cons (qp_tup (qpa_cons qp_str qpa_nil)) qpa_nil)) qpa_nil))) qpa_nil))) qpa_nil)))))
   (qss_one (qs_set 2 sc_l_some.nd rfl (by first | exact Or.inl rfl | exact Or.inr rfl) rfl rfl (QP.e (qp_tup (qpa_cons (qp_tup (qpa_cons qp_str (qpa_cons (QV.p (qv_name 2)) qpa_nil))) qpa_nil))))))))))))
   qss_nil)
  (qss_one (qs_retL 2 rfl))))))
def fb_law (g_l_some : (List D → Option D)) (g_p_written : (List D → Option D)) (g_l_listed : (List D → Option D)) : PSt → Option (Fl × PSt) :=
  (fSeq (fFor 1 (fSeqI (fLst (fCons (fCall g_l_some (fCons (fVar 0) fNil)) (fCons (fTup fNil) fNil))))
   (fSeq (fSet 2 (fPure (fCall g_p_written (fCons (fVar 1) fNil))))
  (fIf (fTPure (tOrF (tNotF (fT (fCall dIsi (fCons (fVar 2) (fCons (fC (.ty "str")) fNil))))) (fB (f2 dNe (fVar 2) (fMt dJoin (fC (.str " ")) (fCons (fCall g_l_listed (fCons (fVar 1) fNil)) fNil))))))
   (fRet (fPure (fC (.bl false))))
   fSkip)))
  (fRet (fPure (fC (.bl true)))))
abbrev st_law : Stmt := top 21
theorem sc_law : FnScope ["_law_script", "_law_row_here", "_law_found"] ["_law_script"] (defScope st_law) := ⟨rfl, rfl, rfl, by decide +kernel, rfl, by decide +kernel, by decide +kernel⟩
theorem ok_law {n : Nat} {f : Addr} {fd : FuncData} {g_l_some : (List D → Option D)} {f_l_some : Addr} {fd_l_some : FuncData} {g_p_written : (List D → Option D)} {f_p_written : Addr} {fd_p_written : FuncData} {g_l_listed : (List D → Option D)} {f_l_listed : Addr} {fd_l_listed : FuncData} (D_law : Dn K mg "law" st_law ["_law_script"] f fd)
    (D_l_some : Dn K mg "_law_some" st_l_some ["_law_script"] f_l_some fd_l_some) (G_l_some : FnOk P w K mg base CX0 n f_l_some fd_l_some ["_law_script"] (SpP 1 K κ g_l_some))
    (D_p_written : Dn K mg "written" st_p_written ["row"] f_p_written fd_p_written) (G_p_written : FnOk P w K mg base CX0 n f_p_written fd_p_written ["row"] (SpP 1 K κ g_p_written))
    (D_l_listed : Dn K mg "_law_listed" st_l_listed ["_law_row_here"] f_l_listed fd_l_listed) (G_l_listed : FnOk P w K mg base CX0 n f_l_listed fd_l_listed ["_law_row_here"] (SpP 1 K κ g_l_listed))
    (z_isinstance : mg "isinstance" = none)
    (z_str : mg "str" = none) :
    FnOk P w K mg base CX0 (n + 1) f fd ["_law_script"] (SpP 1 K κ (gP 1 2 (fb_law g_l_some g_p_written g_l_listed))) :=
  fn_pure D_law.F sc_law fun cdv A outer s H E B hr =>
  (qss_cons (qs_for 1 PassesOwn.never rfl sc_law.nd rfl (by first | exact Or.inl rfl | exact Or.inr rfl) rfl rfl (qi_new (qp_lst (qpa_cons (qp_fn D_l_some G_l_some hr rfl rfl (qva_cons (qv_name 0) qva_nil) (len_cons len_nil)) (qpa_cons (qp_tup qpa_nil) qpa_nil))))
   (qss_cons (qs_set 2 sc_law.nd rfl (by first | exact Or.inl rfl | exact Or.inr rfl) rfl rfl (QP.e (qp_fn D_p_written G_p_written hr rfl rfl (qva_cons (qv_name 1) qva_nil) (len_cons len_nil))))
  (qss_one (qs_if (QT.e (qt_w (qw_or (qt_not (qt_val (QP.v (qp_callB c_isi rfl z_isinstance boot_isinstance (qva_cons (qv_name 2) (qva_cons (QP.v (qp_ty rfl z_str boot_str)) qva_nil)))))) (qw_or1 (qt_cmp (o_ne (Room.units hr)) (qv_name 2) (QP.v (qp_ms PySem.F.slot_str_join PySem.F.type_str_join m_join (QP.v qp_str) (qva_cons (QP.v (qp_fn D_l_listed G_l_listed hr rfl rfl (qva_cons (qv_name 1) qva_nil) (len_cons len_nil))) qva_nil))) (nomark _))))))
   (qss_one (qs_ret (QP.e qp_bl)))
   qss_nil))))
  (qss_one (qs_ret (QP.e qp_bl))))
end L3
namespace My
open PySem PySem.Spec PyProof.Rows L2 L3
def leafD : Leaf → D
  | .word x => .tup [.str "word", .str x]
  | .gap x => .tup [.str "gap", .str x]
  | .stop c => .tup [.str "stop", .int c]
  | .fin => .tup [.str "end"]
def tkD : Tk → D
  | .leaf l => leafD l
  | .opn => .tup [.str "open"]
  | .cls => .tup [.str "close"]
  | .hng n => .tup [.str "hang", .int n]
  | .bck => .tup [.str "back"]
  | .eit => .tup [.str "either"]
  | .orr => .tup [.str "or"]
  | .don => .tup [.str "done"]
mutual
def pcD : Pc → D
  | .leaf l => leafD l
  | .group r => .tup [.str "group", .tup (pcsD r)]
  | .hang n r => .tup [.str "hang", .int n, .tup (pcsD r)]
  | .either rs => .tup [.str "either", .tup (rowsD rs)]
def pcsD : List Pc → List D
  | [] => []
  | p :: r => pcD p :: pcsD r
def rowsD : List (List Pc) → List D
  | [] => []
  | r :: rs => .tup (pcsD r) :: rowsD rs
end
def tksD (ts : List Tk) : List D := ts.map tkD
theorem tksD_app (a b : List Tk) : tksD (a ++ b) = tksD a ++ tksD b := by simp [tksD]
theorem tksD_len (a : List Tk) : (tksD a).length = a.length := by simp [tksD]
theorem leaf_imm (l : Leaf) : (leafD l).imm = true := by cases l <;> rfl
theorem tk_imm (t : Tk) : (tkD t).imm = true := by cases t <;> first | rfl | exact leaf_imm _
theorem imms_app : ∀ a b : List D, D.imms (a ++ b) = (D.imms a && D.imms b)
  | [], b => by simp [D.imms]
  | x :: a, b => by simp [D.imms, imms_app a b, Bool.and_assoc]
theorem tks_imm : ∀ ts : List Tk, D.imms (tksD ts) = true
  | [] => rfl
  | t :: ts => by show (D.imm (tkD t) && D.imms (tksD ts)) = true; rw [tk_imm, tks_imm ts]; rfl
mutual
theorem pc_imm : ∀ p : Pc, (pcD p).imm = true
  | .leaf l => leaf_imm l
  | .group r => by show (D.imm (.str "group") && (D.imm (.tup (pcsD r)) && D.imms [])) = true; rw [show D.imm (.tup (pcsD r)) = D.imms (pcsD r) from rfl, pcs_imm r]; rfl
  | .hang n r => by show (D.imm (.str "hang") && (D.imm (.int n) && (D.imm (.tup (pcsD r)) && D.imms []))) = true; rw [show D.imm (.tup (pcsD r)) = D.imms (pcsD r) from rfl, pcs_imm r]; rfl
  | .either rs => by show (D.imm (.str "either") && (D.imm (.tup (rowsD rs)) && D.imms [])) = true; rw [show D.imm (.tup (rowsD rs)) = D.imms (rowsD rs) from rfl, rows_imm rs]; rfl
theorem pcs_imm : ∀ r : List Pc, D.imms (pcsD r) = true
  | [] => rfl
  | p :: r => by show (D.imm (pcD p) && D.imms (pcsD r)) = true; rw [pc_imm p, pcs_imm r]; rfl
theorem rows_imm : ∀ rs : List (List Pc), D.imms (rowsD rs) = true
  | [] => rfl
  | r :: rs => by show (D.imm (.tup (pcsD r)) && D.imms (rowsD rs)) = true; rw [show D.imm (.tup (pcsD r)) = D.imms (pcsD r) from rfl, pcs_imm r, rows_imm rs]; rfl
end
theorem pcsD_app : ∀ a b : List Pc, pcsD (a ++ b) = pcsD a ++ pcsD b
  | [], b => rfl
  | p :: a, b => by show pcD p :: pcsD (a ++ b) = pcD p :: (pcsD a ++ pcsD b); rw [pcsD_app a b]
theorem rowsD_app : ∀ a b : List (List Pc), rowsD (a ++ b) = rowsD a ++ rowsD b
  | [], b => rfl
  | p :: a, b => by show D.tup (pcsD p) :: rowsD (a ++ b) = D.tup (pcsD p) :: (rowsD a ++ rowsD b); rw [rowsD_app a b]
theorem pcsD_len : ∀ a : List Pc, (pcsD a).length = a.length
  | [] => rfl
  | p :: a => by show (pcsD a).length + 1 = a.length + 1; rw [pcsD_len a]
theorem rowsD_len : ∀ a : List (List Pc), (rowsD a).length = a.length
  | [] => rfl
  | p :: a => by show (rowsD a).length + 1 = a.length + 1; rw [rowsD_len a]
theorem map_inj {α β : Type} (f : α → β) (hf : ∀ a b, f a = f b → a = b) : ∀ {l m : List α}, l.map f = m.map f → l = m
  | [], [], _ => rfl
  | [], _ :: _, h => by simp at h
  | _ :: _, [], h => by simp at h
  | a :: l, b :: m, h => by
    simp only [List.map_cons, List.cons.injEq] at h
    rw [hf a b h.1, map_inj f hf h.2]
theorem ofs_inj (a b : String) : (Str.ofString a = Str.ofString b) = (a = b) := by
  refine propext ⟨fun h => ?_, fun h => by rw [h]⟩
  rw [Str.ofString_eq_toList, Str.ofString_eq_toList] at h
  have h1 : (a.toList.map Char.toNat).toArray = (b.toList.map Char.toNat).toArray := (Str.mk.inj h)
  have h2 : a.toList.map Char.toNat = b.toList.map Char.toNat := by simpa using congrArg Array.toList h1
  have h3 : a.toList = b.toList := map_inj _ (fun x y e => by
    have : Char.ofNat x.toNat = Char.ofNat y.toNat := by rw [e]
    simpa using this) h2
  exact String.toList_inj.mp h3
theorem atI0 {α : Type} (a : α) (l : List α) : atI (a :: l) 0 = some a := by simp [atI, ixN]
theorem atI1 {α : Type} (a b : α) (l : List α) : atI (a :: b :: l) 1 = some b := by
  have h : ixN (a :: b :: l).length 1 = some 1 := by unfold ixN; rw [if_pos (by decide), if_pos (by simp only [List.length_cons]; omega)]; rfl
  simp only [atI, h]; rfl
theorem atI2 {α : Type} (a b c : α) (l : List α) : atI (a :: b :: c :: l) 2 = some c := by
  have h : ixN (a :: b :: c :: l).length 2 = some 2 := by unfold ixN; rw [if_pos (by decide), if_pos (by simp only [List.length_cons]; omega)]; rfl
  simp only [atI, h]; rfl
theorem sz {n : Nat} (h : n ≤ 1000) : n ≤ sizeLine := small h
theorem sz1 {n : Nat} (h : n ≤ 1000) : n < sizeLine := small1000 h
mutual
def neP : Pc → Bool
  | .leaf _ => true
  | .group r => neR r
  | .hang _ r => neR r
  | .either rs => !rs.isEmpty && neRs rs
def neR : List Pc → Bool
  | [] => true
  | p :: r => neP p && neR r
def neRs : List (List Pc) → Bool
  | [] => true
  | r :: rs => neR r && neRs rs
end
theorem neR_mem : ∀ {r : List Pc} {p : Pc}, neR r = true → p ∈ r → neP p = true
  | [], _, _, h => by simp at h
  | q :: r, p, h, hp => by
    rw [neR, Bool.and_eq_true] at h
    rcases List.mem_cons.mp hp with e | e
    · rw [e]; exact h.1
    · exact neR_mem h.2 e
theorem neRs_mem : ∀ {rs : List (List Pc)} {r : List Pc}, neRs rs = true → r ∈ rs → neR r = true
  | [], _, _, h => by simp at h
  | q :: r, p, h, hp => by
    rw [neRs, Bool.and_eq_true] at h
    rcases List.mem_cons.mp hp with e | e
    · rw [e]; exact h.1
    · exact neRs_mem h.2 e
theorem toksP_le {r : List Pc} {p : Pc} (h : p ∈ r) : (toksP p).length ≤ (toksR r).length := by
  induction r with
  | nil => simp at h
  | cons q r ih =>
    show _ ≤ (toksP q ++ toksR r).length
    rw [List.length_append]
    rcases List.mem_cons.mp h with e | e
    · subst e; omega
    · have := ih e; omega
theorem toksMore_le {rs : List (List Pc)} {r : List Pc} (h : r ∈ rs) : (toksR r).length ≤ (toksMore rs).length := by
  induction rs with
  | nil => simp at h
  | cons q rs ih =>
    show _ ≤ (Tk.orr :: (toksR q ++ toksMore rs)).length
    rw [List.length_cons, List.length_append]
    rcases List.mem_cons.mp h with e | e
    · subst e; omega
    · have := ih e; omega
theorem toksRows_le {rs : List (List Pc)} {r : List Pc} (h : r ∈ rs) : (toksR r).length ≤ (toksRows rs).length := by
  cases rs with
  | nil => simp at h
  | cons q rs =>
    show _ ≤ (toksR q ++ toksMore rs).length
    rw [List.length_append]
    rcases List.mem_cons.mp h with e | e
    · subst e; omega
    · have := toksMore_le e; omega
end My
namespace My
open PySem PySem.Spec PyProof.Rows L2 L3
theorem ixN_last (n : Nat) : ixN (n + 1) (-1) = some n := by
  unfold ixN
  rw [if_neg (by decide), if_pos (by omega)]
  congr 1
  omega
theorem set_last {α : Type} (l : List α) (a b : α) : (l ++ [a]).set l.length b = l ++ [b] := by
  induction l with
  | nil => rfl
  | cons x l ih => show x :: (l ++ [a]).set l.length b = _; rw [ih]; rfl
theorem ixN0 (n : Nat) : ixN (n + 1) 0 = some 0 := by unfold ixN; rw [if_pos (by decide), if_pos (by omega)]; rfl
theorem dMod_ii (i j : Int) : dMod (.int i) (.int j) = if 0 < j then some (.int (i % j)) else none := by simp [dMod, dII]
theorem dDiv_ii (i j : Int) : dDiv (.int i) (.int j) = if 0 < j ∧ j < 1073741824 then some (.int (i / j)) else none := by simp [dDiv, dII]
theorem append_toList (x y : Str) : (x ++ y).cps.toList = x.cps.toList ++ y.cps.toList := by
  show (x.cps ++ y.cps).toList = _
  simp
theorem append_length (x y : Str) : (x ++ y).length = x.length + y.length := by
  show (x.cps ++ y.cps).size = x.cps.size + y.cps.size
  simp
def sg : Str := ("abcdefghijklmnopqrstuvwxyzABCDEFGHIJKLMNOPQRSTUVWXYZ0123456789" : Str) ++ ("!\"#$&'()*+,-./:;<=>?\x40[\\]^_`{|}~" : Str)
theorem sg_len : sg.cps.toList.length = 93 := by decide +kernel
theorem sg_good : sg.cps.toList.all goodC = true := by decide +kernel
theorem sg_size : sg.length ≤ sizeLine := by
  have e : sg.length = sg.cps.toList.length := by simp [Str.length]
  rw [e, sg_len]; exact sz (by decide)
theorem atI_mem {α : Type} (xs : List α) (i : Int) (h0 : 0 ≤ i) (h1 : i < xs.length) : ∃ v ∈ xs, atI xs i = some v := by
  have hn : i.toNat < xs.length := by omega
  obtain ⟨v, hv⟩ : ∃ v, xs[i.toNat]? = some v := ⟨_, List.getElem?_eq_getElem hn⟩
  refine ⟨v, List.mem_of_getElem? hv, ?_⟩
  have e : i = ((i.toNat : Nat) : Int) := by omega
  rw [e]
  exact atI_nat hv
theorem sg_at (i : Int) (h0 : 0 ≤ i) (h1 : i < 93) : ∃ c, atI sg.cps.toList i = some c ∧ goodC c = true := by
  obtain ⟨c, hc, e⟩ := atI_mem sg.cps.toList i h0 (by rw [sg_len]; omega)
  exact ⟨c, e, List.all_eq_true.mp sg_good c hc⟩
theorem intsD0 (n : Nat) : intsD 0 n = ((List.range n).map fun (k : Nat) => (k : Int)).map .int := by
  unfold intsD
  rw [List.map_map]
  refine List.map_congr_left fun k _ => ?_
  show D.int (0 + (k : Int)) = D.int (k : Int)
  rw [Int.zero_add]
theorem size_at (m : Int) : ∃ s : Int, atI [D.int 1, .int 2, .int 3, .int 4, .int 5, .int 6, .int 7, .int 8, .int 10, .int 11, .int 9, .int 12] (m % 12) = some (.int s) ∧ 1 ≤ s ∧ s ≤ 12 := by
  have h0 := Int.emod_nonneg m (show (12 : Int) ≠ 0 by decide)
  have h1 := Int.emod_lt_of_pos m (show (0 : Int) < 12 by decide)
  obtain ⟨d, hd, e⟩ := atI_mem [D.int 1, .int 2, .int 3, .int 4, .int 5, .int 6, .int 7, .int 8, .int 10, .int 11, .int 9, .int 12] (m % 12) h0 (by simpa using h1)
  simp only [List.mem_cons, List.not_mem_nil, or_false] at hd
  rcases hd with rfl | rfl | rfl | rfl | rfl | rfl | rfl | rfl | rfl | rfl | rfl | rfl <;> exact ⟨_, e, by decide, by decide⟩
theorem gap_at (k : Int) : ∃ x : Str, atI [D.str (Str.ofString " "), .str (Str.ofString " "), .str (Str.ofString " "), .str (Str.ofString "")] (k % 4) = some (.str x) ∧ (x = "" ∨ x = " ") := by
  have h0 := Int.emod_nonneg k (show (4 : Int) ≠ 0 by decide)
  have h1 := Int.emod_lt_of_pos k (show (0 : Int) < 4 by decide)
  obtain ⟨d, hd, e⟩ := atI_mem [D.str (Str.ofString " "), .str (Str.ofString " "), .str (Str.ofString " "), .str (Str.ofString "")] (k % 4) h0 (by simpa using h1)
  simp only [List.mem_cons, List.not_mem_nil, or_false] at hd
  rcases hd with rfl | rfl | rfl | rfl
  · exact ⟨_, e, .inr rfl⟩
  · exact ⟨_, e, .inr rfl⟩
  · exact ⟨_, e, .inr rfl⟩
  · exact ⟨_, e, .inl rfl⟩
theorem stop_at (a b k : Int) (ha : 0 ≤ a ∧ a ≤ 40) (hb : 0 ≤ b ∧ b ≤ 40) : ∃ c : Int, atI [D.int a, .int b] (k % 2) = some (.int c) ∧ 0 ≤ c ∧ c ≤ 40 := by
  have h0 := Int.emod_nonneg k (show (2 : Int) ≠ 0 by decide)
  have h1 := Int.emod_lt_of_pos k (show (0 : Int) < 2 by decide)
  obtain ⟨d, hd, e⟩ := atI_mem [D.int a, .int b] (k % 2) h0 (by simpa using h1)
  simp only [List.mem_cons, List.not_mem_nil, or_false] at hd
  rcases hd with rfl | rfl
  · exact ⟨_, e, ha⟩
  · exact ⟨_, e, hb⟩
theorem rng2_ok {i j : Int} (h1 : -1000000 ≤ i) (h2 : i ≤ 1000000) (h3 : -1000000 ≤ j) (h4 : j ≤ 1000000) : dRng2 [.int i, .int j] = some (intsD i (j - i).toNat) := by
  rw [dRng2]
  exact if_pos ⟨by omega, by omega, by omega, by omega⟩
theorem rng1_ok {j : Int} (h3 : -1000000 ≤ j) (h4 : j ≤ 1000000) : dRng1 [.int j] = some (intsD 0 j.toNat) := by
  rw [dRng1]
  exact if_pos ⟨by omega, by omega⟩
theorem intsDi (a : Int) (n : Nat) : intsD a n = ((List.range n).map fun (k : Nat) => a + (k : Int)).map .int := by
  unfold intsD
  rw [List.map_map]; rfl
theorem fseq_nx {f g : PSt → Option (Fl × PSt)} {p p' : PSt} (h : f p = some (.nx, p')) : fSeq f g p = g p' := by unfold fSeq; rw [h]; rfl
theorem fseq_ret {f g : PSt → Option (Fl × PSt)} {p p' : PSt} {d : D} (h : f p = some (.ret d, p')) : fSeq f g p = some (.ret d, p') := by unfold fSeq; rw [h]; rfl
theorem fif_t {c : PSt → Option (Bool × PSt)} {f g : PSt → Option (Fl × PSt)} {p p' : PSt} (h : c p = some (true, p')) : fIf c f g p = f p' := by unfold fIf; rw [h]; rfl
theorem fif_f {c : PSt → Option (Bool × PSt)} {f g : PSt → Option (Fl × PSt)} {p p' : PSt} (h : c p = some (false, p')) : fIf c f g p = g p' := by unfold fIf; rw [h]; rfl
theorem fset_ok {i : Nat} {f : PSt → Option D} {p : PSt} {d : D} (h : f p = some d) : fSet i (fPure f) p = some (.nx, p.set i (some d)) := by unfold fSet fPure; rw [h]; rfl
theorem fret_ok {f : PSt → Option D} {p : PSt} {d : D} (h : f p = some d) : fRet (fPure f) p = some (.ret d, p) := by unfold fRet fPure; rw [h]; rfl
theorem gP_ret {np n : Nat} {f : PSt → Option (Fl × PSt)} {ds : List D} {d : D} {p : PSt} (hl : ds.length = np) (h : f (ds.map some ++ List.replicate n none) = some (.ret d, p)) : gP np n f ds = some d := by
  unfold gP; rw [if_pos hl, h]; rfl
theorem f2_ok {g : D → D → Option D} {fa fb : PSt → Option D} {p : PSt} {x y d : D} (h1 : fa p = some x) (h2 : fb p = some y) (h3 : g x y = some d) : f2 g fa fb p = some d := by unfold f2; rw [h1, h2]; exact h3
theorem fcall_ok {h : List D → Option D} {g : PSt → Option (List D)} {p : PSt} {ds : List D} {d : D} (h1 : g p = some ds) (h2 : h ds = some d) : fCall h g p = some d := by unfold fCall; rw [h1]; exact h2
theorem dAdd_l {o o' : Bool} {ys zs : List D} (h1 : D.imms ys = true) (h2 : D.imms zs = true) (h : ys.length + zs.length ≤ 1000) : dAdd (.lst o ys) (.lst o' zs) = some (.lst true (ys ++ zs)) := by
  rw [dAdd]
  exact if_pos (by rw [h1, h2]; simpa using sz h)
theorem fcons_ok {f : PSt → Option D} {g : PSt → Option (List D)} {p : PSt} {d : D} {ds : List D} (h1 : f p = some d) (h2 : g p = some ds) : fCons f g p = some (d :: ds) := by unfold fCons; rw [h1, h2]; rfl
def strsD (ws : List Str) : List D := ws.map .str
theorem strsD_app (a b : List Str) : strsD (a ++ b) = strsD a ++ strsD b := by simp [strsD]
theorem strsD_len (a : List Str) : (strsD a).length = a.length := by simp [strsD]
theorem strs_imm : ∀ ws : List Str, D.imms (strsD ws) = true
  | [] => rfl
  | w :: ws => by show (D.imm (.str w) && D.imms (strsD ws)) = true; rw [strs_imm ws]; rfl
theorem flst_ok {g : PSt → Option (List D)} {p : PSt} {ds : List D} (h : g p = some ds) (hl : ds.length ≤ 1000) : fLst g p = some (.lst true ds) := by unfold fLst; rw [h]; exact if_pos hl
end My
namespace My
open PySem PySem.Spec PyProof.Rows L2 L3
def gTok : Nat → (List D → Option D) × (List D → Option D) × (List D → Option D)
  | 0 => (fun _ => none, fun _ => none, fun _ => none)
  | n + 1 => (gP 1 2 (fb_p_tokens (gTok n).2.1), gP 1 1 (fb_p_tokens_of_piece (gTok n).1 (gTok n).2.2), gP 1 2 (fb_p_tokens_of_either (gTok n).1))
theorem toks_for (G : List D → Option D) : ∀ (r : List Pc) (acc : List Tk) (x0 x2 : Option D), (∀ p ∈ r, G [pcD p] = some (.lst true (tksD (toksP p)))) → acc.length + (toksR r).length ≤ 1000 →
    ∃ x2', fForD 2 (fExpr (fMut 1 fPNil (fCons (fCall G (fCons (fVar 2) fNil)) fNil) hExtend)) (pcsD r) [x0, some (.lst true (tksD acc)), x2] = some (.nx, [x0, some (.lst true (tksD (acc ++ toksR r))), x2'])
  | [], acc, x0, x2, _, _ => ⟨x2, by simp [ofs_inj, gP, fSeq, fSkip, fSet, fSetB, fPure, fIf, fTPure, fB, f2, fVar, fC, fImm, fRet, fRetL, fRetN, fExpr, fMut, fPNil, modP, getP, fCons, fNil, fLst, fTup, fKs, fCall, dEq, eqB, dB, dIx, dLen, hAppend, hExtend, hPop, hClear, fFor, fSeqI, dSeq, fForD, fPart, fNoPart, fSl, D.imm, D.imms, dList, dTuple, dAdd, fT, dTru, atI0, atI1, atI2, pcsD, toksR]⟩
  | p :: r, acc, x0, x2, h, hl => by
    have e : toksR (p :: r) = toksP p ++ toksR r := rfl
    rw [e] at hl ⊢
    simp only [List.length_append] at hl
    obtain ⟨x2', q⟩ := toks_for G r (acc ++ toksP p) x0 (some (pcD p)) (fun p' hp => h p' (List.mem_cons_of_mem _ hp)) (by rw [List.length_append]; omega)
    refine ⟨x2', ?_⟩
    have hz : (tksD acc).length + (tksD (toksP p)).length ≤ sizeLine := by rw [tksD_len, tksD_len]; exact sz (by omega)
    rw [← List.append_assoc, ← q, tksD_app]
    simp [ofs_inj, gP, fSeq, fSkip, fSet, fSetB, fPure, fIf, fTPure, fB, f2, fVar, fC, fImm, fRet, fRetL, fRetN, fExpr, fMut, fPNil, modP, getP, fCons, fNil, fLst, fTup, fKs, fCall, dEq, eqB, dB, dIx, dLen, hAppend, hExtend, hPop, hClear, fFor, fSeqI, dSeq, fForD, fPart, fNoPart, fSl, D.imm, D.imms, dList, dTuple, dAdd, fT, dTru, atI0, atI1, atI2, pcsD, h p List.mem_cons_self, tks_imm, hz]
theorem toks_row {n : Nat} {r : List Pc} (h : ∀ p ∈ r, (gTok n).2.1 [pcD p] = some (.lst true (tksD (toksP p)))) (hl : (toksR r).length ≤ 1000) : (gTok (n + 1)).1 [.tup (pcsD r)] = some (.lst true (tksD (toksR r))) := by
  obtain ⟨x2, q⟩ := toks_for (gTok n).2.1 r [] (some (.tup (pcsD r))) none h (by simpa using hl)
  show gP 1 2 (fb_p_tokens (gTok n).2.1) [.tup (pcsD r)] = _
  simp only [List.nil_append] at q
  have q' : fForD 2 (fExpr (fMut 1 fPNil (fCons (fCall (gTok n).2.1 (fCons (fVar 2) fNil)) fNil) hExtend)) (pcsD r) [some (.tup (pcsD r)), some (.lst true []), none] = some (.nx, [some (.tup (pcsD r)), some (.lst true (tksD (toksR r))), x2]) := q
  simp [ofs_inj, gP, fSeq, fSkip, fSet, fSetB, fPure, fIf, fTPure, fB, f2, fVar, fC, fImm, fRet, fRetL, fRetN, fExpr, fMut, fPNil, modP, getP, fCons, fNil, fLst, fTup, fKs, fCall, dEq, eqB, dB, dIx, dLen, hAppend, hExtend, hPop, hClear, fFor, fSeqI, dSeq, fForD, fPart, fNoPart, fSl, D.imm, D.imms, dList, dTuple, dAdd, fT, dTru, atI0, atI1, atI2, fb_p_tokens, q', -fForD]
theorem more_for (G : List D → Option D) : ∀ (rs : List (List Pc)) (acc : List Tk) (x0 x2 : Option D), (∀ r ∈ rs, G [.tup (pcsD r)] = some (.lst true (tksD (toksR r)))) → acc.length + (toksMore rs).length < 1000 →
    ∃ x2', fForD 2 (fSeq (fExpr (fMut 1 fPNil (fCons (fTup (fCons (fC (.str "or")) fNil)) fNil) hAppend)) (fExpr (fMut 1 fPNil (fCons (fCall G (fCons (fVar 2) fNil)) fNil) hExtend))) (rowsD rs) [x0, some (.lst true (tksD acc)), x2] = some (.nx, [x0, some (.lst true (tksD (acc ++ toksMore rs))), x2'])
  | [], acc, x0, x2, _, _ => ⟨x2, by simp [ofs_inj, gP, fSeq, fSkip, fSet, fSetB, fPure, fIf, fTPure, fB, f2, fVar, fC, fImm, fRet, fRetL, fRetN, fExpr, fMut, fPNil, modP, getP, fCons, fNil, fLst, fTup, fKs, fCall, dEq, eqB, dB, dIx, dLen, hAppend, hExtend, hPop, hClear, fFor, fSeqI, dSeq, fForD, fPart, fNoPart, fSl, D.imm, D.imms, dList, dTuple, dAdd, fT, dTru, atI0, atI1, atI2, rowsD, toksMore]⟩
  | r :: rs, acc, x0, x2, h, hl => by
    have e : toksMore (r :: rs) = .orr :: (toksR r ++ toksMore rs) := rfl
    rw [e] at hl ⊢
    simp only [List.length_append, List.length_cons] at hl
    obtain ⟨x2', q⟩ := more_for G rs (acc ++ (.orr :: toksR r)) x0 (some (.tup (pcsD r))) (fun p' hp => h p' (List.mem_cons_of_mem _ hp)) (by rw [List.length_append, List.length_cons]; omega)
    refine ⟨x2', ?_⟩
    have h1 : (tksD acc).length < sizeLine := by rw [tksD_len]; exact sz1 (by omega)
    have h2 : (tksD acc).length + 1 + (tksD (toksR r)).length ≤ sizeLine := by rw [tksD_len, tksD_len]; exact sz (by omega)
    rw [show acc ++ Tk.orr :: (toksR r ++ toksMore rs) = (acc ++ (.orr :: toksR r)) ++ toksMore rs by simp [ofs_inj, gP, fSeq, fSkip, fSet, fSetB, fPure, fIf, fTPure, fB, f2, fVar, fC, fImm, fRet, fRetL, fRetN, fExpr, fMut, fPNil, modP, getP, fCons, fNil, fLst, fTup, fKs, fCall, dEq, eqB, dB, dIx, dLen, hAppend, hExtend, hPop, hClear, fFor, fSeqI, dSeq, fForD, fPart, fNoPart, fSl, D.imm, D.imms, dList, dTuple, dAdd, fT, dTru, atI0, atI1, atI2], ← q]
    have e2 : tksD (acc ++ Tk.orr :: toksR r) = tksD acc ++ [.tup [.str "or"]] ++ tksD (toksR r) := by simp [ofs_inj, gP, fSeq, fSkip, fSet, fSetB, fPure, fIf, fTPure, fB, f2, fVar, fC, fImm, fRet, fRetL, fRetN, fExpr, fMut, fPNil, modP, getP, fCons, fNil, fLst, fTup, fKs, fCall, dEq, eqB, dB, dIx, dLen, hAppend, hExtend, hPop, hClear, fFor, fSeqI, dSeq, fForD, fPart, fNoPart, fSl, D.imm, D.imms, dList, dTuple, dAdd, fT, dTru, atI0, atI1, atI2, tksD, tkD]
    rw [e2]
    simp [ofs_inj, gP, fSeq, fSkip, fSet, fSetB, fPure, fIf, fTPure, fB, f2, fVar, fC, fImm, fRet, fRetL, fRetN, fExpr, fMut, fPNil, modP, getP, fCons, fNil, fLst, fTup, fKs, fCall, dEq, eqB, dB, dIx, dLen, hAppend, hExtend, hPop, hClear, fFor, fSeqI, dSeq, fForD, fPart, fNoPart, fSl, D.imm, D.imms, dList, dTuple, dAdd, fT, dTru, atI0, atI1, atI2, rowsD, h r List.mem_cons_self, tks_imm, h1, h2]
theorem toks_either {n : Nat} {r0 : List Pc} {rs : List (List Pc)} (h : ∀ r ∈ r0 :: rs, (gTok n).1 [.tup (pcsD r)] = some (.lst true (tksD (toksR r)))) (hl : (toksRows (r0 :: rs)).length < 990) :
    (gTok (n + 1)).2.2 [.tup (rowsD (r0 :: rs))] = some (.lst true (tksD (.eit :: (toksRows (r0 :: rs) ++ [.don])))) := by
  have e : toksRows (r0 :: rs) = toksR r0 ++ toksMore rs := rfl
  rw [e] at hl ⊢
  rw [List.length_append] at hl
  obtain ⟨x2, q⟩ := more_for (gTok n).1 rs (.eit :: toksR r0) (some (.tup (rowsD (r0 :: rs)))) none (fun r hr => h r (List.mem_cons_of_mem _ hr)) (by rw [List.length_cons]; omega)
  show gP 1 2 (fb_p_tokens_of_either (gTok n).1) [.tup (rowsD (r0 :: rs))] = _
  have e1 : tksD (Tk.eit :: toksR r0) = .tup [.str "either"] :: tksD (toksR r0) := rfl
  rw [e1] at q
  have h0 := h r0 List.mem_cons_self
  have hz : 1 + (tksD (toksR r0)).length ≤ sizeLine := by rw [tksD_len]; exact sz (by omega)
  have hcut : L2.cutD (rowsD (r0 :: rs)) (some 1) none = rowsD rs := by
    have e : HT.sIx (rowsD (r0 :: rs)).length 0 (some 1) = 1 := by
      have := HT.sIx_nat (rowsD (r0 :: rs)).length 0 1
      rw [show ((1 : Nat) : Int) = (1 : Int) from rfl] at this
      rw [this, rowsD_len, List.length_cons]
      omega
    unfold L2.cutD
    rw [e, HT.sIx_none]
    show ((rowsD rs).drop 0).take _ = rowsD rs
    rw [List.drop_zero]
    refine List.take_of_length_le ?_
    show (rowsD rs).length ≤ ((rowsD rs).length + 1) - 1
    omega
  have hz2 : (tksD (Tk.eit :: (toksR r0 ++ toksMore rs))).length < sizeLine := by rw [tksD_len]; exact sz1 (by simp [ofs_inj, gP, fSeq, fSkip, fSet, fSetB, fPure, fIf, fTPure, fB, f2, fVar, fC, fImm, fRet, fRetL, fRetN, fExpr, fMut, fPNil, modP, getP, fCons, fNil, fLst, fTup, fKs, fCall, dEq, eqB, dB, dIx, dLen, hAppend, hExtend, hPop, hClear, fFor, fSeqI, dSeq, fForD, fPart, fNoPart, fSl, D.imm, D.imms, dList, dTuple, dAdd, fT, dTru, atI0, atI1, atI2]; omega)
  have e3 : tksD (Tk.eit :: (toksR r0 ++ toksMore rs ++ [.don])) = tksD (Tk.eit :: (toksR r0 ++ toksMore rs)) ++ [.tup [.str "done"]] := by simp [ofs_inj, gP, fSeq, fSkip, fSet, fSetB, fPure, fIf, fTPure, fB, f2, fVar, fC, fImm, fRet, fRetL, fRetN, fExpr, fMut, fPNil, modP, getP, fCons, fNil, fLst, fTup, fKs, fCall, dEq, eqB, dB, dIx, dLen, hAppend, hExtend, hPop, hClear, fFor, fSeqI, dSeq, fForD, fPart, fNoPart, fSl, D.imm, D.imms, dList, dTuple, dAdd, fT, dTru, atI0, atI1, atI2, tksD, tkD]
  have q2 := q
  rw [List.cons_append] at q2
  rw [e3]
  have e4 : rowsD (r0 :: rs) = .tup (pcsD r0) :: rowsD rs := rfl
  rw [e4] at hcut q2 ⊢
  simp [ofs_inj, gP, fSeq, fSkip, fSet, fSetB, fPure, fIf, fTPure, fB, f2, fVar, fC, fImm, fRet, fRetL, fRetN, fExpr, fMut, fPNil, modP, getP, fCons, fNil, fLst, fTup, fKs, fCall, dEq, eqB, dB, dIx, dLen, hAppend, hExtend, hPop, hClear, fFor, fSeqI, dSeq, fForD, fPart, fNoPart, fSl, D.imm, D.imms, dList, dTuple, dAdd, fT, dTru, atI0, atI1, atI2, fb_p_tokens_of_either, h0, tks_imm, hz, hcut, q2, hz2, dSl, -fForD]
theorem toks_piece_leaf {n : Nat} (l : Leaf) : (gTok (n + 1)).2.1 [leafD l] = some (.lst true (tksD [.leaf l])) := by
  show gP 1 1 (fb_p_tokens_of_piece (gTok n).1 (gTok n).2.2) [leafD l] = _
  cases l <;> simp [ofs_inj, gP, fSeq, fSkip, fSet, fSetB, fPure, fIf, fTPure, fB, f2, fVar, fC, fImm, fRet, fRetL, fRetN, fExpr, fMut, fPNil, modP, getP, fCons, fNil, fLst, fTup, fKs, fCall, dEq, eqB, dB, dIx, dLen, hAppend, hExtend, hPop, hClear, fFor, fSeqI, dSeq, fForD, fPart, fNoPart, fSl, D.imm, D.imms, dList, dTuple, dAdd, fT, dTru, atI0, atI1, atI2, fb_p_tokens_of_piece, leafD, tksD, tkD]
theorem toks_piece_group {n : Nat} {r : List Pc} (h : (gTok n).1 [.tup (pcsD r)] = some (.lst true (tksD (toksR r)))) (hl : (toksR r).length < 990) : (gTok (n + 1)).2.1 [pcD (.group r)] = some (.lst true (tksD (toksP (.group r)))) := by
  show gP 1 1 (fb_p_tokens_of_piece (gTok n).1 (gTok n).2.2) [.tup [.str "group", .tup (pcsD r)]] = some (.lst true (tksD (.opn :: (toksR r ++ [.cls]))))
  have e : tksD (Tk.opn :: (toksR r ++ [.cls])) = [.tup [.str "open"]] ++ tksD (toksR r) ++ [.tup [.str "close"]] := by simp [ofs_inj, gP, fSeq, fSkip, fSet, fSetB, fPure, fIf, fTPure, fB, f2, fVar, fC, fImm, fRet, fRetL, fRetN, fExpr, fMut, fPNil, modP, getP, fCons, fNil, fLst, fTup, fKs, fCall, dEq, eqB, dB, dIx, dLen, hAppend, hExtend, hPop, hClear, fFor, fSeqI, dSeq, fForD, fPart, fNoPart, fSl, D.imm, D.imms, dList, dTuple, dAdd, fT, dTru, atI0, atI1, atI2, tksD, tkD]
  rw [e]
  have h1 : 1 + (tksD (toksR r)).length ≤ sizeLine := by rw [tksD_len]; exact sz (by omega)
  have h2 : (tksD (toksR r)).length + 1 + 1 ≤ sizeLine := by rw [tksD_len]; exact sz (by omega)
  simp [ofs_inj, gP, fSeq, fSkip, fSet, fSetB, fPure, fIf, fTPure, fB, f2, fVar, fC, fImm, fRet, fRetL, fRetN, fExpr, fMut, fPNil, modP, getP, fCons, fNil, fLst, fTup, fKs, fCall, dEq, eqB, dB, dIx, dLen, hAppend, hExtend, hPop, hClear, fFor, fSeqI, dSeq, fForD, fPart, fNoPart, fSl, D.imm, D.imms, dList, dTuple, dAdd, fT, dTru, atI0, atI1, atI2, fb_p_tokens_of_piece, h, tks_imm, h1, h2, imms_app]
theorem toks_piece_hang {n : Nat} {k : Int} {r : List Pc} (h : (gTok n).1 [.tup (pcsD r)] = some (.lst true (tksD (toksR r)))) (hl : (toksR r).length < 990) : (gTok (n + 1)).2.1 [pcD (.hang k r)] = some (.lst true (tksD (toksP (.hang k r)))) := by
  show gP 1 1 (fb_p_tokens_of_piece (gTok n).1 (gTok n).2.2) [.tup [.str "hang", .int k, .tup (pcsD r)]] = some (.lst true (tksD (.hng k :: (toksR r ++ [.bck]))))
  have e : tksD (Tk.hng k :: (toksR r ++ [.bck])) = [.tup [.str "hang", .int k]] ++ tksD (toksR r) ++ [.tup [.str "back"]] := by simp [ofs_inj, gP, fSeq, fSkip, fSet, fSetB, fPure, fIf, fTPure, fB, f2, fVar, fC, fImm, fRet, fRetL, fRetN, fExpr, fMut, fPNil, modP, getP, fCons, fNil, fLst, fTup, fKs, fCall, dEq, eqB, dB, dIx, dLen, hAppend, hExtend, hPop, hClear, fFor, fSeqI, dSeq, fForD, fPart, fNoPart, fSl, D.imm, D.imms, dList, dTuple, dAdd, fT, dTru, atI0, atI1, atI2, tksD, tkD]
  rw [e]
  have h1 : 1 + (tksD (toksR r)).length ≤ sizeLine := by rw [tksD_len]; exact sz (by omega)
  have h2 : (tksD (toksR r)).length + 1 + 1 ≤ sizeLine := by rw [tksD_len]; exact sz (by omega)
  simp [ofs_inj, gP, fSeq, fSkip, fSet, fSetB, fPure, fIf, fTPure, fB, f2, fVar, fC, fImm, fRet, fRetL, fRetN, fExpr, fMut, fPNil, modP, getP, fCons, fNil, fLst, fTup, fKs, fCall, dEq, eqB, dB, dIx, dLen, hAppend, hExtend, hPop, hClear, fFor, fSeqI, dSeq, fForD, fPart, fNoPart, fSl, D.imm, D.imms, dList, dTuple, dAdd, fT, dTru, atI0, atI1, atI2, fb_p_tokens_of_piece, h, tks_imm, h1, h2, imms_app]
theorem toks_piece_either {n : Nat} {rs : List (List Pc)} {d : D} (h : (gTok n).2.2 [.tup (rowsD rs)] = some d) : (gTok (n + 1)).2.1 [pcD (.either rs)] = some d := by
  show gP 1 1 (fb_p_tokens_of_piece (gTok n).1 (gTok n).2.2) [.tup [.str "either", .tup (rowsD rs)]] = _
  simp [ofs_inj, gP, fSeq, fSkip, fSet, fSetB, fPure, fIf, fTPure, fB, f2, fVar, fC, fImm, fRet, fRetL, fRetN, fExpr, fMut, fPNil, modP, getP, fCons, fNil, fLst, fTup, fKs, fCall, dEq, eqB, dB, dIx, dLen, hAppend, hExtend, hPop, hClear, fFor, fSeqI, dSeq, fForD, fPart, fNoPart, fSl, D.imm, D.imms, dList, dTuple, dAdd, fT, dTru, atI0, atI1, atI2, fb_p_tokens_of_piece, h]
theorem toks_all : ∀ n : Nat, (∀ r, 3 * depR r + 2 ≤ n → neR r = true → (toksR r).length ≤ 900 → (gTok n).1 [.tup (pcsD r)] = some (.lst true (tksD (toksR r)))) ∧
    (∀ p, 3 * depP p + 1 ≤ n → neP p = true → (toksP p).length ≤ 900 → (gTok n).2.1 [pcD p] = some (.lst true (tksD (toksP p)))) ∧
    (∀ rs, 3 * depRs rs + 3 ≤ n → rs ≠ [] → neRs rs = true → (toksRows rs).length ≤ 900 → (gTok n).2.2 [.tup (rowsD rs)] = some (.lst true (tksD (.eit :: (toksRows rs ++ [.don])))))
  | 0 => ⟨fun r h => by omega, fun p h => by omega, fun rs h => by omega⟩
  | n + 1 => by
    obtain ⟨h1, h2, h3⟩ := toks_all n
    refine ⟨fun r hd hn hl => toks_row (fun p hp => h2 p (by have := depR_mem hp; omega) (neR_mem hn hp) (by have := toksP_le hp; omega)) (by omega), fun p hd hn hl => ?_, fun rs hd he hn hl => ?_⟩
    · cases p with
      | leaf l => exact toks_piece_leaf l
      | group r =>
        have e1 : depP (.group r) = depR r + 1 := rfl
        have e2 : toksP (.group r) = .opn :: (toksR r ++ [.cls]) := rfl
        rw [e1] at hd
        have e3 : (toksR r).length ≤ 900 := by rw [e2] at hl; simp [ofs_inj, gP, fSeq, fSkip, fSet, fSetB, fPure, fIf, fTPure, fB, f2, fVar, fC, fImm, fRet, fRetL, fRetN, fExpr, fMut, fPNil, modP, getP, fCons, fNil, fLst, fTup, fKs, fCall, dEq, eqB, dB, dIx, dLen, hAppend, hExtend, hPop, hClear, fFor, fSeqI, dSeq, fForD, fPart, fNoPart, fSl, D.imm, D.imms, dList, dTuple, dAdd, fT, dTru, atI0, atI1, atI2] at hl; omega
        exact toks_piece_group (h1 r (by omega) hn e3) (by omega)
      | hang k r =>
        have e1 : depP (.hang k r) = depR r + 1 := rfl
        have e2 : toksP (.hang k r) = .hng k :: (toksR r ++ [.bck]) := rfl
        rw [e1] at hd
        have e3 : (toksR r).length ≤ 900 := by rw [e2] at hl; simp [ofs_inj, gP, fSeq, fSkip, fSet, fSetB, fPure, fIf, fTPure, fB, f2, fVar, fC, fImm, fRet, fRetL, fRetN, fExpr, fMut, fPNil, modP, getP, fCons, fNil, fLst, fTup, fKs, fCall, dEq, eqB, dB, dIx, dLen, hAppend, hExtend, hPop, hClear, fFor, fSeqI, dSeq, fForD, fPart, fNoPart, fSl, D.imm, D.imms, dList, dTuple, dAdd, fT, dTru, atI0, atI1, atI2] at hl; omega
        exact toks_piece_hang (h1 r (by omega) hn e3) (by omega)
      | either rs =>
        have e1 : depP (.either rs) = depRs rs + 1 := rfl
        have e2 : toksP (.either rs) = .eit :: (toksRows rs ++ [.don]) := rfl
        rw [e1] at hd
        have e3 : (toksRows rs).length ≤ 900 := by rw [e2] at hl; simp [ofs_inj, gP, fSeq, fSkip, fSet, fSetB, fPure, fIf, fTPure, fB, f2, fVar, fC, fImm, fRet, fRetL, fRetN, fExpr, fMut, fPNil, modP, getP, fCons, fNil, fLst, fTup, fKs, fCall, dEq, eqB, dB, dIx, dLen, hAppend, hExtend, hPop, hClear, fFor, fSeqI, dSeq, fForD, fPart, fNoPart, fSl, D.imm, D.imms, dList, dTuple, dAdd, fT, dTru, atI0, atI1, atI2] at hl; omega
        have hn' : (!rs.isEmpty && neRs rs) = true := hn
        rw [Bool.and_eq_true] at hn'
        exact toks_piece_either (h3 rs (by omega) (by rintro rfl; simp [ofs_inj, gP, fSeq, fSkip, fSet, fSetB, fPure, fIf, fTPure, fB, f2, fVar, fC, fImm, fRet, fRetL, fRetN, fExpr, fMut, fPNil, modP, getP, fCons, fNil, fLst, fTup, fKs, fCall, dEq, eqB, dB, dIx, dLen, hAppend, hExtend, hPop, hClear, fFor, fSeqI, dSeq, fForD, fPart, fNoPart, fSl, D.imm, D.imms, dList, dTuple, dAdd, fT, dTru, atI0, atI1, atI2] at hn') hn'.2 e3)
    · cases rs with
      | nil => exact absurd rfl he
      | cons r0 rs => exact toks_either (fun r hr => h1 r (by have := depRs_mem hr; omega) (neRs_mem hn hr) (by have := toksRows_le hr; omega)) (by omega)
end My
namespace My
open PySem PySem.Spec PyProof.Rows L2 L3
def rowsIn : Pc → List (List Pc)
  | .leaf _ => []
  | .group r => [r]
  | .hang _ r => [r]
  | .either rs => rs
end My
namespace My
open PySem PySem.Spec PyProof.Rows L2 L3
structure Gm where
  kd : Nat
  n : Int
  full : List (List Pc)
  parts : List Pc
def kdS : Nat → String
  | 0 => "top"
  | 1 => "group"
  | 2 => "hang"
  | _ => "either"
def gmD (f : Gm) : D := .lst true [.str (kdS f.kd), .int f.n, .lst true (rowsD f.full), .lst true (pcsD f.parts)]
def gmsD : List Gm → List D
  | [] => []
  | f :: fs => gmsD fs ++ [gmD f]
theorem gmsD_len : ∀ fs, (gmsD fs).length = fs.length
  | [] => rfl
  | f :: fs => by rw [gmsD, List.length_append, gmsD_len fs]; rfl
def orRow : List Pc := [.leaf (.word "or")]
def shutR (f : Gm) : List (List Pc) := if f.full = [] then [f.parts, orRow] else f.full ++ [f.parts]
def shutG (f : Gm) : Pc := match f.kd with
  | 1 => .group f.parts
  | 2 => .hang f.n f.parts
  | _ => .either (shutR f)
def putG (g : Gm) (p : Pc) : Gm := { g with parts := g.parts ++ [p] }
mutual
def okP : Pc → Prop
  | .leaf l => LeafOk l
  | .group r => okR r
  | .hang n r => (0 ≤ n ∧ n ≤ 12) ∧ okR r
  | .either rs => (2 ≤ rs.length ∧ rs.length ≤ 4) ∧ okRs rs
def okR : List Pc → Prop
  | [] => True
  | p :: r => okP p ∧ okR r
def okRs : List (List Pc) → Prop
  | [] => True
  | r :: rs => okR r ∧ okRs rs
end
theorem okR_app : ∀ a b : List Pc, okR (a ++ b) ↔ okR a ∧ okR b
  | [], b => by simp [okR]
  | p :: a, b => by rw [List.cons_append, okR, okR, okR_app a b, and_assoc]
theorem okRs_app : ∀ a b : List (List Pc), okRs (a ++ b) ↔ okRs a ∧ okRs b
  | [], b => by simp [okRs]
  | p :: a, b => by rw [List.cons_append, okRs, okRs, okRs_app a b, and_assoc]
theorem okR_one (p : Pc) : okR [p] ↔ okP p := by simp [okR]
theorem okRs_one (r : List Pc) : okRs [r] ↔ okR r := by simp [okRs]
theorem toksMore_app : ∀ a b : List (List Pc), toksMore (a ++ b) = toksMore a ++ toksMore b
  | [], b => rfl
  | r :: a, b => by
    show Tk.orr :: (toksR r ++ toksMore (a ++ b)) = (Tk.orr :: (toksR r ++ toksMore a)) ++ toksMore b
    rw [toksMore_app a b]; simp
def wF (f : Gm) : Nat := (toksMore f.full).length + (toksR f.parts).length + 4
def wG : List Gm → Nat
  | [] => 0
  | f :: fs => wF f + wG fs
def GmOk (f : Gm) : Prop := okRs f.full ∧ okR f.parts ∧ f.full.length ≤ 3 ∧ (f.kd ≠ 3 → f.full = []) ∧ 0 ≤ f.n ∧ f.n ≤ 12
def KindsG : List Gm → Prop
  | [] => False
  | [f] => f.kd = 0
  | f :: g :: fs => (1 ≤ f.kd ∧ f.kd ≤ 3) ∧ KindsG (g :: fs)
def DeepG (m : Nat) : List Gm → Prop
  | [] => True
  | f :: fs => depR f.parts + fs.length ≤ m ∧ depRs f.full + fs.length ≤ m ∧ DeepG m fs
structure GInv (nest k : Nat) (fs : List Gm) : Prop where
  len : fs.length ≤ nest + 1
  wt : wG fs ≤ 4 * k + 4
  each : ∀ f ∈ fs, GmOk f
  kinds : KindsG fs
  deep : DeepG nest fs
theorem toks_shutG {f : Gm} (h : f.kd ≠ 3 → f.full = []) (hk : 1 ≤ f.kd ∧ f.kd ≤ 3) : (toksP (shutG f)).length ≤ wF f := by
  have e : f.kd = 1 ∨ f.kd = 2 ∨ f.kd = 3 := by omega
  unfold wF shutG
  rcases e with e | e | e
  · rw [e]; show (Tk.opn :: (toksR f.parts ++ [.cls])).length ≤ _; rw [List.length_cons, List.length_append]; simp; omega
  · rw [e]; show (Tk.hng f.n :: (toksR f.parts ++ [.bck])).length ≤ _; rw [List.length_cons, List.length_append]; simp; omega
  · rw [e]
    show (Tk.eit :: (toksRows (shutR f) ++ [.don])).length ≤ _
    rw [List.length_cons, List.length_append]
    unfold shutR
    cases hf : f.full with
    | nil =>
      rw [if_pos rfl]
      show (toksR f.parts ++ (Tk.orr :: (toksR orRow ++ []))).length + 1 + 1 ≤ _
      simp [orRow, toksR, toksP, toksMore]
    | cons r rs =>
      rw [if_neg (by simp)]
      show (toksR r ++ toksMore (rs ++ [f.parts])).length + 1 + 1 ≤ (Tk.orr :: (toksR r ++ toksMore rs)).length + _ + 4
      rw [toksMore_app]
      simp [toksMore]; omega
theorem ok_shutG {f : Gm} (h : GmOk f) (hk : 1 ≤ f.kd ∧ f.kd ≤ 3) : okP (shutG f) := by
  obtain ⟨h1, h2, h3, h4, h5, h6⟩ := h
  have e : f.kd = 1 ∨ f.kd = 2 ∨ f.kd = 3 := by omega
  unfold shutG
  rcases e with e | e | e
  · rw [e]; exact h2
  · rw [e]; exact ⟨⟨h5, h6⟩, h2⟩
  · rw [e]
    show (2 ≤ (shutR f).length ∧ (shutR f).length ≤ 4) ∧ okRs (shutR f)
    unfold shutR
    by_cases c : f.full = []
    · rw [if_pos c]
      refine ⟨⟨by simp, by simp⟩, h2, ?_, trivial⟩
      exact ⟨⟨by decide +kernel, by decide +kernel, by decide +kernel⟩, trivial⟩
    · rw [if_neg c]
      have hp : 1 ≤ f.full.length := by cases hf : f.full with | nil => exact absurd hf c | cons a l => simp
      refine ⟨⟨by rw [List.length_append]; simp; omega, by rw [List.length_append]; simp; omega⟩, ?_⟩
      rw [okRs_app, okRs_one]; exact ⟨h1, h2⟩
theorem dep_shutG {f : Gm} {m k : Nat} (h1 : depR f.parts + (k + 1) ≤ m) (h2 : depRs f.full + (k + 1) ≤ m) : depP (shutG f) + k ≤ m := by
  unfold shutG
  split
  · show depR f.parts + 1 + k ≤ m; omega
  · show depR f.parts + 1 + k ≤ m; omega
  · show depRs (shutR f) + 1 + k ≤ m
    unfold shutR
    split
    · show max (depR f.parts) (max (depR orRow) 0) + 1 + k ≤ m
      have : depR orRow = 0 := rfl
      omega
    · rw [depRs_snoc]; omega
theorem GInv.leaf {nest k : Nat} {f : Gm} {fs : List Gm} {l : Leaf} (h : GInv nest k (f :: fs)) (hl : LeafOk l) : GInv nest (k + 1) (putG f (.leaf l) :: fs) := by
  obtain ⟨h1, h2, h3, h4, h5⟩ := h
  have hf := h3 f List.mem_cons_self
  refine ⟨h1, ?_, ?_, ?_, ?_⟩
  · have h2' : wF f + wG fs ≤ 4 * k + 4 := h2
    show (toksMore f.full).length + (toksR (f.parts ++ [.leaf l])).length + 4 + wG fs ≤ _
    rw [toksR_append, List.length_append]
    unfold wF at h2'
    show _ + (_ + 1) + 4 + _ ≤ _
    omega
  · intro x hx
    rcases List.mem_cons.mp hx with rfl | hx
    · obtain ⟨a1, a2, a3, a4, a5⟩ := hf
      exact ⟨a1, (okR_app _ _).mpr ⟨a2, (okR_one _).mpr hl⟩, a3, a4, a5⟩
    · exact h3 x (List.mem_cons_of_mem _ hx)
  · cases fs with
    | nil => exact h4
    | cons g fs => exact ⟨h4.1, h4.2⟩
  · refine ⟨?_, h5.2.1, h5.2.2⟩
    show depR (f.parts ++ [.leaf l]) + fs.length ≤ nest
    rw [depR_snoc]
    have := h5.1
    show max _ 0 + _ ≤ _
    omega
theorem GInv.opener {nest k : Nat} {fs : List Gm} {kd : Nat} {n : Int} (h : GInv nest k fs) (hk : 1 ≤ kd ∧ kd ≤ 3) (hn : 0 ≤ n ∧ n ≤ 12) (hl : fs.length ≤ nest) : GInv nest (k + 1) (⟨kd, n, [], []⟩ :: fs) := by
  obtain ⟨h1, h2, h3, h4, h5⟩ := h
  refine ⟨by simp; omega, ?_, ?_, ?_, ?_⟩
  · show 0 + 0 + 4 + wG fs ≤ _; omega
  · intro x hx
    rcases List.mem_cons.mp hx with rfl | hx
    · exact ⟨trivial, trivial, Nat.zero_le _, fun _ => rfl, hn⟩
    · exact h3 x hx
  · cases fs with
    | nil => exact h4.elim
    | cons g fs => exact ⟨hk, h4⟩
  · exact ⟨by show 0 + _ ≤ _; omega, by show 0 + _ ≤ _; omega, h5⟩
theorem GInv.orr {nest k : Nat} {f : Gm} {fs : List Gm} (h : GInv nest k (f :: fs)) (hf3 : f.full.length < 3) (hk : f.kd = 3) : GInv nest (k + 1) ({ f with full := f.full ++ [f.parts], parts := [] } :: fs) := by
  obtain ⟨h1, h2, h3, h4, h5⟩ := h
  have hf := h3 f List.mem_cons_self
  refine ⟨h1, ?_, ?_, ?_, ?_⟩
  · have h2' : wF f + wG fs ≤ 4 * k + 4 := h2
    show (toksMore (f.full ++ [f.parts])).length + 0 + 4 + wG fs ≤ _
    rw [toksMore_app, List.length_append]
    unfold wF at h2'
    simp [toksMore]; omega
  · intro x hx
    rcases List.mem_cons.mp hx with rfl | hx
    · obtain ⟨a1, a2, a3, a4, a5⟩ := hf
      exact ⟨(okRs_app _ _).mpr ⟨a1, (okRs_one _).mpr a2⟩, trivial, by show (f.full ++ [f.parts]).length ≤ 3; rw [List.length_append]; simp; omega, fun z => absurd hk z, a5⟩
    · exact h3 x (List.mem_cons_of_mem _ hx)
  · cases fs with
    | nil => exact h4
    | cons g fs => exact ⟨h4.1, h4.2⟩
  · refine ⟨?_, ?_, h5.2.2⟩
    · show 0 + _ ≤ _
      have := h5.1; omega
    · show depRs (f.full ++ [f.parts]) + fs.length ≤ nest
      rw [depRs_snoc]
      have a1 := h5.1; have a2 := h5.2.1
      omega
theorem GInv.shut {nest k : Nat} {f g : Gm} {fs : List Gm} (h : GInv nest k (f :: g :: fs)) : GInv nest k (putG g (shutG f) :: fs) := by
  obtain ⟨h1, h2, h3, h4, h5⟩ := h
  have hf := h3 f List.mem_cons_self
  have hg := h3 g (List.mem_cons_of_mem _ List.mem_cons_self)
  have hk := h4.1
  refine ⟨by simp at h1 ⊢; omega, ?_, ?_, ?_, ?_⟩
  · have h2' : wF f + (wF g + wG fs) ≤ 4 * k + 4 := h2
    have t := toks_shutG hf.2.2.2.1 hk
    show (toksMore g.full).length + (toksR (g.parts ++ [shutG f])).length + 4 + wG fs ≤ _
    rw [toksR_append, List.length_append, toksR_one]
    unfold wF at h2' t
    omega
  · intro x hx
    rcases List.mem_cons.mp hx with rfl | hx
    · obtain ⟨a1, a2, a3, a4, a5⟩ := hg
      exact ⟨a1, (okR_app _ _).mpr ⟨a2, (okR_one _).mpr (ok_shutG hf hk)⟩, a3, a4, a5⟩
    · exact h3 x (List.mem_cons_of_mem _ (List.mem_cons_of_mem _ hx))
  · cases fs with
    | nil => exact h4.2
    | cons g' fs => exact ⟨h4.2.1, h4.2.2⟩
  · obtain ⟨d1, d2, d3, d4, d5⟩ := h5
    refine ⟨?_, d4, d5⟩
    show depR (g.parts ++ [shutG f]) + fs.length ≤ nest
    rw [depR_snoc]
    have := dep_shutG (f := f) (m := nest) (k := fs.length) d1 d2
    omega
theorem GInv.more {nest k k' : Nat} {fs : List Gm} (h : GInv nest k fs) (hk : k ≤ k') : GInv nest k' fs := ⟨h.len, by have := h.wt; omega, h.each, h.kinds, h.deep⟩
theorem wG_mem : ∀ {fs : List Gm} {f : Gm}, f ∈ fs → wF f ≤ wG fs
  | [], _, h => by simp at h
  | g :: fs, f, h => by
    show wF f ≤ wF g + wG fs
    rcases List.mem_cons.mp h with rfl | h
    · omega
    · have := wG_mem h; omega
theorem toksP_pos' (p : Pc) : 1 ≤ (toksP p).length := by cases p <;> simp [toksP]
theorem toksR_len' : ∀ r : List Pc, r.length ≤ (toksR r).length
  | [] => Nat.le_refl _
  | p :: r => by
    show r.length + 1 ≤ (toksP p ++ toksR r).length
    rw [List.length_append]
    have := toksR_len' r; have := toksP_pos' p; omega
theorem GInv.parts {nest k : Nat} {fs : List Gm} {f : Gm} (h : GInv nest k fs) (hf : f ∈ fs) : f.parts.length ≤ 4 * k + 4 := by
  have h1 := wG_mem hf; have h2 := h.wt; have h3 := toksR_len' f.parts
  unfold wF at h1; omega
theorem ixN43 : ixN 4 3 = some 3 := by decide
theorem ixN42 : ixN 4 2 = some 2 := by decide
theorem atI3x {α : Type} (a b c d : α) : atI [a, b, c, d] 3 = some d := rfl
abbrev gShutR : List D → Option (D × List D) := gE 1 5 (maskL [true]) fb_l_shut
theorem shutR_ok {f g : Gm} {fs : List Gm} (hk : 1 ≤ f.kd ∧ f.kd ≤ 3) (hf : f.kd ≠ 3 → f.full = []) (hfl : f.full.length ≤ 3) (hg : g.parts.length ≤ 900) : gShutR [.lst true (gmsD (f :: g :: fs))] = some (.non, [.lst true (gmsD (putG g (shutG f) :: fs))]) := by
  obtain ⟨kd, n, full, parts⟩ := f
  have hz : (pcsD g.parts).length < sizeLine := by rw [pcsD_len]; exact sz1 (by omega)
  have hz1 : (rowsD full).length + 1 ≤ sizeLine := by rw [rowsD_len]; exact sz (by have : full.length ≤ 3 := hfl; omega)
  have e : kd = 1 ∨ kd = 2 ∨ kd = 3 := by have : 1 ≤ kd ∧ kd ≤ 3 := hk; omega
  have h1 : (1 : Nat) ≤ sizeLine := by decide
  have h2 : (2 : Nat) ≤ sizeLine := by decide
  rcases e with rfl | rfl | rfl
  · have e1 : full = [] := hf (by simp [gP, fSeq, fSkip, fSet, fSetB, fPure, fIf, fTPure, fB, f2, fVar, fC, fImm, fRet, fRetL, fRetN, fExpr, fMut, fPNil, modP, getP, fCons, fNil, fLst, fTup, fKs, fCall, dEq, dNe, eqB, dB, dIx, dLen, hAppend, hExtend, hPop, hClear, fSeqI, dSeq, fPart, fNoPart, fSl, D.imm, D.imms, dList, dTuple, dAdd, fT, dTru, ofs_inj, atI0, atI1, atI2, fPIx, fSetIx, hSetIx, fNeg, fUnp, unpD, setD, tAndF, tOrF, tNotF, dLt, dLe, dGt, dGe, gE, outD, maskL, fIO, argsD, updA, dMod_ii, dDiv_ii, ixN_last, set_last, ixN0, L2.atI_last, ixN43, ixN42, atI3x])
    subst e1
    simp [gP, fSeq, fSkip, fSet, fSetB, fPure, fIf, fTPure, fB, f2, fVar, fC, fImm, fRet, fRetL, fRetN, fExpr, fMut, fPNil, modP, getP, fCons, fNil, fLst, fTup, fKs, fCall, dEq, dNe, eqB, dB, dIx, dLen, hAppend, hExtend, hPop, hClear, fSeqI, dSeq, fPart, fNoPart, fSl, D.imm, D.imms, dList, dTuple, dAdd, fT, dTru, ofs_inj, atI0, atI1, atI2, fPIx, fSetIx, hSetIx, fNeg, fUnp, unpD, setD, tAndF, tOrF, tNotF, dLt, dLe, dGt, dGe, gE, outD, maskL, fIO, argsD, updA, dMod_ii, dDiv_ii, ixN_last, set_last, ixN0, L2.atI_last, ixN43, ixN42, atI3x, fb_l_shut, gmsD, gmD, kdS, rowsD, pcs_imm, h1, hz, putG, shutG, pcsD_app, pcsD, pcD]
  · have e1 : full = [] := hf (by simp [gP, fSeq, fSkip, fSet, fSetB, fPure, fIf, fTPure, fB, f2, fVar, fC, fImm, fRet, fRetL, fRetN, fExpr, fMut, fPNil, modP, getP, fCons, fNil, fLst, fTup, fKs, fCall, dEq, dNe, eqB, dB, dIx, dLen, hAppend, hExtend, hPop, hClear, fSeqI, dSeq, fPart, fNoPart, fSl, D.imm, D.imms, dList, dTuple, dAdd, fT, dTru, ofs_inj, atI0, atI1, atI2, fPIx, fSetIx, hSetIx, fNeg, fUnp, unpD, setD, tAndF, tOrF, tNotF, dLt, dLe, dGt, dGe, gE, outD, maskL, fIO, argsD, updA, dMod_ii, dDiv_ii, ixN_last, set_last, ixN0, L2.atI_last, ixN43, ixN42, atI3x])
    subst e1
    simp [gP, fSeq, fSkip, fSet, fSetB, fPure, fIf, fTPure, fB, f2, fVar, fC, fImm, fRet, fRetL, fRetN, fExpr, fMut, fPNil, modP, getP, fCons, fNil, fLst, fTup, fKs, fCall, dEq, dNe, eqB, dB, dIx, dLen, hAppend, hExtend, hPop, hClear, fSeqI, dSeq, fPart, fNoPart, fSl, D.imm, D.imms, dList, dTuple, dAdd, fT, dTru, ofs_inj, atI0, atI1, atI2, fPIx, fSetIx, hSetIx, fNeg, fUnp, unpD, setD, tAndF, tOrF, tNotF, dLt, dLe, dGt, dGe, gE, outD, maskL, fIO, argsD, updA, dMod_ii, dDiv_ii, ixN_last, set_last, ixN0, L2.atI_last, ixN43, ixN42, atI3x, fb_l_shut, gmsD, gmD, kdS, rowsD, pcs_imm, h1, hz, putG, shutG, pcsD_app, pcsD, pcD]
  · cases full with
    | nil => simp [gP, fSeq, fSkip, fSet, fSetB, fPure, fIf, fTPure, fB, f2, fVar, fC, fImm, fRet, fRetL, fRetN, fExpr, fMut, fPNil, modP, getP, fCons, fNil, fLst, fTup, fKs, fCall, dEq, dNe, eqB, dB, dIx, dLen, hAppend, hExtend, hPop, hClear, fSeqI, dSeq, fPart, fNoPart, fSl, D.imm, D.imms, dList, dTuple, dAdd, fT, dTru, ofs_inj, atI0, atI1, atI2, fPIx, fSetIx, hSetIx, fNeg, fUnp, unpD, setD, tAndF, tOrF, tNotF, dLt, dLe, dGt, dGe, gE, outD, maskL, fIO, argsD, updA, dMod_ii, dDiv_ii, ixN_last, set_last, ixN0, L2.atI_last, ixN43, ixN42, atI3x, fb_l_shut, gmsD, gmD, kdS, rowsD, pcs_imm, h1, h2, hz, putG, shutG, shutR, orRow, pcsD_app, pcsD, pcD, leafD]
    | cons r rs =>
      have hz1' : (rowsD rs).length + 1 + 1 ≤ sizeLine := by rw [rowsD_len]; exact sz (by have : (r :: rs).length ≤ 3 := hfl; simp [gP, fSeq, fSkip, fSet, fSetB, fPure, fIf, fTPure, fB, f2, fVar, fC, fImm, fRet, fRetL, fRetN, fExpr, fMut, fPNil, modP, getP, fCons, fNil, fLst, fTup, fKs, fCall, dEq, dNe, eqB, dB, dIx, dLen, hAppend, hExtend, hPop, hClear, fSeqI, dSeq, fPart, fNoPart, fSl, D.imm, D.imms, dList, dTuple, dAdd, fT, dTru, ofs_inj, atI0, atI1, atI2, fPIx, fSetIx, hSetIx, fNeg, fUnp, unpD, setD, tAndF, tOrF, tNotF, dLt, dLe, dGt, dGe, gE, outD, maskL, fIO, argsD, updA, dMod_ii, dDiv_ii, ixN_last, set_last, ixN0, L2.atI_last, ixN43, ixN42, atI3x] at this; omega)
      have hn : ¬ (((rowsD rs).length : Int) + 1 + 1 < 2) := by omega
      simp [gP, fSeq, fSkip, fSet, fSetB, fPure, fIf, fTPure, fB, f2, fVar, fC, fImm, fRet, fRetL, fRetN, fExpr, fMut, fPNil, modP, getP, fCons, fNil, fLst, fTup, fKs, fCall, dEq, dNe, eqB, dB, dIx, dLen, hAppend, hExtend, hPop, hClear, fSeqI, dSeq, fPart, fNoPart, fSl, D.imm, D.imms, dList, dTuple, dAdd, fT, dTru, ofs_inj, atI0, atI1, atI2, fPIx, fSetIx, hSetIx, fNeg, fUnp, unpD, setD, tAndF, tOrF, tNotF, dLt, dLe, dGt, dGe, gE, outD, maskL, fIO, argsD, updA, dMod_ii, dDiv_ii, ixN_last, set_last, ixN0, L2.atI_last, ixN43, ixN42, atI3x, fb_l_shut, gmsD, gmD, kdS, rowsD, pcs_imm, rows_imm, imms_app, hz1', hn, hz, putG, shutG, shutR, pcsD_app, rowsD_app, pcsD, pcD]
end My
namespace My
open PySem PySem.Spec PyProof.Rows L2 L3
def ifR (GM : List D → Option D) (GS : List D → Option (D × List D)) (GL : List D → Option D) : PSt → Option (Fl × PSt) :=
  (fIf (fTPure (tAndF (fB (f2 dLt (fVar 7) (fC (.int 4)))) (fB (f2 dLe (fCall dLen (fCons (fVar 4) fNil)) (fVar 3)))))
   (fSeq (fSet 9 (fPure (f2 dIx (fLst (fKs [.str "group", .str "group", .str "hang", .str "either"])) (fVar 7))))
  (fExpr (fMut 4 fPNil (fCons (fLst (fCons (fImm (fVar 9)) (fCons (f2 dIx (fLst (fCons (fC (.int 1)) (fCons (fC (.int 2)) (fCons (fC (.int 4)) (fCons (f2 dMod (f2 dDiv (fVar 6) (fC (.int 13))) (fC (.int 13))) fNil))))) (f2 dMod (f2 dDiv (fVar 6) (fC (.int 169))) (fC (.int 4)))) (fCons (fLst fNil) (fCons (fLst fNil) fNil))))) fNil) hAppend)))
   (fIf (fTPure (tAndF (fB (f2 dEq (fVar 7) (fC (.int 4)))) (fB (f2 dGt (fCall dLen (fCons (fVar 4) fNil)) (fC (.int 1))))))
   (fExpr (fIO [.io 4] GS))
   (fIf (fTPure (tAndF (fB (f2 dLt (fVar 7) (fC (.int 7)))) (tAndF (fB (f2 dEq (fVar 8) (fC (.str "either")))) (fB (f2 dLt (fCall dLen (fCons (f2 dIx (f2 dIx (fVar 4) (fNeg (fC (.int 1)))) (fC (.int 2))) fNil)) (fC (.int 3)))))))
   (fSeq (fExpr (fMut 4 (fPIx 4 (fPIx 4 fPNil (fNeg (fC (.int 1)))) (fC (.int 2))) (fCons (fCall dTuple (fCons (f2 dIx (f2 dIx (fVar 4) (fNeg (fC (.int 1)))) (fC (.int 3))) fNil)) fNil) hAppend))
  (fSetIx 4 (fPIx 4 fPNil (fNeg (fC (.int 1)))) (fC (.int 3)) (fLst fNil)))
   (fExpr (fMut 4 (fPIx 4 (fPIx 4 fPNil (fNeg (fC (.int 1)))) (fC (.int 3))) (fCons (fCall GL (fCons (fCall GM (fCons (fVar 0) (fCons (fVar 5) (fCons (fC (.int 32)) fNil)))) fNil)) fNil) hAppend)))))
def bodyR (GM : List D → Option D) (GS : List D → Option (D × List D)) (GL : List D → Option D) : PSt → Option (Fl × PSt) :=
   (fSeq (fSet 6 (fPure (fCall GM (fCons (fVar 0) (fCons (fVar 5) (fCons (fC (.int 31)) fNil))))))
  (fSeq (fSet 7 (fPure (f2 dMod (fVar 6) (fC (.int 13)))))
  (fSeq (fSet 8 (fPure (fImm (f2 dIx (f2 dIx (fVar 4) (fNeg (fC (.int 1)))) (fC (.int 0))))))
  (ifR GM GS GL))))
section
variable {GM : List D → Option D} {GS : List D → Option (D × List D)} {GL : List D → Option D} {S : D} {x1 x2 x6 x7 x8 x9 : Option D} {nest : Nat} {f : Gm} {fs : List Gm} {i m : Int}
theorem rowB_head (hm : GM [S, .int i, .int 31] = some (.int m)) : bodyR GM GS GL [some S, x1, x2, some (.int nest), some (.lst true (gmsD (f :: fs))), some (.int i), x6, x7, x8, x9]
    = ifR GM GS GL [some S, x1, x2, some (.int nest), some (.lst true (gmsD (f :: fs))), some (.int i), some (.int m), some (.int (m % 13)), some (.str (kdS f.kd)), x9] := by
  unfold bodyR
  refine (fseq_nx (fset_ok (fcall_ok rfl hm))).trans ?_
  refine (fseq_nx (fset_ok (d := .int (m % 13)) (by simp [fSeq, fSkip, fSet, fPure, fIf, fTPure, fB, f2, fVar, fC, fImm, fRet, fExpr, fMut, fPNil, modP, getP, fCons, fNil, fLst, fTup, fKs, fCall, dEq, dNe, eqB, dB, dIx, dLen, hAppend, D.imm, D.imms, dTuple, dAdd, fT, dTru, ofs_inj, atI0, atI1, atI2, fPIx, fSetIx, hSetIx, fNeg, tAndF, tOrF, tNotF, dLt, dLe, dGt, dGe, fIO, argsD, updA, dMod_ii, dDiv_ii, ixN_last, set_last, ixN0, L2.atI_last, ixN43, ixN42, atI3x]))).trans ?_
  exact fseq_nx (fset_ok (d := .str (kdS f.kd)) (by simp [fSeq, fSkip, fSet, fPure, fIf, fTPure, fB, f2, fVar, fC, fImm, fRet, fExpr, fMut, fPNil, modP, getP, fCons, fNil, fLst, fTup, fKs, fCall, dEq, dNe, eqB, dB, dIx, dLen, hAppend, D.imm, D.imms, dTuple, dAdd, fT, dTru, ofs_inj, atI0, atI1, atI2, fPIx, fSetIx, hSetIx, fNeg, tAndF, tOrF, tNotF, dLt, dLe, dGt, dGe, fIO, argsD, updA, dMod_ii, dDiv_ii, ixN_last, set_last, ixN0, L2.atI_last, ixN43, ixN42, atI3x, gmsD, gmD]))
theorem num_at (a k : Int) (ha : 0 ≤ a ∧ a ≤ 12) : ∃ n : Int, atI [D.int 1, .int 2, .int 4, .int a] (k % 4) = some (.int n) ∧ 0 ≤ n ∧ n ≤ 12 := by
  have h0 := Int.emod_nonneg k (show (4 : Int) ≠ 0 by decide)
  have h1 := Int.emod_lt_of_pos k (show (0 : Int) < 4 by decide)
  obtain ⟨d, hd, e⟩ := atI_mem [D.int 1, .int 2, .int 4, .int a] (k % 4) h0 (by simpa using h1)
  simp only [List.mem_cons, List.not_mem_nil, or_false] at hd
  rcases hd with rfl | rfl | rfl | rfl
  · exact ⟨_, e, by decide, by decide⟩
  · exact ⟨_, e, by decide, by decide⟩
  · exact ⟨_, e, by decide, by decide⟩
  · exact ⟨_, e, ha⟩
theorem kind_at (m : Int) (h0 : 0 ≤ m % 13) (h : m % 13 < 4) : ∃ kd : Nat, atI [D.str (Str.ofString "group"), .str (Str.ofString "group"), .str (Str.ofString "hang"), .str (Str.ofString "either")] (m % 13) = some (.str (kdS kd)) ∧ 1 ≤ kd ∧ kd ≤ 3 := by
  have hn : m % 13 = 0 ∨ m % 13 = 1 ∨ m % 13 = 2 ∨ m % 13 = 3 := by omega
  rcases hn with e | e | e | e <;> rw [e]
  · exact ⟨1, rfl, by decide, by decide⟩
  · exact ⟨1, rfl, by decide, by decide⟩
  · exact ⟨2, rfl, by decide, by decide⟩
  · exact ⟨3, rfl, by decide, by decide⟩
theorem rowB_open (hw : m % 13 < 4) (hl : (f :: fs).length ≤ nest) (hz : (f :: fs).length ≤ 900) : ∃ kd n y9, ifR GM GS GL [some S, x1, x2, some (.int nest), some (.lst true (gmsD (f :: fs))), some (.int i), some (.int m), some (.int (m % 13)), x8, x9]
    = some (.nx, [some S, x1, x2, some (.int nest), some (.lst true (gmsD (⟨kd, n, [], []⟩ :: f :: fs))), some (.int i), some (.int m), some (.int (m % 13)), x8, y9]) ∧ (1 ≤ kd ∧ kd ≤ 3) ∧ 0 ≤ n ∧ n ≤ 12 := by
  have h0 := Int.emod_nonneg m (show (13 : Int) ≠ 0 by decide)
  have d0 := Int.emod_nonneg (m / 13) (show (13 : Int) ≠ 0 by decide)
  have d1 := Int.emod_lt_of_pos (m / 13) (show (0 : Int) < 13 by decide)
  obtain ⟨kd, q1, hk1, hk2⟩ := kind_at m h0 hw
  obtain ⟨n, q2, hn1, hn2⟩ := num_at (m / 13 % 13) (m / 169) (by omega)
  have hz' : (gmsD (f :: fs)).length < sizeLine := by rw [gmsD_len]; exact sz1 (by omega)
  have hl' : ((gmsD (f :: fs)).length : Int) ≤ (nest : Int) := by rw [gmsD_len]; omega
  refine ⟨kd, n, some (.str (kdS kd)), ?_, ⟨hk1, hk2⟩, hn1, hn2⟩
  have e : gmsD (⟨kd, n, [], []⟩ :: f :: fs) = gmsD (f :: fs) ++ [.lst true [.str (kdS kd), .int n, .lst true [], .lst true []]] := rfl
  rw [e]
  generalize gmsD (f :: fs) = N at hz' hl' ⊢
  simp [fSeq, fSkip, fSet, fPure, fIf, fTPure, fB, f2, fVar, fC, fImm, fRet, fExpr, fMut, fPNil, modP, getP, fCons, fNil, fLst, fTup, fKs, fCall, dEq, dNe, eqB, dB, dIx, dLen, hAppend, D.imm, D.imms, dTuple, dAdd, fT, dTru, ofs_inj, atI0, atI1, atI2, fPIx, fSetIx, hSetIx, fNeg, tAndF, tOrF, tNotF, dLt, dLe, dGt, dGe, fIO, argsD, updA, dMod_ii, dDiv_ii, ixN_last, set_last, ixN0, L2.atI_last, ixN43, ixN42, atI3x, ifR, hw, hl', q1, q2, hz']
theorem rowB_shut {g : Gm} (q : GS [.lst true (gmsD (f :: g :: fs))] = some (.non, [.lst true (gmsD (putG g (shutG f) :: fs))])) (hw : m % 13 = 4) :
    ifR GM GS GL [some S, x1, x2, some (.int nest), some (.lst true (gmsD (f :: g :: fs))), some (.int i), some (.int m), some (.int (m % 13)), x8, x9]
    = some (.nx, [some S, x1, x2, some (.int nest), some (.lst true (gmsD (putG g (shutG f) :: fs))), some (.int i), some (.int m), some (.int (m % 13)), x8, x9]) := by
  have hl : (gmsD (f :: g :: fs)).length = fs.length + 1 + 1 := by rw [gmsD_len]; rfl
  have hpos : (1 : Int) < ((fs.length : Int) + 1 + 1) := by omega
  generalize gmsD (f :: g :: fs) = N at q hl
  generalize gmsD (putG g (shutG f) :: fs) = M at q
  simp [fSeq, fSkip, fSet, fPure, fIf, fTPure, fB, f2, fVar, fC, fImm, fRet, fExpr, fMut, fPNil, modP, getP, fCons, fNil, fLst, fTup, fKs, fCall, dEq, dNe, eqB, dB, dIx, dLen, hAppend, D.imm, D.imms, dTuple, dAdd, fT, dTru, ofs_inj, atI0, atI1, atI2, fPIx, fSetIx, hSetIx, fNeg, tAndF, tOrF, tNotF, dLt, dLe, dGt, dGe, fIO, argsD, updA, dMod_ii, dDiv_ii, ixN_last, set_last, ixN0, L2.atI_last, ixN43, ixN42, atI3x, ifR, hw, hl, hpos, q]
theorem rowB_or (hw : ¬ (m % 13 < 4 ∧ (f :: fs).length ≤ nest)) (hw4 : ¬ (m % 13 = 4 ∧ fs ≠ [])) (hw7 : m % 13 < 7) (hk : f.kd = 3) (hf : f.full.length < 3) :
    ifR GM GS GL [some S, x1, x2, some (.int nest), some (.lst true (gmsD (f :: fs))), some (.int i), some (.int m), some (.int (m % 13)), some (.str (kdS f.kd)), x9]
    = some (.nx, [some S, x1, x2, some (.int nest), some (.lst true (gmsD ({ f with full := f.full ++ [f.parts], parts := [] } :: fs))), some (.int i), some (.int m), some (.int (m % 13)), some (.str (kdS f.kd)), x9]) := by
  obtain ⟨kd, n, full, parts⟩ := f
  have hk' : kd = 3 := hk
  subst hk'
  have hz : (rowsD full).length < sizeLine := by rw [rowsD_len]; exact sz1 (by have : full.length < 3 := hf; omega)
  have hf' : ((rowsD full).length : Int) < 3 := by rw [rowsD_len]; have : full.length < 3 := hf; omega
  have er : rowsD (full ++ [parts]) = rowsD full ++ [.tup (pcsD parts)] := by rw [rowsD_app]; rfl
  have c1 : fTPure (tAndF (fB (f2 dLt (fVar 7) (fC (.int 4)))) (fB (f2 dLe (fCall dLen (fCons (fVar 4) fNil)) (fVar 3)))) [some S, x1, x2, some (.int nest), some (.lst true (gmsD (⟨3, n, full, parts⟩ :: fs))), some (.int i), some (.int m), some (.int (m % 13)), some (.str (kdS 3)), x9] = some (false, [some S, x1, x2, some (.int nest), some (.lst true (gmsD (⟨3, n, full, parts⟩ :: fs))), some (.int i), some (.int m), some (.int (m % 13)), some (.str (kdS 3)), x9]) := by
    by_cases a1 : m % 13 < 4
    · have a4 : ¬ (((gmsD (⟨3, n, full, parts⟩ :: fs)).length : Int) ≤ (nest : Int)) := by rw [gmsD_len]; exact fun w => hw ⟨a1, by omega⟩
      simp [fSeq, fSkip, fSet, fPure, fIf, fTPure, fB, f2, fVar, fC, fImm, fRet, fExpr, fMut, fPNil, modP, getP, fCons, fNil, fLst, fTup, fKs, fCall, dEq, dNe, eqB, dB, dIx, dLen, hAppend, D.imm, D.imms, dTuple, dAdd, fT, dTru, ofs_inj, atI0, atI1, atI2, fPIx, fSetIx, hSetIx, fNeg, tAndF, tOrF, tNotF, dLt, dLe, dGt, dGe, fIO, argsD, updA, dMod_ii, dDiv_ii, ixN_last, set_last, ixN0, L2.atI_last, ixN43, ixN42, atI3x, a1, a4]
    · simp [fSeq, fSkip, fSet, fPure, fIf, fTPure, fB, f2, fVar, fC, fImm, fRet, fExpr, fMut, fPNil, modP, getP, fCons, fNil, fLst, fTup, fKs, fCall, dEq, dNe, eqB, dB, dIx, dLen, hAppend, D.imm, D.imms, dTuple, dAdd, fT, dTru, ofs_inj, atI0, atI1, atI2, fPIx, fSetIx, hSetIx, fNeg, tAndF, tOrF, tNotF, dLt, dLe, dGt, dGe, fIO, argsD, updA, dMod_ii, dDiv_ii, ixN_last, set_last, ixN0, L2.atI_last, ixN43, ixN42, atI3x, a1]
  have c2 : fTPure (tAndF (fB (f2 dEq (fVar 7) (fC (.int 4)))) (fB (f2 dGt (fCall dLen (fCons (fVar 4) fNil)) (fC (.int 1))))) [some S, x1, x2, some (.int nest), some (.lst true (gmsD (⟨3, n, full, parts⟩ :: fs))), some (.int i), some (.int m), some (.int (m % 13)), some (.str (kdS 3)), x9] = some (false, [some S, x1, x2, some (.int nest), some (.lst true (gmsD (⟨3, n, full, parts⟩ :: fs))), some (.int i), some (.int m), some (.int (m % 13)), some (.str (kdS 3)), x9]) := by
    by_cases a1 : m % 13 = 4
    · have a4 : ¬ ((1 : Int) < ((gmsD (⟨3, n, full, parts⟩ :: fs)).length : Int)) := by
        rw [gmsD_len]
        intro w
        refine hw4 ⟨a1, fun z => ?_⟩
        rw [z] at w; simp [fSeq, fSkip, fSet, fPure, fIf, fTPure, fB, f2, fVar, fC, fImm, fRet, fExpr, fMut, fPNil, modP, getP, fCons, fNil, fLst, fTup, fKs, fCall, dEq, dNe, eqB, dB, dIx, dLen, hAppend, D.imm, D.imms, dTuple, dAdd, fT, dTru, ofs_inj, atI0, atI1, atI2, fPIx, fSetIx, hSetIx, fNeg, tAndF, tOrF, tNotF, dLt, dLe, dGt, dGe, fIO, argsD, updA, dMod_ii, dDiv_ii, ixN_last, set_last, ixN0, L2.atI_last, ixN43, ixN42, atI3x] at w
      simp [fSeq, fSkip, fSet, fPure, fIf, fTPure, fB, f2, fVar, fC, fImm, fRet, fExpr, fMut, fPNil, modP, getP, fCons, fNil, fLst, fTup, fKs, fCall, dEq, dNe, eqB, dB, dIx, dLen, hAppend, D.imm, D.imms, dTuple, dAdd, fT, dTru, ofs_inj, atI0, atI1, atI2, fPIx, fSetIx, hSetIx, fNeg, tAndF, tOrF, tNotF, dLt, dLe, dGt, dGe, fIO, argsD, updA, dMod_ii, dDiv_ii, ixN_last, set_last, ixN0, L2.atI_last, ixN43, ixN42, atI3x, a1, a4]
    · simp [fSeq, fSkip, fSet, fPure, fIf, fTPure, fB, f2, fVar, fC, fImm, fRet, fExpr, fMut, fPNil, modP, getP, fCons, fNil, fLst, fTup, fKs, fCall, dEq, dNe, eqB, dB, dIx, dLen, hAppend, D.imm, D.imms, dTuple, dAdd, fT, dTru, ofs_inj, atI0, atI1, atI2, fPIx, fSetIx, hSetIx, fNeg, tAndF, tOrF, tNotF, dLt, dLe, dGt, dGe, fIO, argsD, updA, dMod_ii, dDiv_ii, ixN_last, set_last, ixN0, L2.atI_last, ixN43, ixN42, atI3x, a1]
  unfold ifR
  refine (fif_f c1).trans ((fif_f c2).trans ?_)
  simp [fSeq, fSkip, fSet, fPure, fIf, fTPure, fB, f2, fVar, fC, fImm, fRet, fExpr, fMut, fPNil, modP, getP, fCons, fNil, fLst, fTup, fKs, fCall, dEq, dNe, eqB, dB, dIx, dLen, hAppend, D.imm, D.imms, dTuple, dAdd, fT, dTru, ofs_inj, atI0, atI1, atI2, fPIx, fSetIx, hSetIx, fNeg, tAndF, tOrF, tNotF, dLt, dLe, dGt, dGe, fIO, argsD, updA, dMod_ii, dDiv_ii, ixN_last, set_last, ixN0, L2.atI_last, ixN43, ixN42, atI3x, hw7, gmsD, gmD, kdS, hf', hz, er, pcs_imm, pcsD]
theorem rowB_leaf {l : Leaf} {m2 : Int} (hm2 : GM [S, .int i, .int 32] = some (.int m2)) (hL : GL [.int m2] = some (leafD l)) (hz : f.parts.length ≤ 900)
    (hw : ¬ (m % 13 < 4 ∧ (f :: fs).length ≤ nest)) (hw4 : ¬ (m % 13 = 4 ∧ fs ≠ [])) (h3 : ¬ (m % 13 < 7 ∧ f.kd = 3 ∧ f.full.length < 3)) (hkd : f.kd ≤ 3) :
    ifR GM GS GL [some S, x1, x2, some (.int nest), some (.lst true (gmsD (f :: fs))), some (.int i), some (.int m), some (.int (m % 13)), some (.str (kdS f.kd)), x9]
    = some (.nx, [some S, x1, x2, some (.int nest), some (.lst true (gmsD (putG f (.leaf l) :: fs))), some (.int i), some (.int m), some (.int (m % 13)), some (.str (kdS f.kd)), x9]) := by
  have hz' : (pcsD f.parts).length < sizeLine := by rw [pcsD_len]; exact sz1 (by omega)
  have ep : pcsD (f.parts ++ [.leaf l]) = pcsD f.parts ++ [leafD l] := by rw [pcsD_app]; rfl
  have c1 : fTPure (tAndF (fB (f2 dLt (fVar 7) (fC (.int 4)))) (fB (f2 dLe (fCall dLen (fCons (fVar 4) fNil)) (fVar 3)))) [some S, x1, x2, some (.int nest), some (.lst true (gmsD (f :: fs))), some (.int i), some (.int m), some (.int (m % 13)), some (.str (kdS f.kd)), x9] = some (false, [some S, x1, x2, some (.int nest), some (.lst true (gmsD (f :: fs))), some (.int i), some (.int m), some (.int (m % 13)), some (.str (kdS f.kd)), x9]) := by
    by_cases a1 : m % 13 < 4
    · have a4 : ¬ (((gmsD (f :: fs)).length : Int) ≤ (nest : Int)) := by rw [gmsD_len]; exact fun w => hw ⟨a1, by omega⟩
      simp [fSeq, fSkip, fSet, fPure, fIf, fTPure, fB, f2, fVar, fC, fImm, fRet, fExpr, fMut, fPNil, modP, getP, fCons, fNil, fLst, fTup, fKs, fCall, dEq, dNe, eqB, dB, dIx, dLen, hAppend, D.imm, D.imms, dTuple, dAdd, fT, dTru, ofs_inj, atI0, atI1, atI2, fPIx, fSetIx, hSetIx, fNeg, tAndF, tOrF, tNotF, dLt, dLe, dGt, dGe, fIO, argsD, updA, dMod_ii, dDiv_ii, ixN_last, set_last, ixN0, L2.atI_last, ixN43, ixN42, atI3x, a1, a4]
    · simp [fSeq, fSkip, fSet, fPure, fIf, fTPure, fB, f2, fVar, fC, fImm, fRet, fExpr, fMut, fPNil, modP, getP, fCons, fNil, fLst, fTup, fKs, fCall, dEq, dNe, eqB, dB, dIx, dLen, hAppend, D.imm, D.imms, dTuple, dAdd, fT, dTru, ofs_inj, atI0, atI1, atI2, fPIx, fSetIx, hSetIx, fNeg, tAndF, tOrF, tNotF, dLt, dLe, dGt, dGe, fIO, argsD, updA, dMod_ii, dDiv_ii, ixN_last, set_last, ixN0, L2.atI_last, ixN43, ixN42, atI3x, a1]
  have c2 : fTPure (tAndF (fB (f2 dEq (fVar 7) (fC (.int 4)))) (fB (f2 dGt (fCall dLen (fCons (fVar 4) fNil)) (fC (.int 1))))) [some S, x1, x2, some (.int nest), some (.lst true (gmsD (f :: fs))), some (.int i), some (.int m), some (.int (m % 13)), some (.str (kdS f.kd)), x9] = some (false, [some S, x1, x2, some (.int nest), some (.lst true (gmsD (f :: fs))), some (.int i), some (.int m), some (.int (m % 13)), some (.str (kdS f.kd)), x9]) := by
    by_cases a1 : m % 13 = 4
    · have a4 : ¬ ((1 : Int) < ((gmsD (f :: fs)).length : Int)) := by
        rw [gmsD_len]
        intro w
        refine hw4 ⟨a1, fun z => ?_⟩
        rw [z] at w; simp [fSeq, fSkip, fSet, fPure, fIf, fTPure, fB, f2, fVar, fC, fImm, fRet, fExpr, fMut, fPNil, modP, getP, fCons, fNil, fLst, fTup, fKs, fCall, dEq, dNe, eqB, dB, dIx, dLen, hAppend, D.imm, D.imms, dTuple, dAdd, fT, dTru, ofs_inj, atI0, atI1, atI2, fPIx, fSetIx, hSetIx, fNeg, tAndF, tOrF, tNotF, dLt, dLe, dGt, dGe, fIO, argsD, updA, dMod_ii, dDiv_ii, ixN_last, set_last, ixN0, L2.atI_last, ixN43, ixN42, atI3x] at w
      simp [fSeq, fSkip, fSet, fPure, fIf, fTPure, fB, f2, fVar, fC, fImm, fRet, fExpr, fMut, fPNil, modP, getP, fCons, fNil, fLst, fTup, fKs, fCall, dEq, dNe, eqB, dB, dIx, dLen, hAppend, D.imm, D.imms, dTuple, dAdd, fT, dTru, ofs_inj, atI0, atI1, atI2, fPIx, fSetIx, hSetIx, fNeg, tAndF, tOrF, tNotF, dLt, dLe, dGt, dGe, fIO, argsD, updA, dMod_ii, dDiv_ii, ixN_last, set_last, ixN0, L2.atI_last, ixN43, ixN42, atI3x, a1, a4]
    · simp [fSeq, fSkip, fSet, fPure, fIf, fTPure, fB, f2, fVar, fC, fImm, fRet, fExpr, fMut, fPNil, modP, getP, fCons, fNil, fLst, fTup, fKs, fCall, dEq, dNe, eqB, dB, dIx, dLen, hAppend, D.imm, D.imms, dTuple, dAdd, fT, dTru, ofs_inj, atI0, atI1, atI2, fPIx, fSetIx, hSetIx, fNeg, tAndF, tOrF, tNotF, dLt, dLe, dGt, dGe, fIO, argsD, updA, dMod_ii, dDiv_ii, ixN_last, set_last, ixN0, L2.atI_last, ixN43, ixN42, atI3x, a1]
  have c3 : fTPure (tAndF (fB (f2 dLt (fVar 7) (fC (.int 7)))) (tAndF (fB (f2 dEq (fVar 8) (fC (.str "either")))) (fB (f2 dLt (fCall dLen (fCons (f2 dIx (f2 dIx (fVar 4) (fNeg (fC (.int 1)))) (fC (.int 2))) fNil)) (fC (.int 3)))))) [some S, x1, x2, some (.int nest), some (.lst true (gmsD (f :: fs))), some (.int i), some (.int m), some (.int (m % 13)), some (.str (kdS f.kd)), x9] = some (false, [some S, x1, x2, some (.int nest), some (.lst true (gmsD (f :: fs))), some (.int i), some (.int m), some (.int (m % 13)), some (.str (kdS f.kd)), x9]) := by
    by_cases a1 : m % 13 < 7
    · have hk : f.kd = 0 ∨ f.kd = 1 ∨ f.kd = 2 ∨ f.kd = 3 := by omega
      rcases hk with e | e | e | e
      · simp [fSeq, fSkip, fSet, fPure, fIf, fTPure, fB, f2, fVar, fC, fImm, fRet, fExpr, fMut, fPNil, modP, getP, fCons, fNil, fLst, fTup, fKs, fCall, dEq, dNe, eqB, dB, dIx, dLen, hAppend, D.imm, D.imms, dTuple, dAdd, fT, dTru, ofs_inj, atI0, atI1, atI2, fPIx, fSetIx, hSetIx, fNeg, tAndF, tOrF, tNotF, dLt, dLe, dGt, dGe, fIO, argsD, updA, dMod_ii, dDiv_ii, ixN_last, set_last, ixN0, L2.atI_last, ixN43, ixN42, atI3x, a1, e, kdS]
      · simp [fSeq, fSkip, fSet, fPure, fIf, fTPure, fB, f2, fVar, fC, fImm, fRet, fExpr, fMut, fPNil, modP, getP, fCons, fNil, fLst, fTup, fKs, fCall, dEq, dNe, eqB, dB, dIx, dLen, hAppend, D.imm, D.imms, dTuple, dAdd, fT, dTru, ofs_inj, atI0, atI1, atI2, fPIx, fSetIx, hSetIx, fNeg, tAndF, tOrF, tNotF, dLt, dLe, dGt, dGe, fIO, argsD, updA, dMod_ii, dDiv_ii, ixN_last, set_last, ixN0, L2.atI_last, ixN43, ixN42, atI3x, a1, e, kdS]
      · simp [fSeq, fSkip, fSet, fPure, fIf, fTPure, fB, f2, fVar, fC, fImm, fRet, fExpr, fMut, fPNil, modP, getP, fCons, fNil, fLst, fTup, fKs, fCall, dEq, dNe, eqB, dB, dIx, dLen, hAppend, D.imm, D.imms, dTuple, dAdd, fT, dTru, ofs_inj, atI0, atI1, atI2, fPIx, fSetIx, hSetIx, fNeg, tAndF, tOrF, tNotF, dLt, dLe, dGt, dGe, fIO, argsD, updA, dMod_ii, dDiv_ii, ixN_last, set_last, ixN0, L2.atI_last, ixN43, ixN42, atI3x, a1, e, kdS]
      · have a4 : ¬ (((rowsD f.full).length : Int) < 3) := by rw [rowsD_len]; exact fun w => h3 ⟨a1, e, by omega⟩
        simp [fSeq, fSkip, fSet, fPure, fIf, fTPure, fB, f2, fVar, fC, fImm, fRet, fExpr, fMut, fPNil, modP, getP, fCons, fNil, fLst, fTup, fKs, fCall, dEq, dNe, eqB, dB, dIx, dLen, hAppend, D.imm, D.imms, dTuple, dAdd, fT, dTru, ofs_inj, atI0, atI1, atI2, fPIx, fSetIx, hSetIx, fNeg, tAndF, tOrF, tNotF, dLt, dLe, dGt, dGe, fIO, argsD, updA, dMod_ii, dDiv_ii, ixN_last, set_last, ixN0, L2.atI_last, ixN43, ixN42, atI3x, a1, e, kdS, gmsD, gmD, a4]
    · simp [fSeq, fSkip, fSet, fPure, fIf, fTPure, fB, f2, fVar, fC, fImm, fRet, fExpr, fMut, fPNil, modP, getP, fCons, fNil, fLst, fTup, fKs, fCall, dEq, dNe, eqB, dB, dIx, dLen, hAppend, D.imm, D.imms, dTuple, dAdd, fT, dTru, ofs_inj, atI0, atI1, atI2, fPIx, fSetIx, hSetIx, fNeg, tAndF, tOrF, tNotF, dLt, dLe, dGt, dGe, fIO, argsD, updA, dMod_ii, dDiv_ii, ixN_last, set_last, ixN0, L2.atI_last, ixN43, ixN42, atI3x, a1]
  unfold ifR
  refine (fif_f c1).trans ((fif_f c2).trans ((fif_f c3).trans ?_))
  simp [fSeq, fSkip, fSet, fPure, fIf, fTPure, fB, f2, fVar, fC, fImm, fRet, fExpr, fMut, fPNil, modP, getP, fCons, fNil, fLst, fTup, fKs, fCall, dEq, dNe, eqB, dB, dIx, dLen, hAppend, D.imm, D.imms, dTuple, dAdd, fT, dTru, ofs_inj, atI0, atI1, atI2, fPIx, fSetIx, hSetIx, fNeg, tAndF, tOrF, tNotF, dLt, dLe, dGt, dGe, fIO, argsD, updA, dMod_ii, dDiv_ii, ixN_last, set_last, ixN0, L2.atI_last, ixN43, ixN42, atI3x, gmsD, gmD, putG, ep, hz', hm2, hL]
end
end My
namespace My
open PySem PySem.Spec PyProof.Rows L2 L3
section
variable {GM : List D → Option D} {GS : List D → Option (D × List D)} {GL : List D → Option D} {S : D} {x1 x2 x6 x7 x8 x9 : Option D} {nest k : Nat} {fs : List Gm} {i : Int}
theorem kinds_cons {f : Gm} {fs : List Gm} (h : KindsG (f :: fs)) : f.kd ≤ 3 := by
  cases fs with
  | nil => have : f.kd = 0 := h; omega
  | cons g fs => exact h.1.2
theorem rowB_ok (hS : ∀ (f g : Gm) (fs : List Gm), (1 ≤ f.kd ∧ f.kd ≤ 3) → (f.kd ≠ 3 → f.full = []) → f.full.length ≤ 3 → g.parts.length ≤ 900 → GS [.lst true (gmsD (f :: g :: fs))] = some (.non, [.lst true (gmsD (putG g (shutG f) :: fs))]))
    (hL : ∀ m, 0 ≤ m → ∃ l, GL [.int m] = some (leafD l) ∧ LeafOk l) (hM : ∀ s : Int, s = 31 ∨ s = 32 → ∃ m, GM [S, .int i, .int s] = some (.int m) ∧ 0 ≤ m) (h : GInv nest k fs) (hk : 4 * k + 4 ≤ 800) (hn : nest ≤ 100) :
    ∃ fs' y6 y7 y8 y9, bodyR GM GS GL [some S, x1, x2, some (.int nest), some (.lst true (gmsD fs)), some (.int i), x6, x7, x8, x9] = some (.nx, [some S, x1, x2, some (.int nest), some (.lst true (gmsD fs')), some (.int i), y6, y7, y8, y9]) ∧ GInv nest (k + 1) fs' := by
  obtain ⟨m, hm, hm0⟩ := hM 31 (.inl rfl)
  obtain ⟨m2, hm2, hm20⟩ := hM 32 (.inr rfl)
  have hln := h.len
  cases fs with
  | nil => exact h.kinds.elim
  | cons f fs =>
    have hd := rowB_head (GS := GS) (GL := GL) (x1 := x1) (x2 := x2) (x6 := x6) (x7 := x7) (x8 := x8) (x9 := x9) (nest := nest) (f := f) (fs := fs) hm
    by_cases c1 : m % 13 < 4 ∧ (f :: fs).length ≤ nest
    · obtain ⟨kd, n, y9, q, h1, h2⟩ := rowB_open (GM := GM) (GS := GS) (GL := GL) (S := S) (x1 := x1) (x2 := x2) (x8 := some (.str (kdS f.kd))) (x9 := x9) (i := i) c1.1 c1.2 (by omega)
      exact ⟨_, _, _, _, y9, hd.trans q, h.opener h1 h2 c1.2⟩
    · by_cases c2 : m % 13 = 4 ∧ fs ≠ []
      · cases fs with
        | nil => exact absurd rfl c2.2
        | cons g fs =>
          have hf := h.each f List.mem_cons_self
          have hg := h.parts (f := g) (List.mem_cons_of_mem _ List.mem_cons_self)
          have q := rowB_shut (GM := GM) (GL := GL) (S := S) (x1 := x1) (x2 := x2) (x8 := some (.str (kdS f.kd))) (x9 := x9) (nest := nest) (i := i) (hS f g fs h.kinds.1 hf.2.2.2.1 hf.2.2.1 (by omega)) c2.1
          exact ⟨_, _, _, _, _, hd.trans q, h.shut.more (by omega)⟩
      · by_cases c3 : m % 13 < 7 ∧ f.kd = 3 ∧ f.full.length < 3
        · have q := rowB_or (GM := GM) (GS := GS) (GL := GL) (S := S) (x1 := x1) (x2 := x2) (x9 := x9) (i := i) c1 c2 c3.1 c3.2.1 c3.2.2
          exact ⟨_, _, _, _, _, hd.trans q, h.orr c3.2.2 c3.2.1⟩
        · obtain ⟨l, hl, hlk⟩ := hL m2 hm20
          have q := rowB_leaf (GM := GM) (GS := GS) (GL := GL) (S := S) (x1 := x1) (x2 := x2) (x9 := x9) (i := i) hm2 hl (by have := h.parts (f := f) List.mem_cons_self; omega) c1 c2 c3 (kinds_cons h.kinds)
          exact ⟨_, _, _, _, _, hd.trans q, h.leaf hlk⟩
theorem rowL_ok (hS : ∀ (f g : Gm) (fs : List Gm), (1 ≤ f.kd ∧ f.kd ≤ 3) → (f.kd ≠ 3 → f.full = []) → f.full.length ≤ 3 → g.parts.length ≤ 900 → GS [.lst true (gmsD (f :: g :: fs))] = some (.non, [.lst true (gmsD (putG g (shutG f) :: fs))]))
    (hL : ∀ m, 0 ≤ m → ∃ l, GL [.int m] = some (leafD l) ∧ LeafOk l) (hn : nest ≤ 100) : ∀ (l : List Int) (fs : List Gm) (k : Nat) (x5 x6 x7 x8 x9 : Option D), (∀ j ∈ l, ∀ s : Int, s = 31 ∨ s = 32 → ∃ m, GM [S, .int j, .int s] = some (.int m) ∧ 0 ≤ m) → GInv nest k fs → 4 * (k + l.length) + 4 ≤ 800 →
    ∃ fs' y5 y6 y7 y8 y9, fForD 5 (bodyR GM GS GL) (l.map .int) [some S, x1, x2, some (.int nest), some (.lst true (gmsD fs)), x5, x6, x7, x8, x9] = some (.nx, [some S, x1, x2, some (.int nest), some (.lst true (gmsD fs')), y5, y6, y7, y8, y9]) ∧ GInv nest (k + l.length) fs'
  | [], fs, k, x5, x6, x7, x8, x9, _, h, _ => ⟨fs, x5, x6, x7, x8, x9, by simp [fSeq, fSkip, fSet, fPure, fIf, fTPure, fB, f2, fVar, fC, fImm, fRet, fExpr, fCons, fNil, fLst, fCall, dB, dIx, dLen, dGt, D.imm, D.imms, dTuple, dAdd, fT, dTru, atI0, atI1, atI2, fIO, argsD, updA, atI3x, fForD], h⟩
  | j :: l, fs, k, x5, x6, x7, x8, x9, hM, h, hk => by
    rw [List.length_cons] at hk
    obtain ⟨fs1, y6, y7, y8, y9, q, h1⟩ := rowB_ok (x1 := x1) (x2 := x2) (x6 := x6) (x7 := x7) (x8 := x8) (x9 := x9) hS hL (hM j List.mem_cons_self) h (by omega) hn
    obtain ⟨fs2, z5, z6, z7, z8, z9, q2, h2⟩ := rowL_ok hS hL hn l fs1 (k + 1) (some (.int j)) y6 y7 y8 y9 (fun i hi => hM i (List.mem_cons_of_mem _ hi)) h1 (by omega)
    refine ⟨fs2, z5, z6, z7, z8, z9, ?_, (show k + 1 + l.length = k + (j :: l).length by rw [List.length_cons]; omega) ▸ h2⟩
    rw [← q2]
    show (bodyR GM GS GL [some S, x1, x2, some (.int nest), some (.lst true (gmsD fs)), some (.int j), x6, x7, x8, x9]).bind _ = _
    rw [q]; rfl
def whileR (GS : List D → Option (D × List D)) (n : Nat) : PSt → Option (Fl × PSt) := fWhile (fTPure (fB (f2 dGt (fCall dLen (fCons (fVar 4) fNil)) (fC (.int 1))))) (fExpr (fIO [.io 4] GS)) n
theorem rowW_ok {x0 x3 x5 : Option D} (hS : ∀ (f g : Gm) (fs : List Gm), (1 ≤ f.kd ∧ f.kd ≤ 3) → (f.kd ≠ 3 → f.full = []) → f.full.length ≤ 3 → g.parts.length ≤ 900 → GS [.lst true (gmsD (f :: g :: fs))] = some (.non, [.lst true (gmsD (putG g (shutG f) :: fs))])) (hk : 4 * k + 4 ≤ 800) :
    ∀ (n : Nat) (fs : List Gm), fs.length ≤ n → GInv nest k fs → ∃ f, whileR GS n [x0, x1, x2, x3, some (.lst true (gmsD fs)), x5, x6, x7, x8, x9] = some (.nx, [x0, x1, x2, x3, some (.lst true (gmsD [f])), x5, x6, x7, x8, x9]) ∧ GInv nest k [f]
  | 0, [], _, h => h.kinds.elim
  | 0, _ :: _, hl, _ => by simp [fSeq, fSkip, fSet, fPure, fIf, fTPure, fB, f2, fVar, fC, fImm, fRet, fExpr, fCons, fNil, fLst, fCall, dB, dIx, dLen, dGt, D.imm, D.imms, dTuple, dAdd, fT, dTru, atI0, atI1, atI2, fIO, argsD, updA, atI3x] at hl
  | n + 1, [], _, h => h.kinds.elim
  | n + 1, [f], _, h => by
    refine ⟨f, ?_, h⟩
    unfold whileR
    rw [fWhile]
    have hl : (gmsD [f]).length = 1 := rfl
    generalize gmsD [f] = N at hl ⊢
    simp [fSeq, fSkip, fSet, fPure, fIf, fTPure, fB, f2, fVar, fC, fImm, fRet, fExpr, fCons, fNil, fLst, fCall, dB, dIx, dLen, dGt, D.imm, D.imms, dTuple, dAdd, fT, dTru, atI0, atI1, atI2, fIO, argsD, updA, atI3x, hl]
  | n + 1, f :: g :: fs, hl, h => by
    have hf := h.each f List.mem_cons_self
    have hg := h.parts (f := g) (List.mem_cons_of_mem _ List.mem_cons_self)
    have q := hS f g fs h.kinds.1 hf.2.2.2.1 hf.2.2.1 (by omega)
    obtain ⟨f', w, h'⟩ := rowW_ok (x0 := x0) (x3 := x3) (x5 := x5) hS hk n (putG g (shutG f) :: fs) (by simp [fSeq, fSkip, fSet, fPure, fIf, fTPure, fB, f2, fVar, fC, fImm, fRet, fExpr, fCons, fNil, fLst, fCall, dB, dIx, dLen, dGt, D.imm, D.imms, dTuple, dAdd, fT, dTru, atI0, atI1, atI2, fIO, argsD, updA, atI3x] at hl ⊢; omega) h.shut
    refine ⟨f', ?_, h'⟩
    rw [← w]
    have hl2 : (gmsD (f :: g :: fs)).length = fs.length + 1 + 1 := by rw [gmsD_len]; rfl
    have hpos : (1 : Int) < ((fs.length : Int) + 1 + 1) := by omega
    show fWhile _ _ (n + 1) _ = _
    rw [fWhile]
    generalize gmsD (f :: g :: fs) = N at q hl2 ⊢
    generalize gmsD (putG g (shutG f) :: fs) = M at q ⊢
    simp [fSeq, fSkip, fSet, fPure, fIf, fTPure, fB, f2, fVar, fC, fImm, fRet, fExpr, fCons, fNil, fLst, fCall, dB, dIx, dLen, dGt, D.imm, D.imms, dTuple, dAdd, fT, dTru, atI0, atI1, atI2, fIO, argsD, updA, atI3x, hl2, hpos, q, whileR]
def rowF (n : Nat) (GM : List D → Option D) (GS : List D → Option (D × List D)) (GL : List D → Option D) : PSt → Option (Fl × PSt) :=
  fSeq (fSet 4 (fPure (fLst (fCons (fLst (fCons (fC (.str "top")) (fCons (fC (.int 0)) (fCons (fLst fNil) (fCons (fLst fNil) fNil))))) fNil)))) (fSeq (fFor 5 (fRng2 (fCons (fVar 1) (fCons (f2 dAdd (fVar 1) (fVar 2)) fNil))) (bodyR GM GS GL)) (fSeq (whileR GS n) (fRet (fPure (fCall dTuple (fCons (f2 dIx (f2 dIx (fVar 4) (fC (.int 0))) (fC (.int 3))) fNil))))))
structure RowOk (nest w : Nat) (r : List Pc) : Prop where
  ok : okR r
  dep : depR r ≤ nest
  len : (toksR r).length ≤ w
theorem row_n {a many n : Nat} (hS : ∀ (f g : Gm) (fs : List Gm), (1 ≤ f.kd ∧ f.kd ≤ 3) → (f.kd ≠ 3 → f.full = []) → f.full.length ≤ 3 → g.parts.length ≤ 900 → GS [.lst true (gmsD (f :: g :: fs))] = some (.non, [.lst true (gmsD (putG g (shutG f) :: fs))]))
    (hL : ∀ m, 0 ≤ m → ∃ l, GL [.int m] = some (leafD l) ∧ LeafOk l) (hM : ∀ j s : Int, (a : Int) ≤ j ∧ j < a + many → s = 31 ∨ s = 32 → ∃ m, GM [S, .int j, .int s] = some (.int m) ∧ 0 ≤ m) (hn : nest ≤ 100) (hmany : many ≤ 90) (ha : a ≤ 1000) (hnn : nest < n) :
    ∃ r, gP 4 6 (rowF n GM GS GL) [S, .int a, .int many, .int nest] = some (.tup (pcsD r)) ∧ RowOk nest (4 * many) r := by
  have i0 : GInv nest 0 [⟨0, 0, [], []⟩] := ⟨by simp [fSeq, fSkip, fSet, fPure, fIf, fTPure, fB, f2, fVar, fC, fImm, fRet, fExpr, fCons, fNil, fLst, fCall, dB, dIx, dLen, dGt, D.imm, D.imms, dTuple, dAdd, fT, dTru, atI0, atI1, atI2, fIO, argsD, updA, atI3x], by decide, fun f hf => by rw [List.mem_singleton.mp hf]; exact ⟨trivial, trivial, Nat.zero_le _, fun _ => rfl, Int.le_refl _, by decide⟩, rfl, ⟨Nat.zero_le _, Nat.zero_le _, trivial⟩⟩
  obtain ⟨fs1, y5, y6, y7, y8, y9, q, h1⟩ := rowL_ok (GM := GM) (GS := GS) (GL := GL) (S := S) (x1 := some (.int a)) (x2 := some (.int many)) hS hL hn ((List.range many).map fun (k : Nat) => (a : Int) + (k : Int)) [⟨0, 0, [], []⟩] 0 none none none none none
    (fun j hj s hs => by obtain ⟨k, hk, rfl⟩ := List.mem_map.mp hj; have := List.mem_range.mp hk; exact hM _ s (by omega) hs) i0 (by simp [fSeq, fSkip, fSet, fPure, fIf, fTPure, fB, f2, fVar, fC, fImm, fRet, fExpr, fCons, fNil, fLst, fCall, dB, dIx, dLen, dGt, D.imm, D.imms, dTuple, dAdd, fT, dTru, atI0, atI1, atI2, fIO, argsD, updA, atI3x]; omega)
  rw [← intsDi] at q
  rw [List.length_map, List.length_range, Nat.zero_add] at h1
  have hln := h1.len
  obtain ⟨f, w, h2⟩ := rowW_ok (GS := GS) (x0 := some S) (x1 := some (.int a)) (x2 := some (.int many)) (x3 := some (.int nest)) (x5 := y5) (x6 := y6) (x7 := y7) (x8 := y8) (x9 := y9) hS (by omega) n fs1 (by omega) h1
  have hf := h2.each f List.mem_cons_self
  have hd := h2.deep.1
  have hwt : wF f + 0 ≤ 4 * many + 4 := h2.wt
  refine ⟨f.parts, ?_, hf.2.1, by simpa using hd, by unfold wF at hwt; omega⟩
  have e : ((a : Int) + (many : Int) - (a : Int)).toNat = many := by omega
  have s0 : fSet 4 (fPure (fLst (fCons (fLst (fCons (fC (.str "top")) (fCons (fC (.int 0)) (fCons (fLst fNil) (fCons (fLst fNil) fNil))))) fNil))) [some S, some (.int a), some (.int many), some (.int nest), none, none, none, none, none, none] = some (.nx, [some S, some (.int a), some (.int many), some (.int nest), some (.lst true (gmsD [⟨0, 0, [], []⟩])), none, none, none, none, none]) := fset_ok rfl
  have s1 : fFor 5 (fRng2 (fCons (fVar 1) (fCons (f2 dAdd (fVar 1) (fVar 2)) fNil))) (bodyR GM GS GL) [some S, some (.int a), some (.int many), some (.int nest), some (.lst true (gmsD [⟨0, 0, [], []⟩])), none, none, none, none, none] = some (.nx, [some S, some (.int a), some (.int many), some (.int nest), some (.lst true (gmsD fs1)), y5, y6, y7, y8, y9]) := by
    have e1 : fCons (fVar 1) (fCons (f2 dAdd (fVar 1) (fVar 2)) fNil) [some S, some (.int a), some (.int many), some (.int nest), some (.lst true (gmsD [⟨0, 0, [], []⟩])), none, none, none, none, none] = some [.int a, .int ((a : Int) + (many : Int))] := rfl
    unfold fFor fRng2
    rw [e1, Option.bind_some, rng2_ok (by omega) (by omega) (by omega) (by omega), e]
    exact q
  have s3 : fCall dTuple (fCons (f2 dIx (f2 dIx (fVar 4) (fC (.int 0))) (fC (.int 3))) fNil) [some S, some (.int a), some (.int many), some (.int nest), some (.lst true (gmsD [f])), y5, y6, y7, y8, y9] = some (.tup (pcsD f.parts)) := by
    show fCall dTuple (fCons (f2 dIx (f2 dIx (fVar 4) (fC (.int 0))) (fC (.int 3))) fNil) [some S, some (.int a), some (.int many), some (.int nest), some (.lst true [.lst true [.str (kdS f.kd), .int f.n, .lst true (rowsD f.full), .lst true (pcsD f.parts)]]), y5, y6, y7, y8, y9] = _
    simp [fSeq, fSkip, fSet, fPure, fIf, fTPure, fB, f2, fVar, fC, fImm, fRet, fExpr, fCons, fNil, fLst, fCall, dB, dIx, dLen, dGt, D.imm, D.imms, dTuple, dAdd, fT, dTru, atI0, atI1, atI2, fIO, argsD, updA, atI3x, pcs_imm]
  have z := (fseq_nx s0).trans ((fseq_nx s1).trans ((fseq_nx w).trans (fret_ok s3)))
  exact gP_ret rfl z
end
abbrev gRow (GM GL : List D → Option D) : List D → Option D := gP 4 6 (fb_l_row GM gShutR GL)
theorem row_ok {GM GL : List D → Option D} {S : D} {nest a many : Nat} (hL : ∀ m, 0 ≤ m → ∃ l, GL [.int m] = some (leafD l) ∧ LeafOk l) (hM : ∀ j s : Int, (a : Int) ≤ j ∧ j < a + many → s = 31 ∨ s = 32 → ∃ m, GM [S, .int j, .int s] = some (.int m) ∧ 0 ≤ m) (hn : nest ≤ 100) (hmany : many ≤ 90) (ha : a ≤ 1000) :
    ∃ r, gRow GM GL [S, .int a, .int many, .int nest] = some (.tup (pcsD r)) ∧ RowOk nest (4 * many) r := by
  obtain ⟨r, h1, h2⟩ := row_n (n := 400) (GS := gShutR) (fun f g fs h1 h2 h3 h4 => shutR_ok h1 h2 h3 h4) hL hM hn hmany ha (Nat.lt_of_le_of_lt hn (by decide))
  exact ⟨r, h1, h2⟩
end My
namespace My
open PySem PySem.Spec PyProof.Rows L2 L3
def iS (i : Int) : Str := (toString i : String)
theorem iS_len {i : Int} (h0 : 0 ≤ i) (h1 : i ≤ 40) : (iS i).length ≤ 2 := by
  have h : ∀ n : Fin 41, (iS (n.val : Int)).length ≤ 2 := by decide +kernel
  have := h ⟨i.toNat, by omega⟩
  rwa [show ((i.toNat : Nat) : Int) = i by omega] at this
def signT : Tk → Str
  | .leaf (.word x) => ("'" : Str) ++ x
  | .leaf (.gap x) => if x = "" then "." else "_"
  | .leaf (.stop c) => ("\x40" : Str) ++ iS c
  | .leaf .fin => "/"
  | .opn => "["
  | .cls => "]"
  | .hng n => (">" : Str) ++ iS n
  | .bck => "<"
  | .eit => "{"
  | .orr => "|"
  | .don => "}"
def signsD (ts : List Tk) : List D := strsD (ts.map signT)
theorem signsD_app (a b : List Tk) : signsD (a ++ b) = signsD a ++ signsD b := by unfold signsD; rw [List.map_append, strsD_app]
theorem signsD_len (a : List Tk) : (signsD a).length = a.length := by unfold signsD; rw [strsD_len, List.length_map]
theorem signs_imm (a : List Tk) : D.imms (signsD a) = true := strs_imm _
theorem signsD_cons (t : Tk) (a : List Tk) : signsD (t :: a) = .str (signT t) :: signsD a := rfl
theorem sign_len {t : Tk} (h : TkOk t) : (signT t).length ≤ 13 := by
  cases t with
  | leaf l =>
    cases l with
    | word x => have h' : WordOk x := h; show (("'" : Str) ++ x).length ≤ 13; rw [append_length]; have := h'.2.1; show 1 + _ ≤ 13; omega
    | gap x => show (if x = "" then (".": Str) else "_").length ≤ 13; split <;> decide +kernel
    | stop c => have h' : 0 ≤ c ∧ c ≤ 40 := h; show (("\x40" : Str) ++ iS c).length ≤ 13; rw [append_length]; have := iS_len h'.1 h'.2; show 1 + _ ≤ 13; omega
    | fin => decide +kernel
  | hng n => have h' : 0 ≤ n ∧ n ≤ 12 := h; show ((">" : Str) ++ iS n).length ≤ 13; rw [append_length]; have := iS_len h'.1 (by omega); show 1 + _ ≤ 13; omega
  | _ => decide +kernel
mutual
theorem tk_okP : ∀ p : Pc, okP p → ∀ t ∈ toksP p, TkOk t
  | .leaf l, h, t, ht => by
    have e : t = .leaf l := by simpa [toksP] using ht
    subst e; exact h
  | .group r, h, t, ht => by
    simp only [toksP, List.mem_cons, List.mem_append, List.not_mem_nil, or_false] at ht
    rcases ht with rfl | ht | rfl
    · trivial
    · exact tk_okR r h t ht
    · trivial
  | .hang n r, h, t, ht => by
    simp only [toksP, List.mem_cons, List.mem_append, List.not_mem_nil, or_false] at ht
    rcases ht with rfl | ht | rfl
    · exact h.1
    · exact tk_okR r h.2 t ht
    · trivial
  | .either rs, h, t, ht => by
    simp only [toksP, List.mem_cons, List.mem_append, List.not_mem_nil, or_false] at ht
    rcases ht with rfl | ht | rfl
    · trivial
    · exact tk_okRows rs h.2 t ht
    · trivial
theorem tk_okR : ∀ r : List Pc, okR r → ∀ t ∈ toksR r, TkOk t
  | [], _, t, ht => by simp [toksR] at ht
  | p :: r, h, t, ht => by
    simp only [toksR, List.mem_append] at ht
    exact ht.elim (tk_okP p h.1 t) (tk_okR r h.2 t)
theorem tk_okRows : ∀ rs : List (List Pc), okRs rs → ∀ t ∈ toksRows rs, TkOk t
  | [], _, t, ht => by simp [toksRows] at ht
  | r :: rs, h, t, ht => by
    simp only [toksRows, List.mem_append] at ht
    exact ht.elim (tk_okR r h.1 t) (tk_okMore rs h.2 t)
theorem tk_okMore : ∀ rs : List (List Pc), okRs rs → ∀ t ∈ toksMore rs, TkOk t
  | [], _, t, ht => by simp [toksMore] at ht
  | r :: rs, h, t, ht => by
    simp only [toksMore, List.mem_cons, List.mem_append] at ht
    rcases ht with rfl | ht | ht
    · trivial
    · exact tk_okR r h.1 t ht
    · exact tk_okMore rs h.2 t ht
end
mutual
theorem ne_okP : ∀ p : Pc, okP p → neP p = true
  | .leaf _, _ => rfl
  | .group r, h => ne_okR r h
  | .hang _ r, h => ne_okR r h.2
  | .either rs, h => by
    show (!rs.isEmpty && neRs rs) = true
    rw [ne_okRs rs h.2]
    have h1 : 2 ≤ rs.length := h.1.1
    cases rs with
    | nil => simp at h1
    | cons r rs => rfl
theorem ne_okR : ∀ r : List Pc, okR r → neR r = true
  | [], _ => rfl
  | p :: r, h => by rw [neR, ne_okP p h.1, ne_okR r h.2]; rfl
theorem ne_okRs : ∀ rs : List (List Pc), okRs rs → neRs rs = true
  | [], _ => rfl
  | r :: rs, h => by rw [neRs, ne_okR r h.1, ne_okRs rs h.2]; rfl
end
def listB (G : List D → Option D) : PSt → Option (Fl × PSt) := (fSet 1 (fPure (f2 dAdd (f2 dAdd (fVar 1) (fLst (fCons (f2 dIx (fLst (fCons (fC (.str "{")) (fCons (fC (.str "|")) fNil))) (fCall dInt1 (fCons (f2 dGt (fVar 3) (fC (.int 0))) fNil))) fNil))) (fCall G (fCons (f2 dIx (f2 dIx (fVar 2) (fC (.int 1))) (fVar 3)) fNil)))))
def bodyL (G : List D → Option D) : PSt → Option (Fl × PSt) :=
   (fSeq (fIf (fTPure (fB (f2 dEq (f2 dIx (fVar 2) (fC (.int 0))) (fC (.str "word")))))
   (fExpr (fMut 1 fPNil (fCons (f2 dAdd (fC (.str "'")) (f2 dIx (fVar 2) (fC (.int 1)))) fNil) hAppend))
   fSkip)
  (fSeq (fIf (fTPure (fB (f2 dEq (f2 dIx (fVar 2) (fC (.int 0))) (fC (.str "gap")))))
   (fExpr (fMut 1 fPNil (fCons (f2 dIx (fLst (fCons (fC (.str "_")) (fCons (fC (.str ".")) fNil))) (fCall dInt1 (fCons (f2 dEq (f2 dIx (fVar 2) (fC (.int 1))) (fC (.str ""))) fNil))) fNil) hAppend))
   fSkip)
  (fSeq (fIf (fTPure (fB (f2 dEq (f2 dIx (fVar 2) (fC (.int 0))) (fC (.str "end")))))
   (fExpr (fMut 1 fPNil (fCons (fC (.str "/")) fNil) hAppend))
   fSkip)
  (fSeq (fIf (fTPure (fB (f2 dEq (f2 dIx (fVar 2) (fC (.int 0))) (fC (.str "stop")))))
   (fExpr (fMut 1 fPNil (fCons (f2 dAdd (fC (.str "\x40")) (fCall dStr1 (fCons (f2 dIx (fVar 2) (fC (.int 1))) fNil))) fNil) hAppend))
   fSkip)
  (fSeq (fIf (fTPure (fB (f2 dEq (f2 dIx (fVar 2) (fC (.int 0))) (fC (.str "group")))))
   (fSet 1 (fPure (f2 dAdd (f2 dAdd (f2 dAdd (fVar 1) (fLst (fCons (fC (.str "[")) fNil))) (fCall G (fCons (f2 dIx (fVar 2) (fC (.int 1))) fNil))) (fLst (fCons (fC (.str "]")) fNil)))))
   fSkip)
  (fSeq (fIf (fTPure (fB (f2 dEq (f2 dIx (fVar 2) (fC (.int 0))) (fC (.str "hang")))))
   (fSet 1 (fPure (f2 dAdd (f2 dAdd (f2 dAdd (fVar 1) (fLst (fCons (f2 dAdd (fC (.str ">")) (fCall dStr1 (fCons (f2 dIx (fVar 2) (fC (.int 1))) fNil))) fNil))) (fCall G (fCons (f2 dIx (fVar 2) (fC (.int 2))) fNil))) (fLst (fCons (fC (.str "<")) fNil)))))
   fSkip)
  (fIf (fTPure (fB (f2 dEq (f2 dIx (fVar 2) (fC (.int 0))) (fC (.str "either")))))
   (fSeq (fFor 3 (fRng1 (fCons (fCall dLen (fCons (f2 dIx (fVar 2) (fC (.int 1))) fNil)) fNil)) (listB G))
  (fExpr (fMut 1 fPNil (fCons (fC (.str "}")) fNil) hAppend)))
   fSkip)))))))
section
variable {G : List D → Option D} {x0 x3 : Option D} {acc : List Tk} {F : PSt → Option (Fl × PSt)}
theorem log_small {i : Int} (h0 : 0 ≤ i) (h1 : i ≤ 40) : i.natAbs.log2 < 1920 := by
  have h2 : i.natAbs < 2 ^ 6 := by omega
  have : i.natAbs.log2 < 6 := by
    by_cases z : i.natAbs = 0
    · rw [z]; decide
    · exact (Nat.log2_lt z).mpr h2
  omega
theorem kd_no {y : Option D} {p : D} {k w : String} (hp : dIx p (.int 0) = some (.str k)) (h : k ≠ w) : fIf (fTPure (fB (f2 dEq (f2 dIx (fVar 2) (fC (.int 0))) (fC (.str w))))) F fSkip [x0, y, some p, x3] = some (.nx, [x0, y, some p, x3]) := by
  refine (fif_f (p' := [x0, y, some p, x3]) ?_).trans rfl
  have e : f2 dEq (f2 dIx (fVar 2) (fC (.int 0))) (fC (.str w)) [x0, y, some p, x3] = some (.bl false) := f2_ok (x := .str k) (y := .str w) (f2_ok rfl rfl hp) rfl (by simp [fSeq, fSkip, fSet, fPure, fIf, fTPure, fB, f2, fVar, fC, fImm, fRet, fExpr, fMut, fPNil, modP, getP, fCons, fNil, fLst, fTup, fKs, fCall, dEq, dNe, eqB, dB, dIx, dLen, hAppend, D.imm, D.imms, dTuple, dAdd, fT, dTru, ofs_inj, atI0, atI1, atI2, dGt, dInt1, dStr1, h])
  unfold fTPure fB
  rw [e]; rfl
theorem kd_yes {y : Option D} {p : D} {k : String} (hp : dIx p (.int 0) = some (.str k)) : fIf (fTPure (fB (f2 dEq (f2 dIx (fVar 2) (fC (.int 0))) (fC (.str k))))) F fSkip [x0, y, some p, x3] = F [x0, y, some p, x3] := by
  refine fif_t (p' := [x0, y, some p, x3]) ?_
  have e : f2 dEq (f2 dIx (fVar 2) (fC (.int 0))) (fC (.str k)) [x0, y, some p, x3] = some (.bl true) := f2_ok (x := .str k) (y := .str k) (f2_ok rfl rfl hp) rfl (by simp [fSeq, fSkip, fSet, fPure, fIf, fTPure, fB, f2, fVar, fC, fImm, fRet, fExpr, fMut, fPNil, modP, getP, fCons, fNil, fLst, fTup, fKs, fCall, dEq, dNe, eqB, dB, dIx, dLen, hAppend, D.imm, D.imms, dTuple, dAdd, fT, dTru, ofs_inj, atI0, atI1, atI2, dGt, dInt1, dStr1])
  unfold fTPure fB
  rw [e]; rfl
theorem app_ok {f : PSt → Option D} {p : D} {d : D} {zs : List D} (hf : f [x0, some (.lst true zs), some p, x3] = some d) (hz : zs.length < sizeLine) : fExpr (fMut 1 fPNil (fCons f fNil) hAppend) [x0, some (.lst true zs), some p, x3] = some (.nx, [x0, some (.lst true (zs ++ [d])), some p, x3]) := by
  simp [fSeq, fSkip, fSet, fPure, fIf, fTPure, fB, f2, fVar, fC, fImm, fRet, fExpr, fMut, fPNil, modP, getP, fCons, fNil, fLst, fTup, fKs, fCall, dEq, dNe, eqB, dB, dIx, dLen, hAppend, D.imm, D.imms, dTuple, dAdd, fT, dTru, ofs_inj, atI0, atI1, atI2, dGt, dInt1, dStr1, hf, hz]
theorem dIx1_p (k : String) (d : D) (l : List D) : dIx (.tup (.str k :: d :: l)) (.int 1) = some d := by simp [fSeq, fSkip, fSet, fPure, fIf, fTPure, fB, f2, fVar, fC, fImm, fRet, fExpr, fMut, fPNil, modP, getP, fCons, fNil, fLst, fTup, fKs, fCall, dEq, dNe, eqB, dB, dIx, dLen, hAppend, D.imm, D.imms, dTuple, dAdd, fT, dTru, ofs_inj, atI0, atI1, atI2, dGt, dInt1, dStr1]
theorem dIx0_p (k : String) (l : List D) : dIx (.tup (.str k :: l)) (.int 0) = some (.str k) := by simp [fSeq, fSkip, fSet, fPure, fIf, fTPure, fB, f2, fVar, fC, fImm, fRet, fExpr, fMut, fPNil, modP, getP, fCons, fNil, fLst, fTup, fKs, fCall, dEq, dNe, eqB, dB, dIx, dLen, hAppend, D.imm, D.imms, dTuple, dAdd, fT, dTru, ofs_inj, atI0, atI1, atI2, dGt, dInt1, dStr1]
theorem dIx2_p (k : String) (c d : D) (l : List D) : dIx (.tup (.str k :: c :: d :: l)) (.int 2) = some d := by simp [fSeq, fSkip, fSet, fPure, fIf, fTPure, fB, f2, fVar, fC, fImm, fRet, fExpr, fMut, fPNil, modP, getP, fCons, fNil, fLst, fTup, fKs, fCall, dEq, dNe, eqB, dB, dIx, dLen, hAppend, D.imm, D.imms, dTuple, dAdd, fT, dTru, ofs_inj, atI0, atI1, atI2, dGt, dInt1, dStr1]
theorem str1_ok {i : Int} (h0 : 0 ≤ i) (h1 : i ≤ 40) : dStr1 [.int i] = some (.str (iS i)) := by
  rw [dStr1, if_pos (log_small h0 h1)]; rfl
theorem dAdd_s {a b : Str} (h : a.length + b.length ≤ 1000) : dAdd (.str a) (.str b) = some (.str (a ++ b)) := by
  rw [dAdd]; exact if_pos (sz h)
theorem list_leaf (l : Leaf) (hl : LeafOk l) (hz : acc.length ≤ 900) : bodyL G [x0, some (.lst true (signsD acc)), some (leafD l), x3] = some (.nx, [x0, some (.lst true (signsD (acc ++ [.leaf l]))), some (leafD l), x3]) := by
  have h1 : (signsD acc).length < sizeLine := by rw [signsD_len]; exact sz1 (by omega)
  have e : signsD (acc ++ [Tk.leaf l]) = signsD acc ++ [.str (signT (.leaf l))] := by rw [signsD_app]; rfl
  rw [e]
  unfold bodyL
  cases l with
  | word x =>
    have h' : WordOk x := hl
    have hp := dIx0_p "word" [.str x]
    refine (fseq_nx ((kd_yes hp).trans (app_ok (d := .str (("'" : Str) ++ x)) (f2_ok rfl (f2_ok rfl rfl (dIx1_p "word" _ _)) (dAdd_s (by have := h'.2.1; show 1 + _ ≤ 1000; omega))) h1))).trans ?_
    exact (fseq_nx (kd_no hp (by decide))).trans ((fseq_nx (kd_no hp (by decide))).trans ((fseq_nx (kd_no hp (by decide))).trans ((fseq_nx (kd_no hp (by decide))).trans ((fseq_nx (kd_no hp (by decide))).trans (kd_no hp (by decide))))))
  | gap x =>
    have hp := dIx0_p "gap" [.str x]
    have s : f2 dIx (fLst (fCons (fC (.str "_")) (fCons (fC (.str ".")) fNil))) (fCall dInt1 (fCons (f2 dEq (f2 dIx (fVar 2) (fC (.int 1))) (fC (.str ""))) fNil)) [x0, some (.lst true (signsD acc)), some (.tup [.str "gap", .str x]), x3] = some (.str (signT (.leaf (.gap x)))) := by
      by_cases c : x = ""
      · subst c; simp [fSeq, fSkip, fSet, fPure, fIf, fTPure, fB, f2, fVar, fC, fImm, fRet, fExpr, fMut, fPNil, modP, getP, fCons, fNil, fLst, fTup, fKs, fCall, dEq, dNe, eqB, dB, dIx, dLen, hAppend, D.imm, D.imms, dTuple, dAdd, fT, dTru, ofs_inj, atI0, atI1, atI2, dGt, dInt1, dStr1, signT]
      · have c' : ¬ (x = Str.ofString "") := c
        simp [fSeq, fSkip, fSet, fPure, fIf, fTPure, fB, f2, fVar, fC, fImm, fRet, fExpr, fMut, fPNil, modP, getP, fCons, fNil, fLst, fTup, fKs, fCall, dEq, dNe, eqB, dB, dIx, dLen, hAppend, D.imm, D.imms, dTuple, dAdd, fT, dTru, ofs_inj, atI0, atI1, atI2, dGt, dInt1, dStr1, signT, c']
    refine (fseq_nx (kd_no hp (by decide))).trans ((fseq_nx ((kd_yes hp).trans (app_ok s h1))).trans ?_)
    exact (fseq_nx (kd_no hp (by decide))).trans ((fseq_nx (kd_no hp (by decide))).trans ((fseq_nx (kd_no hp (by decide))).trans ((fseq_nx (kd_no hp (by decide))).trans (kd_no hp (by decide)))))
  | stop c =>
    have h' : 0 ≤ c ∧ c ≤ 40 := hl
    have hp := dIx0_p "stop" [.int c]
    refine (fseq_nx (kd_no hp (by decide))).trans ((fseq_nx (kd_no hp (by decide))).trans ((fseq_nx (kd_no hp (by decide))).trans ?_))
    refine (fseq_nx ((kd_yes hp).trans (app_ok (d := .str (("\x40" : Str) ++ iS c)) (f2_ok rfl (fcall_ok (ds := [.int c]) (fcons_ok (f2_ok rfl rfl (dIx1_p "stop" _ _)) rfl) (str1_ok h'.1 h'.2)) (dAdd_s (by have := iS_len h'.1 h'.2; show 1 + _ ≤ 1000; omega))) h1))).trans ?_
    exact (fseq_nx (kd_no hp (by decide))).trans ((fseq_nx (kd_no hp (by decide))).trans (kd_no hp (by decide)))
  | fin =>
    have hp := dIx0_p "end" []
    refine (fseq_nx (kd_no hp (by decide))).trans ((fseq_nx (kd_no hp (by decide))).trans ((fseq_nx ((kd_yes hp).trans (app_ok rfl h1))).trans ?_))
    exact (fseq_nx (kd_no hp (by decide))).trans ((fseq_nx (kd_no hp (by decide))).trans ((fseq_nx (kd_no hp (by decide))).trans (kd_no hp (by decide))))
theorem three_ok {f g : PSt → Option D} {p : D} {b c : Str} {ts : List Tk} (hf : f [x0, some (.lst true (signsD acc)), some p, x3] = some (.str b)) (hg : g [x0, some (.lst true (signsD acc)), some p, x3] = some (.lst true (signsD ts))) (hz : acc.length + ts.length ≤ 900) :
    f2 dAdd (f2 dAdd (f2 dAdd (fVar 1) (fLst (fCons f fNil))) g) (fLst (fCons (fC (.str c)) fNil)) [x0, some (.lst true (signsD acc)), some p, x3] = some (.lst true (signsD acc ++ [.str b] ++ signsD ts ++ [.str c])) := by
  have e1 : fLst (fCons f fNil) [x0, some (.lst true (signsD acc)), some p, x3] = some (.lst true [.str b]) := flst_ok (fcons_ok hf rfl) (by simp [fSeq, fSkip, fSet, fPure, fIf, fTPure, fB, f2, fVar, fC, fImm, fRet, fExpr, fMut, fPNil, modP, getP, fCons, fNil, fLst, fTup, fKs, fCall, dEq, dNe, eqB, dB, dIx, dLen, hAppend, D.imm, D.imms, dTuple, dAdd, fT, dTru, ofs_inj, atI0, atI1, atI2, dGt, dInt1, dStr1])
  have i1 : D.imms [D.str b] = true := rfl
  have i2 : D.imms (signsD acc ++ [.str b]) = true := by rw [imms_app, signs_imm]; rfl
  have i3 : D.imms (signsD acc ++ [.str b] ++ signsD ts) = true := by rw [imms_app, i2, signs_imm]; rfl
  refine f2_ok (f2_ok (f2_ok rfl e1 (dAdd_l (signs_imm _) i1 ?_)) hg (dAdd_l i2 (signs_imm _) ?_)) rfl (dAdd_l i3 rfl ?_)
  · rw [signsD_len]; simp [fSeq, fSkip, fSet, fPure, fIf, fTPure, fB, f2, fVar, fC, fImm, fRet, fExpr, fMut, fPNil, modP, getP, fCons, fNil, fLst, fTup, fKs, fCall, dEq, dNe, eqB, dB, dIx, dLen, hAppend, D.imm, D.imms, dTuple, dAdd, fT, dTru, ofs_inj, atI0, atI1, atI2, dGt, dInt1, dStr1]; omega
  · rw [List.length_append, signsD_len, signsD_len]; simp [fSeq, fSkip, fSet, fPure, fIf, fTPure, fB, f2, fVar, fC, fImm, fRet, fExpr, fMut, fPNil, modP, getP, fCons, fNil, fLst, fTup, fKs, fCall, dEq, dNe, eqB, dB, dIx, dLen, hAppend, D.imm, D.imms, dTuple, dAdd, fT, dTru, ofs_inj, atI0, atI1, atI2, dGt, dInt1, dStr1]; omega
  · rw [List.length_append, List.length_append, signsD_len, signsD_len]; simp [fSeq, fSkip, fSet, fPure, fIf, fTPure, fB, f2, fVar, fC, fImm, fRet, fExpr, fMut, fPNil, modP, getP, fCons, fNil, fLst, fTup, fKs, fCall, dEq, dNe, eqB, dB, dIx, dLen, hAppend, D.imm, D.imms, dTuple, dAdd, fT, dTru, ofs_inj, atI0, atI1, atI2, dGt, dInt1, dStr1]; omega
theorem list_group {r : List Pc} (q : G [.tup (pcsD r)] = some (.lst true (signsD (toksR r)))) (hz : acc.length + (toksR r).length ≤ 900) : bodyL G [x0, some (.lst true (signsD acc)), some (pcD (.group r)), x3] = some (.nx, [x0, some (.lst true (signsD (acc ++ toksP (.group r)))), some (pcD (.group r)), x3]) := by
  have e : signsD (acc ++ toksP (.group r)) = signsD acc ++ [.str "["] ++ signsD (toksR r) ++ [.str "]"] := by rw [signsD_app, toksP, signsD_cons, signsD_app]; simp [fSeq, fSkip, fSet, fPure, fIf, fTPure, fB, f2, fVar, fC, fImm, fRet, fExpr, fMut, fPNil, modP, getP, fCons, fNil, fLst, fTup, fKs, fCall, dEq, dNe, eqB, dB, dIx, dLen, hAppend, D.imm, D.imms, dTuple, dAdd, fT, dTru, ofs_inj, atI0, atI1, atI2, dGt, dInt1, dStr1, signT, signsD, strsD]
  rw [e]
  unfold bodyL
  have hp := dIx0_p "group" [.tup (pcsD r)]
  refine (fseq_nx (kd_no hp (by decide))).trans ((fseq_nx (kd_no hp (by decide))).trans ((fseq_nx (kd_no hp (by decide))).trans ((fseq_nx (kd_no hp (by decide))).trans ?_)))
  refine (fseq_nx ((kd_yes hp).trans (fset_ok (three_ok rfl (fcall_ok (ds := [.tup (pcsD r)]) (fcons_ok (f2_ok rfl rfl (dIx1_p "group" _ _)) rfl) q) hz)))).trans ?_
  exact (fseq_nx (kd_no hp (by decide))).trans (kd_no hp (by decide))
theorem list_hang {n : Int} {r : List Pc} (hn : 0 ≤ n ∧ n ≤ 12) (q : G [.tup (pcsD r)] = some (.lst true (signsD (toksR r)))) (hz : acc.length + (toksR r).length ≤ 900) : bodyL G [x0, some (.lst true (signsD acc)), some (pcD (.hang n r)), x3] = some (.nx, [x0, some (.lst true (signsD (acc ++ toksP (.hang n r)))), some (pcD (.hang n r)), x3]) := by
  have e : signsD (acc ++ toksP (.hang n r)) = signsD acc ++ [.str ((">" : Str) ++ iS n)] ++ signsD (toksR r) ++ [.str "<"] := by rw [signsD_app, toksP, signsD_cons, signsD_app]; simp [fSeq, fSkip, fSet, fPure, fIf, fTPure, fB, f2, fVar, fC, fImm, fRet, fExpr, fMut, fPNil, modP, getP, fCons, fNil, fLst, fTup, fKs, fCall, dEq, dNe, eqB, dB, dIx, dLen, hAppend, D.imm, D.imms, dTuple, dAdd, fT, dTru, ofs_inj, atI0, atI1, atI2, dGt, dInt1, dStr1, signT, signsD, strsD]
  rw [e]
  unfold bodyL
  have hp := dIx0_p "hang" [.int n, .tup (pcsD r)]
  have s1 : f2 dAdd (fC (.str ">")) (fCall dStr1 (fCons (f2 dIx (fVar 2) (fC (.int 1))) fNil)) [x0, some (.lst true (signsD acc)), some (pcD (.hang n r)), x3] = some (.str ((">" : Str) ++ iS n)) :=
    f2_ok rfl (fcall_ok (ds := [.int n]) (fcons_ok (f2_ok rfl rfl (dIx1_p "hang" _ _)) rfl) (str1_ok hn.1 (by omega))) (dAdd_s (by have := iS_len hn.1 (by omega : n ≤ 40); show 1 + _ ≤ 1000; omega))
  refine (fseq_nx (kd_no hp (by decide))).trans ((fseq_nx (kd_no hp (by decide))).trans ((fseq_nx (kd_no hp (by decide))).trans ((fseq_nx (kd_no hp (by decide))).trans ((fseq_nx (kd_no hp (by decide))).trans ?_))))
  refine (fseq_nx ((kd_yes hp).trans (fset_ok (three_ok s1 (fcall_ok (ds := [.tup (pcsD r)]) (fcons_ok (f2_ok rfl rfl (dIx2_p "hang" _ _ _)) rfl) q) hz)))).trans ?_
  exact kd_no hp (by decide)
theorem listB_ok {P0 : D} {rs : List (List Pc)} {r : List Pc} {j : Nat} (hP : dIx P0 (.int 1) = some (.tup (rowsD rs))) (hr : atI (rowsD rs) (j : Int) = some (.tup (pcsD r))) (q : G [.tup (pcsD r)] = some (.lst true (signsD (toksR r)))) (hz : acc.length + (toksR r).length ≤ 900) :
    listB G [x0, some (.lst true (signsD acc)), some P0, some (.int (j : Int))] = some (.nx, [x0, some (.lst true (signsD (acc ++ ((if 0 < j then Tk.orr else Tk.eit) :: toksR r)))), some P0, some (.int (j : Int))]) := by
  have s1 : f2 dIx (fLst (fCons (fC (.str "{")) (fCons (fC (.str "|")) fNil))) (fCall dInt1 (fCons (f2 dGt (fVar 3) (fC (.int 0))) fNil)) [x0, some (.lst true (signsD acc)), some P0, some (.int (j : Int))] = some (.str (signT (if 0 < j then Tk.orr else Tk.eit))) := by
    by_cases c : 0 < j
    · have c' : (0 : Int) < (j : Int) := by omega
      rw [if_pos c]
      have e1 : fCall dInt1 (fCons (f2 dGt (fVar 3) (fC (.int 0))) fNil) [x0, some (.lst true (signsD acc)), some P0, some (.int (j : Int))] = some (.int 1) := by simp [fSeq, fSkip, fSet, fPure, fIf, fTPure, fB, f2, fVar, fC, fImm, fRet, fExpr, fMut, fPNil, modP, getP, fCons, fNil, fLst, fTup, fKs, fCall, dEq, dNe, eqB, dB, dIx, dLen, hAppend, D.imm, D.imms, dTuple, dAdd, fT, dTru, ofs_inj, atI0, atI1, atI2, dGt, dInt1, dStr1, c]
      exact f2_ok (x := .lst true [.str "{", .str "|"]) rfl e1 (by simp [fSeq, fSkip, fSet, fPure, fIf, fTPure, fB, f2, fVar, fC, fImm, fRet, fExpr, fMut, fPNil, modP, getP, fCons, fNil, fLst, fTup, fKs, fCall, dEq, dNe, eqB, dB, dIx, dLen, hAppend, D.imm, D.imms, dTuple, dAdd, fT, dTru, ofs_inj, atI0, atI1, atI2, dGt, dInt1, dStr1, signT])
    · have c' : ¬ ((0 : Int) < (j : Int)) := by omega
      rw [if_neg c]
      have e1 : fCall dInt1 (fCons (f2 dGt (fVar 3) (fC (.int 0))) fNil) [x0, some (.lst true (signsD acc)), some P0, some (.int (j : Int))] = some (.int 0) := by simp [fSeq, fSkip, fSet, fPure, fIf, fTPure, fB, f2, fVar, fC, fImm, fRet, fExpr, fMut, fPNil, modP, getP, fCons, fNil, fLst, fTup, fKs, fCall, dEq, dNe, eqB, dB, dIx, dLen, hAppend, D.imm, D.imms, dTuple, dAdd, fT, dTru, ofs_inj, atI0, atI1, atI2, dGt, dInt1, dStr1, c]
      exact f2_ok (x := .lst true [.str "{", .str "|"]) rfl e1 (by simp [fSeq, fSkip, fSet, fPure, fIf, fTPure, fB, f2, fVar, fC, fImm, fRet, fExpr, fMut, fPNil, modP, getP, fCons, fNil, fLst, fTup, fKs, fCall, dEq, dNe, eqB, dB, dIx, dLen, hAppend, D.imm, D.imms, dTuple, dAdd, fT, dTru, ofs_inj, atI0, atI1, atI2, dGt, dInt1, dStr1, signT])
  generalize (if 0 < j then Tk.orr else Tk.eit) = t at s1 ⊢
  have e : signsD (acc ++ (t :: toksR r)) = signsD acc ++ [.str (signT t)] ++ signsD (toksR r) := by rw [signsD_app, signsD_cons]; simp [fSeq, fSkip, fSet, fPure, fIf, fTPure, fB, f2, fVar, fC, fImm, fRet, fExpr, fMut, fPNil, modP, getP, fCons, fNil, fLst, fTup, fKs, fCall, dEq, dNe, eqB, dB, dIx, dLen, hAppend, D.imm, D.imms, dTuple, dAdd, fT, dTru, ofs_inj, atI0, atI1, atI2, dGt, dInt1, dStr1]
  rw [e]
  have s2 : fLst (fCons (f2 dIx (fLst (fCons (fC (.str "{")) (fCons (fC (.str "|")) fNil))) (fCall dInt1 (fCons (f2 dGt (fVar 3) (fC (.int 0))) fNil))) fNil) [x0, some (.lst true (signsD acc)), some P0, some (.int (j : Int))] = some (.lst true [.str (signT t)]) := flst_ok (fcons_ok s1 rfl) (by simp [fSeq, fSkip, fSet, fPure, fIf, fTPure, fB, f2, fVar, fC, fImm, fRet, fExpr, fMut, fPNil, modP, getP, fCons, fNil, fLst, fTup, fKs, fCall, dEq, dNe, eqB, dB, dIx, dLen, hAppend, D.imm, D.imms, dTuple, dAdd, fT, dTru, ofs_inj, atI0, atI1, atI2, dGt, dInt1, dStr1])
  have i2 : D.imms (signsD acc ++ [.str (signT t)]) = true := by rw [imms_app, signs_imm]; rfl
  refine fset_ok (f2_ok (f2_ok rfl s2 (dAdd_l (signs_imm _) rfl ?_)) (fcall_ok (ds := [.tup (pcsD r)]) (fcons_ok (f2_ok (f2_ok rfl rfl hP) rfl hr) rfl) q) (dAdd_l i2 (signs_imm _) ?_))
  · rw [signsD_len]; simp [fSeq, fSkip, fSet, fPure, fIf, fTPure, fB, f2, fVar, fC, fImm, fRet, fExpr, fMut, fPNil, modP, getP, fCons, fNil, fLst, fTup, fKs, fCall, dEq, dNe, eqB, dB, dIx, dLen, hAppend, D.imm, D.imms, dTuple, dAdd, fT, dTru, ofs_inj, atI0, atI1, atI2, dGt, dInt1, dStr1]; omega
  · rw [List.length_append, signsD_len, signsD_len]; simp [fSeq, fSkip, fSet, fPure, fIf, fTPure, fB, f2, fVar, fC, fImm, fRet, fExpr, fMut, fPNil, modP, getP, fCons, fNil, fLst, fTup, fKs, fCall, dEq, dNe, eqB, dB, dIx, dLen, hAppend, D.imm, D.imms, dTuple, dAdd, fT, dTru, ofs_inj, atI0, atI1, atI2, dGt, dInt1, dStr1]; omega
theorem rowsD_at : ∀ (rs : List (List Pc)) (j : Nat) (r : List Pc), rs[j]? = some r → (rowsD rs)[j]? = some (.tup (pcsD r))
  | [], _, _, h => by simp [fSeq, fSkip, fSet, fPure, fIf, fTPure, fB, f2, fVar, fC, fImm, fRet, fExpr, fMut, fPNil, modP, getP, fCons, fNil, fLst, fTup, fKs, fCall, dEq, dNe, eqB, dB, dIx, dLen, hAppend, D.imm, D.imms, dTuple, dAdd, fT, dTru, ofs_inj, atI0, atI1, atI2, dGt, dInt1, dStr1] at h
  | q :: rs, 0, r, h => by simp [fSeq, fSkip, fSet, fPure, fIf, fTPure, fB, f2, fVar, fC, fImm, fRet, fExpr, fMut, fPNil, modP, getP, fCons, fNil, fLst, fTup, fKs, fCall, dEq, dNe, eqB, dB, dIx, dLen, hAppend, D.imm, D.imms, dTuple, dAdd, fT, dTru, ofs_inj, atI0, atI1, atI2, dGt, dInt1, dStr1] at h; subst h; rfl
  | q :: rs, j + 1, r, h => by simpa [rowsD] using rowsD_at rs j r (by simpa using h)
theorem listL_ok {P0 : D} {all : List (List Pc)} (hP : dIx P0 (.int 1) = some (.tup (rowsD all))) (q : ∀ r ∈ all, G [.tup (pcsD r)] = some (.lst true (signsD (toksR r)))) : ∀ (pre rs : List (List Pc)) (acc : List Tk) (x3 : Option D), all = pre ++ rs → pre ≠ [] → acc.length + (toksMore rs).length ≤ 900 →
    ∃ y3, fForD 3 (listB G) ((List.range' pre.length rs.length).map fun (k : Nat) => D.int (k : Int)) [x0, some (.lst true (signsD acc)), some P0, x3] = some (.nx, [x0, some (.lst true (signsD (acc ++ toksMore rs))), some P0, y3])
  | pre, [], acc, x3, _, _, _ => ⟨x3, by simp [fSeq, fSkip, fSet, fPure, fIf, fTPure, fB, f2, fVar, fC, fImm, fRet, fExpr, fMut, fPNil, modP, getP, fCons, fNil, fLst, fTup, fKs, fCall, dEq, dNe, eqB, dB, dIx, dLen, hAppend, D.imm, D.imms, dTuple, dAdd, fT, dTru, ofs_inj, atI0, atI1, atI2, dGt, dInt1, dStr1, fForD, toksMore]⟩
  | pre, r :: rs, acc, x3, e, hp, hl => by
    have e1 : toksMore (r :: rs) = Tk.orr :: (toksR r ++ toksMore rs) := rfl
    rw [e1] at hl ⊢
    simp only [List.length_cons, List.length_append] at hl
    have hj : all[pre.length]? = some r := by rw [e]; simp [fSeq, fSkip, fSet, fPure, fIf, fTPure, fB, f2, fVar, fC, fImm, fRet, fExpr, fMut, fPNil, modP, getP, fCons, fNil, fLst, fTup, fKs, fCall, dEq, dNe, eqB, dB, dIx, dLen, hAppend, D.imm, D.imms, dTuple, dAdd, fT, dTru, ofs_inj, atI0, atI1, atI2, dGt, dInt1, dStr1]
    have hpos : 0 < pre.length := by cases pre with | nil => exact absurd rfl hp | cons a l => simp [fSeq, fSkip, fSet, fPure, fIf, fTPure, fB, f2, fVar, fC, fImm, fRet, fExpr, fMut, fPNil, modP, getP, fCons, fNil, fLst, fTup, fKs, fCall, dEq, dNe, eqB, dB, dIx, dLen, hAppend, D.imm, D.imms, dTuple, dAdd, fT, dTru, ofs_inj, atI0, atI1, atI2, dGt, dInt1, dStr1]
    have s1 := listB_ok (G := G) (x0 := x0) (acc := acc) (j := pre.length) hP (atI_nat (rowsD_at all _ r hj)) (q r (by rw [e]; simp [fSeq, fSkip, fSet, fPure, fIf, fTPure, fB, f2, fVar, fC, fImm, fRet, fExpr, fMut, fPNil, modP, getP, fCons, fNil, fLst, fTup, fKs, fCall, dEq, dNe, eqB, dB, dIx, dLen, hAppend, D.imm, D.imms, dTuple, dAdd, fT, dTru, ofs_inj, atI0, atI1, atI2, dGt, dInt1, dStr1])) (by omega)
    rw [if_pos hpos] at s1
    obtain ⟨y3, s2⟩ := listL_ok hP q (pre ++ [r]) rs (acc ++ (Tk.orr :: toksR r)) (some (.int (pre.length : Int))) (by rw [e]; simp [fSeq, fSkip, fSet, fPure, fIf, fTPure, fB, f2, fVar, fC, fImm, fRet, fExpr, fMut, fPNil, modP, getP, fCons, fNil, fLst, fTup, fKs, fCall, dEq, dNe, eqB, dB, dIx, dLen, hAppend, D.imm, D.imms, dTuple, dAdd, fT, dTru, ofs_inj, atI0, atI1, atI2, dGt, dInt1, dStr1]) (by simp [fSeq, fSkip, fSet, fPure, fIf, fTPure, fB, f2, fVar, fC, fImm, fRet, fExpr, fMut, fPNil, modP, getP, fCons, fNil, fLst, fTup, fKs, fCall, dEq, dNe, eqB, dB, dIx, dLen, hAppend, D.imm, D.imms, dTuple, dAdd, fT, dTru, ofs_inj, atI0, atI1, atI2, dGt, dInt1, dStr1]) (by simp [fSeq, fSkip, fSet, fPure, fIf, fTPure, fB, f2, fVar, fC, fImm, fRet, fExpr, fMut, fPNil, modP, getP, fCons, fNil, fLst, fTup, fKs, fCall, dEq, dNe, eqB, dB, dIx, dLen, hAppend, D.imm, D.imms, dTuple, dAdd, fT, dTru, ofs_inj, atI0, atI1, atI2, dGt, dInt1, dStr1]; omega)
    refine ⟨y3, ?_⟩
    rw [List.length_append] at s2
    rw [List.length_cons, List.range'_succ, List.map_cons, fForD]
    show (listB G [x0, some (.lst true (signsD acc)), some P0, some (.int (pre.length : Int))]).bind _ = _
    rw [s1, Option.bind_some]
    refine Eq.trans s2 ?_
    simp [fSeq, fSkip, fSet, fPure, fIf, fTPure, fB, f2, fVar, fC, fImm, fRet, fExpr, fMut, fPNil, modP, getP, fCons, fNil, fLst, fTup, fKs, fCall, dEq, dNe, eqB, dB, dIx, dLen, hAppend, D.imm, D.imms, dTuple, dAdd, fT, dTru, ofs_inj, atI0, atI1, atI2, dGt, dInt1, dStr1]
theorem more_len : ∀ rs : List (List Pc), rs.length ≤ (toksMore rs).length
  | [] => Nat.le_refl _
  | q :: rs => by
    have ih := more_len rs
    show rs.length + 1 ≤ (Tk.orr :: (toksR q ++ toksMore rs)).length
    rw [List.length_cons, List.length_append]; omega
theorem list_either {rs : List (List Pc)} (hne : rs ≠ []) (q : ∀ r ∈ rs, G [.tup (pcsD r)] = some (.lst true (signsD (toksR r)))) (hz : acc.length + (toksP (.either rs)).length ≤ 900) : ∃ y3, bodyL G [x0, some (.lst true (signsD acc)), some (pcD (.either rs)), x3] = some (.nx, [x0, some (.lst true (signsD (acc ++ toksP (.either rs)))), some (pcD (.either rs)), y3]) := by
  cases rs with
  | nil => exact absurd rfl hne
  | cons r rs =>
    have e0 : toksP (.either (r :: rs)) = Tk.eit :: (toksR r ++ toksMore rs ++ [.don]) := rfl
    rw [e0] at hz ⊢
    simp only [List.length_cons, List.length_append, List.length_nil] at hz
    have hP : dIx (pcD (.either (r :: rs))) (.int 1) = some (.tup (rowsD (r :: rs))) := by simp [fSeq, fSkip, fSet, fPure, fIf, fTPure, fB, f2, fVar, fC, fImm, fRet, fExpr, fMut, fPNil, modP, getP, fCons, fNil, fLst, fTup, fKs, fCall, dEq, dNe, eqB, dB, dIx, dLen, hAppend, D.imm, D.imms, dTuple, dAdd, fT, dTru, ofs_inj, atI0, atI1, atI2, dGt, dInt1, dStr1, pcD]
    have s1 := listB_ok (G := G) (x0 := x0) (acc := acc) (j := 0) hP (by simp [fSeq, fSkip, fSet, fPure, fIf, fTPure, fB, f2, fVar, fC, fImm, fRet, fExpr, fMut, fPNil, modP, getP, fCons, fNil, fLst, fTup, fKs, fCall, dEq, dNe, eqB, dB, dIx, dLen, hAppend, D.imm, D.imms, dTuple, dAdd, fT, dTru, ofs_inj, atI0, atI1, atI2, dGt, dInt1, dStr1, rowsD]) (q r List.mem_cons_self) (by omega)
    rw [if_neg (by decide)] at s1
    obtain ⟨y3, s2⟩ := listL_ok (G := G) (x0 := x0) hP q [r] rs (acc ++ (Tk.eit :: toksR r)) (some (.int 0)) rfl (by simp [fSeq, fSkip, fSet, fPure, fIf, fTPure, fB, f2, fVar, fC, fImm, fRet, fExpr, fMut, fPNil, modP, getP, fCons, fNil, fLst, fTup, fKs, fCall, dEq, dNe, eqB, dB, dIx, dLen, hAppend, D.imm, D.imms, dTuple, dAdd, fT, dTru, ofs_inj, atI0, atI1, atI2, dGt, dInt1, dStr1]) (by simp [fSeq, fSkip, fSet, fPure, fIf, fTPure, fB, f2, fVar, fC, fImm, fRet, fExpr, fMut, fPNil, modP, getP, fCons, fNil, fLst, fTup, fKs, fCall, dEq, dNe, eqB, dB, dIx, dLen, hAppend, D.imm, D.imms, dTuple, dAdd, fT, dTru, ofs_inj, atI0, atI1, atI2, dGt, dInt1, dStr1]; omega)
    refine ⟨y3, ?_⟩
    have er : fRng1 (fCons (fCall dLen (fCons (f2 dIx (fVar 2) (fC (.int 1))) fNil)) fNil) [x0, some (.lst true (signsD acc)), some (pcD (.either (r :: rs))), x3] = some ((List.range (r :: rs).length).map fun (k : Nat) => D.int (k : Int)) := by
      have e1 : fCons (fCall dLen (fCons (f2 dIx (fVar 2) (fC (.int 1))) fNil)) fNil [x0, some (.lst true (signsD acc)), some (pcD (.either (r :: rs))), x3] = some [.int ((r :: rs).length : Nat)] := by
        refine fcons_ok (fcall_ok (ds := [.tup (rowsD (r :: rs))]) (fcons_ok hP rfl) ?_) rfl
        show some (D.int ((rowsD (r :: rs)).length : Int)) = _
        rw [rowsD_len]
      have hlen : (r :: rs).length ≤ 1000 := by
        have := more_len rs
        simp [fSeq, fSkip, fSet, fPure, fIf, fTPure, fB, f2, fVar, fC, fImm, fRet, fExpr, fMut, fPNil, modP, getP, fCons, fNil, fLst, fTup, fKs, fCall, dEq, dNe, eqB, dB, dIx, dLen, hAppend, D.imm, D.imms, dTuple, dAdd, fT, dTru, ofs_inj, atI0, atI1, atI2, dGt, dInt1, dStr1]; omega
      unfold fRng1
      rw [e1, Option.bind_some, rng1_ok (by omega) (by omega), intsD0, List.map_map]; rfl
    have s3 : fFor 3 (fRng1 (fCons (fCall dLen (fCons (f2 dIx (fVar 2) (fC (.int 1))) fNil)) fNil)) (listB G) [x0, some (.lst true (signsD acc)), some (pcD (.either (r :: rs))), x3] = some (.nx, [x0, some (.lst true (signsD (acc ++ (Tk.eit :: toksR r) ++ toksMore rs))), some (pcD (.either (r :: rs))), y3]) := by
      unfold fFor
      rw [er, Option.bind_some, List.range_eq_range', List.length_cons, List.range'_succ, List.map_cons, fForD]
      show (listB G [x0, some (.lst true (signsD acc)), some (pcD (.either (r :: rs))), some (.int ((0 : Nat) : Int))]).bind _ = _
      rw [s1, Option.bind_some]
      exact s2
    have hz4 : (signsD (acc ++ (Tk.eit :: toksR r) ++ toksMore rs)).length < sizeLine := by rw [signsD_len]; exact sz1 (by simp [fSeq, fSkip, fSet, fPure, fIf, fTPure, fB, f2, fVar, fC, fImm, fRet, fExpr, fMut, fPNil, modP, getP, fCons, fNil, fLst, fTup, fKs, fCall, dEq, dNe, eqB, dB, dIx, dLen, hAppend, D.imm, D.imms, dTuple, dAdd, fT, dTru, ofs_inj, atI0, atI1, atI2, dGt, dInt1, dStr1]; omega)
    have s4 : fExpr (fMut 1 fPNil (fCons (fC (.str "}")) fNil) hAppend) [x0, some (.lst true (signsD (acc ++ (Tk.eit :: toksR r) ++ toksMore rs))), some (pcD (.either (r :: rs))), y3] = some (.nx, [x0, some (.lst true (signsD (acc ++ Tk.eit :: (toksR r ++ toksMore rs ++ [.don])))), some (pcD (.either (r :: rs))), y3]) := by
      have e : signsD (acc ++ Tk.eit :: (toksR r ++ toksMore rs ++ [.don])) = signsD (acc ++ (Tk.eit :: toksR r) ++ toksMore rs) ++ [.str "}"] := by
        rw [show acc ++ Tk.eit :: (toksR r ++ toksMore rs ++ [.don]) = (acc ++ (Tk.eit :: toksR r) ++ toksMore rs) ++ [Tk.don] by simp [fSeq, fSkip, fSet, fPure, fIf, fTPure, fB, f2, fVar, fC, fImm, fRet, fExpr, fMut, fPNil, modP, getP, fCons, fNil, fLst, fTup, fKs, fCall, dEq, dNe, eqB, dB, dIx, dLen, hAppend, D.imm, D.imms, dTuple, dAdd, fT, dTru, ofs_inj, atI0, atI1, atI2, dGt, dInt1, dStr1], signsD_app]; rfl
      rw [e]
      generalize signsD (acc ++ (Tk.eit :: toksR r) ++ toksMore rs) = Z at hz4 ⊢
      simp [fSeq, fSkip, fSet, fPure, fIf, fTPure, fB, f2, fVar, fC, fImm, fRet, fExpr, fMut, fPNil, modP, getP, fCons, fNil, fLst, fTup, fKs, fCall, dEq, dNe, eqB, dB, dIx, dLen, hAppend, D.imm, D.imms, dTuple, dAdd, fT, dTru, ofs_inj, atI0, atI1, atI2, dGt, dInt1, dStr1, hz4]
    have hp := dIx0_p "either" [.tup (rowsD (r :: rs))]
    unfold bodyL
    refine (fseq_nx (kd_no hp (by decide))).trans ((fseq_nx (kd_no hp (by decide))).trans ((fseq_nx (kd_no hp (by decide))).trans ((fseq_nx (kd_no hp (by decide))).trans ((fseq_nx (kd_no hp (by decide))).trans ((fseq_nx (kd_no hp (by decide))).trans ?_)))))
    exact (kd_yes hp).trans ((fseq_nx s3).trans s4)
end
theorem list_for {G : List D → Option D} {x0 : Option D} : ∀ (r : List Pc) (acc : List Tk) (x2 x3 : Option D), okR r → (∀ p ∈ r, ∀ r' ∈ rowsIn p, G [.tup (pcsD r')] = some (.lst true (signsD (toksR r')))) → acc.length + (toksR r).length ≤ 900 →
    ∃ y2 y3, fForD 2 (bodyL G) (pcsD r) [x0, some (.lst true (signsD acc)), x2, x3] = some (.nx, [x0, some (.lst true (signsD (acc ++ toksR r))), y2, y3])
  | [], acc, x2, x3, _, _, _ => ⟨x2, x3, by simp [fSeq, fSkip, fSet, fPure, fIf, fTPure, fB, f2, fVar, fC, fImm, fRet, fExpr, fMut, fPNil, modP, getP, fCons, fNil, fLst, fTup, fKs, fCall, dEq, dNe, eqB, dB, dIx, dLen, hAppend, D.imm, D.imms, dTuple, dAdd, fT, dTru, ofs_inj, atI0, atI1, atI2, dGt, dInt1, dStr1, pcsD, fForD, toksR]⟩
  | p :: r, acc, x2, x3, hok, h, hl => by
    have e : toksR (p :: r) = toksP p ++ toksR r := rfl
    rw [e] at hl ⊢
    rw [List.length_append] at hl
    have s1 : ∃ y3, bodyL G [x0, some (.lst true (signsD acc)), some (pcD p), x3] = some (.nx, [x0, some (.lst true (signsD (acc ++ toksP p))), some (pcD p), y3]) := by
      have hp := h p List.mem_cons_self
      cases p with
      | leaf l => exact ⟨_, list_leaf l hok.1 (by omega)⟩
      | group r' => exact ⟨_, list_group (hp r' List.mem_cons_self) (by simp [fSeq, fSkip, fSet, fPure, fIf, fTPure, fB, f2, fVar, fC, fImm, fRet, fExpr, fMut, fPNil, modP, getP, fCons, fNil, fLst, fTup, fKs, fCall, dEq, dNe, eqB, dB, dIx, dLen, hAppend, D.imm, D.imms, dTuple, dAdd, fT, dTru, ofs_inj, atI0, atI1, atI2, dGt, dInt1, dStr1, toksP] at hl; omega)⟩
      | hang n r' => exact ⟨_, list_hang hok.1.1 (hp r' List.mem_cons_self) (by simp [fSeq, fSkip, fSet, fPure, fIf, fTPure, fB, f2, fVar, fC, fImm, fRet, fExpr, fMut, fPNil, modP, getP, fCons, fNil, fLst, fTup, fKs, fCall, dEq, dNe, eqB, dB, dIx, dLen, hAppend, D.imm, D.imms, dTuple, dAdd, fT, dTru, ofs_inj, atI0, atI1, atI2, dGt, dInt1, dStr1, toksP] at hl; omega)⟩
      | either rs =>
        have hne : rs ≠ [] := fun z => by have : 2 ≤ rs.length := hok.1.1.1; rw [z] at this; simp [fSeq, fSkip, fSet, fPure, fIf, fTPure, fB, f2, fVar, fC, fImm, fRet, fExpr, fMut, fPNil, modP, getP, fCons, fNil, fLst, fTup, fKs, fCall, dEq, dNe, eqB, dB, dIx, dLen, hAppend, D.imm, D.imms, dTuple, dAdd, fT, dTru, ofs_inj, atI0, atI1, atI2, dGt, dInt1, dStr1] at this
        exact list_either hne hp (by omega)
    obtain ⟨y3, s1⟩ := s1
    obtain ⟨z2, z3, s2⟩ := list_for r (acc ++ toksP p) (some (pcD p)) y3 hok.2 (fun p' hp' => h p' (List.mem_cons_of_mem _ hp')) (by rw [List.length_append]; omega)
    refine ⟨z2, z3, ?_⟩
    rw [← List.append_assoc, ← s2]
    show fForD 2 (bodyL G) (pcD p :: pcsD r) _ = _
    rw [fForD]
    show (bodyL G [x0, some (.lst true (signsD acc)), some (pcD p), x3]).bind _ = _
    rw [s1]; rfl
def gList : Nat → List D → Option D
  | 0 => fun _ => none
  | n + 1 => gP 1 3 (fb_l_listed (gList n))
theorem okRs_mem : ∀ {rs : List (List Pc)} {r : List Pc}, okRs rs → r ∈ rs → okR r
  | [], _, _, h => by simp [fSeq, fSkip, fSet, fPure, fIf, fTPure, fB, f2, fVar, fC, fImm, fRet, fExpr, fMut, fPNil, modP, getP, fCons, fNil, fLst, fTup, fKs, fCall, dEq, dNe, eqB, dB, dIx, dLen, hAppend, D.imm, D.imms, dTuple, dAdd, fT, dTru, ofs_inj, atI0, atI1, atI2, dGt, dInt1, dStr1] at h
  | q :: rs, r, h, hr => (List.mem_cons.mp hr).elim (fun e => e ▸ h.1) fun z => okRs_mem h.2 z
theorem okR_mem : ∀ {r : List Pc} {p : Pc}, okR r → p ∈ r → okP p
  | [], _, _, h => by simp [fSeq, fSkip, fSet, fPure, fIf, fTPure, fB, f2, fVar, fC, fImm, fRet, fExpr, fMut, fPNil, modP, getP, fCons, fNil, fLst, fTup, fKs, fCall, dEq, dNe, eqB, dB, dIx, dLen, hAppend, D.imm, D.imms, dTuple, dAdd, fT, dTru, ofs_inj, atI0, atI1, atI2, dGt, dInt1, dStr1] at h
  | q :: rs, r, h, hr => (List.mem_cons.mp hr).elim (fun e => e ▸ h.1) fun z => okR_mem h.2 z
theorem rowsIn_ok' {p : Pc} {r : List Pc} (h : okP p) (hr : r ∈ rowsIn p) : okR r := by
  cases p with
  | leaf l => simp [fSeq, fSkip, fSet, fPure, fIf, fTPure, fB, f2, fVar, fC, fImm, fRet, fExpr, fMut, fPNil, modP, getP, fCons, fNil, fLst, fTup, fKs, fCall, dEq, dNe, eqB, dB, dIx, dLen, hAppend, D.imm, D.imms, dTuple, dAdd, fT, dTru, ofs_inj, atI0, atI1, atI2, dGt, dInt1, dStr1, rowsIn] at hr
  | group r' => simp [fSeq, fSkip, fSet, fPure, fIf, fTPure, fB, f2, fVar, fC, fImm, fRet, fExpr, fMut, fPNil, modP, getP, fCons, fNil, fLst, fTup, fKs, fCall, dEq, dNe, eqB, dB, dIx, dLen, hAppend, D.imm, D.imms, dTuple, dAdd, fT, dTru, ofs_inj, atI0, atI1, atI2, dGt, dInt1, dStr1, rowsIn] at hr; subst hr; exact h
  | hang n r' => simp [fSeq, fSkip, fSet, fPure, fIf, fTPure, fB, f2, fVar, fC, fImm, fRet, fExpr, fMut, fPNil, modP, getP, fCons, fNil, fLst, fTup, fKs, fCall, dEq, dNe, eqB, dB, dIx, dLen, hAppend, D.imm, D.imms, dTuple, dAdd, fT, dTru, ofs_inj, atI0, atI1, atI2, dGt, dInt1, dStr1, rowsIn] at hr; subst hr; exact h.2
  | either rs => exact okRs_mem h.2 hr
theorem rowsIn_toks {p : Pc} {r : List Pc} (hr : r ∈ rowsIn p) : (toksR r).length ≤ (toksP p).length := by
  cases p with
  | leaf l => simp [fSeq, fSkip, fSet, fPure, fIf, fTPure, fB, f2, fVar, fC, fImm, fRet, fExpr, fMut, fPNil, modP, getP, fCons, fNil, fLst, fTup, fKs, fCall, dEq, dNe, eqB, dB, dIx, dLen, hAppend, D.imm, D.imms, dTuple, dAdd, fT, dTru, ofs_inj, atI0, atI1, atI2, dGt, dInt1, dStr1, rowsIn] at hr
  | group r' => simp [fSeq, fSkip, fSet, fPure, fIf, fTPure, fB, f2, fVar, fC, fImm, fRet, fExpr, fMut, fPNil, modP, getP, fCons, fNil, fLst, fTup, fKs, fCall, dEq, dNe, eqB, dB, dIx, dLen, hAppend, D.imm, D.imms, dTuple, dAdd, fT, dTru, ofs_inj, atI0, atI1, atI2, dGt, dInt1, dStr1, rowsIn] at hr; subst hr; simp [fSeq, fSkip, fSet, fPure, fIf, fTPure, fB, f2, fVar, fC, fImm, fRet, fExpr, fMut, fPNil, modP, getP, fCons, fNil, fLst, fTup, fKs, fCall, dEq, dNe, eqB, dB, dIx, dLen, hAppend, D.imm, D.imms, dTuple, dAdd, fT, dTru, ofs_inj, atI0, atI1, atI2, dGt, dInt1, dStr1, toksP]; omega
  | hang n r' => simp [fSeq, fSkip, fSet, fPure, fIf, fTPure, fB, f2, fVar, fC, fImm, fRet, fExpr, fMut, fPNil, modP, getP, fCons, fNil, fLst, fTup, fKs, fCall, dEq, dNe, eqB, dB, dIx, dLen, hAppend, D.imm, D.imms, dTuple, dAdd, fT, dTru, ofs_inj, atI0, atI1, atI2, dGt, dInt1, dStr1, rowsIn] at hr; subst hr; simp [fSeq, fSkip, fSet, fPure, fIf, fTPure, fB, f2, fVar, fC, fImm, fRet, fExpr, fMut, fPNil, modP, getP, fCons, fNil, fLst, fTup, fKs, fCall, dEq, dNe, eqB, dB, dIx, dLen, hAppend, D.imm, D.imms, dTuple, dAdd, fT, dTru, ofs_inj, atI0, atI1, atI2, dGt, dInt1, dStr1, toksP]; omega
  | either rs => have := toksRows_le (r := r) (rs := rs) hr; simp [fSeq, fSkip, fSet, fPure, fIf, fTPure, fB, f2, fVar, fC, fImm, fRet, fExpr, fMut, fPNil, modP, getP, fCons, fNil, fLst, fTup, fKs, fCall, dEq, dNe, eqB, dB, dIx, dLen, hAppend, D.imm, D.imms, dTuple, dAdd, fT, dTru, ofs_inj, atI0, atI1, atI2, dGt, dInt1, dStr1, toksP]; omega
theorem rowsIn_dep' {p : Pc} {r : List Pc} (h : r ∈ rowsIn p) : depR r < depP p := by
  cases p with
  | leaf l => simp [fSeq, fSkip, fSet, fPure, fIf, fTPure, fB, f2, fVar, fC, fImm, fRet, fExpr, fMut, fPNil, modP, getP, fCons, fNil, fLst, fTup, fKs, fCall, dEq, dNe, eqB, dB, dIx, dLen, hAppend, D.imm, D.imms, dTuple, dAdd, fT, dTru, ofs_inj, atI0, atI1, atI2, dGt, dInt1, dStr1, rowsIn] at h
  | group r' => simp [fSeq, fSkip, fSet, fPure, fIf, fTPure, fB, f2, fVar, fC, fImm, fRet, fExpr, fMut, fPNil, modP, getP, fCons, fNil, fLst, fTup, fKs, fCall, dEq, dNe, eqB, dB, dIx, dLen, hAppend, D.imm, D.imms, dTuple, dAdd, fT, dTru, ofs_inj, atI0, atI1, atI2, dGt, dInt1, dStr1, rowsIn] at h; subst h; show depR r < depR r + 1; omega
  | hang n r' => simp [fSeq, fSkip, fSet, fPure, fIf, fTPure, fB, f2, fVar, fC, fImm, fRet, fExpr, fMut, fPNil, modP, getP, fCons, fNil, fLst, fTup, fKs, fCall, dEq, dNe, eqB, dB, dIx, dLen, hAppend, D.imm, D.imms, dTuple, dAdd, fT, dTru, ofs_inj, atI0, atI1, atI2, dGt, dInt1, dStr1, rowsIn] at h; subst h; show depR r < depR r + 1; omega
  | either rs => have := depRs_mem (r := r) (rs := rs) h; show depR r < depRs rs + 1; omega
theorem list_ok : ∀ (n : Nat) (r : List Pc), okR r → depR r < n → (toksR r).length ≤ 900 → gList n [.tup (pcsD r)] = some (.lst true (signsD (toksR r)))
  | 0, _, _, h, _ => by omega
  | n + 1, r, hok, hd, hl => by
    obtain ⟨y2, y3, q⟩ := list_for (G := gList n) (x0 := some (.tup (pcsD r))) r [] none none hok (fun p hp r' hr' => by
      have h1 := depR_mem hp; have h2 := rowsIn_dep' hr'; have h3 := rowsIn_toks hr'; have h4 := toksP_le hp
      exact list_ok n r' (rowsIn_ok' (okR_mem hok hp) hr') (by omega) (by omega)) (by simp [fSeq, fSkip, fSet, fPure, fIf, fTPure, fB, f2, fVar, fC, fImm, fRet, fExpr, fMut, fPNil, modP, getP, fCons, fNil, fLst, fTup, fKs, fCall, dEq, dNe, eqB, dB, dIx, dLen, hAppend, D.imm, D.imms, dTuple, dAdd, fT, dTru, ofs_inj, atI0, atI1, atI2, dGt, dInt1, dStr1]; omega)
    have e : fb_l_listed (gList n) = fSeq (fSet 1 (fPure (fLst fNil))) (fSeq (fFor 2 (fSeqI (fVar 0)) (bodyL (gList n))) (fRetL 1)) := rfl
    have s2 : fFor 2 (fSeqI (fVar 0)) (bodyL (gList n)) [some (.tup (pcsD r)), some (.lst true []), none, none] = some (.nx, [some (.tup (pcsD r)), some (.lst true (signsD (toksR r))), y2, y3]) := by
      unfold fFor; exact q
    have z := (congrFun e [some (.tup (pcsD r)), none, none, none]).trans ((fseq_nx (fset_ok (d := .lst true []) rfl)).trans (fseq_nx s2))
    exact gP_ret rfl (p := [some (.tup (pcsD r)), none, y2, y3]) (z.trans rfl)
end My
namespace My
open PySem PySem.Spec PyProof.Rows L2 L3
theorem word_for {m : Int} : ∀ (l : List Int) (w : Str) (x2 x4 : Option D), (∀ j ∈ l, 0 ≤ j ∧ j < 100) → w.length + l.length ≤ 100 → w.cps.toList.all goodC = true →
    ∃ w' x4', fForD 4 (fSet 3 (fPure (f2 dAdd (fVar 3) (f2 dIx (fVar 1) (f2 dMod (f2 dAdd (f2 dDiv (fVar 0) (fC (.int 12))) (f2 dMul (fVar 4) (f2 dMod (f2 dDiv (fVar 0) (fC (.int 9000))) (fC (.int 93))))) (fC (.int 93))))))) (l.map .int) [some (.int m), some (.str sg), x2, some (.str w), x4]
      = some (.nx, [some (.int m), some (.str sg), x2, some (.str w'), x4']) ∧ w'.length = w.length + l.length ∧ w'.cps.toList.all goodC = true
  | [], w, x2, x4, _, _, hw => ⟨w, x4, by simp [gP, fSeq, fSkip, fSet, fPure, fIf, fTPure, fB, f2, fVar, fC, fImm, fRet, fRetL, fCons, fNil, fLst, fTup, fKs, fCall, dEq, dNe, eqB, dB, dIx, dLen, fFor, dSeq, D.imm, D.imms, dTuple, dAdd, dMul, fT, dTru, ofs_inj, atI0, atI1, atI2, dLt, dLe, dGt, dGe, dMod_ii, dDiv_ii, fRng1, dRng1, D.flat, mulOkB, fForD], rfl, hw⟩
  | j :: l, w, x2, x4, hj, hl, hw => by
    rw [List.length_cons] at hl
    have hj0 := hj j List.mem_cons_self
    obtain ⟨c, hc, hg⟩ := sg_at ((m / 12 + j * (m / 9000 % 93)) % 93) (Int.emod_nonneg _ (by decide)) (Int.emod_lt_of_pos _ (by decide))
    have hw1 : (w ++ (⟨#[c]⟩ : Str)).length = w.length + 1 := by rw [append_length]; rfl
    obtain ⟨w', x4', q1, q2, q3⟩ := word_for (m := m) l (w ++ ⟨#[c]⟩) x2 (some (.int j)) (fun i hi => hj i (List.mem_cons_of_mem _ hi)) (by rw [hw1]; omega) (by rw [append_toList, List.all_append, hw]; simp [gP, fSeq, fSkip, fSet, fPure, fIf, fTPure, fB, f2, fVar, fC, fImm, fRet, fRetL, fCons, fNil, fLst, fTup, fKs, fCall, dEq, dNe, eqB, dB, dIx, dLen, fFor, dSeq, D.imm, D.imms, dTuple, dAdd, dMul, fT, dTru, ofs_inj, atI0, atI1, atI2, dLt, dLe, dGt, dGe, dMod_ii, dDiv_ii, fRng1, dRng1, D.flat, mulOkB, hg])
    refine ⟨w', x4', ?_, by rw [q2, hw1, List.length_cons]; omega, q3⟩
    rw [← q1]
    have hz : w.length + (⟨#[c]⟩ : Str).length ≤ sizeLine := sz (by show w.length + 1 ≤ 1000; omega)
    have b1 : (-18446744073709551616 < j ∧ j < 18446744073709551616) := by omega
    simp [gP, fSeq, fSkip, fSet, fPure, fIf, fTPure, fB, f2, fVar, fC, fImm, fRet, fRetL, fCons, fNil, fLst, fTup, fKs, fCall, dEq, dNe, eqB, dB, dIx, dLen, fFor, dSeq, D.imm, D.imms, dTuple, dAdd, dMul, fT, dTru, ofs_inj, atI0, atI1, atI2, dLt, dLe, dGt, dGe, dMod_ii, dDiv_ii, fRng1, dRng1, D.flat, mulOkB, fForD, hc, sg_size, hz, b1]
abbrev gWord : List D → Option D := gP 1 4 fb_l_word
theorem word_ok {m : Int} (hm : 0 ≤ m) : ∃ z, gWord [.int m] = some (.str z) ∧ WordOk z := by
  obtain ⟨s, hs, h1, h2⟩ := size_at m
  obtain ⟨w, x4, q1, q2, q3⟩ := word_for (m := m) ((List.range s.toNat).map fun (k : Nat) => (k : Int)) "" (some (.int s)) none
    (fun j hj => by obtain ⟨k, hk, rfl⟩ := List.mem_map.mp hj; have := List.mem_range.mp hk; omega) (by rw [List.length_map, List.length_range]; show 0 + _ ≤ 100; omega) (by decide +kernel)
  rw [← intsD0] at q1
  rw [List.length_map, List.length_range] at q2
  have q2' : w.length = s.toNat := by rw [q2]; show 0 + _ = _; omega
  refine ⟨w, ?_, by omega, by omega, q3⟩
  have hz : (Str.ofString "abcdefghijklmnopqrstuvwxyzABCDEFGHIJKLMNOPQRSTUVWXYZ0123456789").length + (Str.ofString "!\"#$&'()*+,-./:;<=>?\x40[\\]^_`{|}~").length ≤ sizeLine := by decide +kernel
  have e1 : Str.ofString "abcdefghijklmnopqrstuvwxyzABCDEFGHIJKLMNOPQRSTUVWXYZ0123456789" ++ Str.ofString "!\"#$&'()*+,-./:;<=>?\x40[\\]^_`{|}~" = sg := rfl
  have b1 : (-4611686018427387904 ≤ s ∧ s < 4611686018427387904) := by omega
  simp [gP, fSeq, fSkip, fSet, fPure, fIf, fTPure, fB, f2, fVar, fC, fImm, fRet, fRetL, fCons, fNil, fLst, fTup, fKs, fCall, dEq, dNe, eqB, dB, dIx, dLen, fFor, dSeq, D.imm, D.imms, dTuple, dAdd, dMul, fT, dTru, ofs_inj, atI0, atI1, atI2, dLt, dLe, dGt, dGe, dMod_ii, dDiv_ii, fRng1, dRng1, D.flat, mulOkB, fb_l_word, hz, e1, hs, q1, b1]
abbrev gLeaf : List D → Option D := gP 1 2 (fb_l_leaf gWord)
theorem odd_at (k : Int) : ∃ x : Str, atI [D.str (Str.ofString "["), .str (Str.ofString "]"), .str (Str.ofString "{"), .str (Str.ofString "|"), .str (Str.ofString "}"), .str (Str.ofString "<"), .str (Str.ofString ">3"), .str (Str.ofString "\x407"), .str (Str.ofString "_"), .str (Str.ofString "."), .str (Str.ofString "/"), .str (Str.ofString "'"), .str (Str.ofString "''"), .str (Str.ofString "'[")] (k % 14) = some (.str x) ∧ WordOk x := by
  have h0 := Int.emod_nonneg k (show (14 : Int) ≠ 0 by decide)
  have h1 := Int.emod_lt_of_pos k (show (0 : Int) < 14 by decide)
  obtain ⟨d, hd, e⟩ := atI_mem [D.str (Str.ofString "["), .str (Str.ofString "]"), .str (Str.ofString "{"), .str (Str.ofString "|"), .str (Str.ofString "}"), .str (Str.ofString "<"), .str (Str.ofString ">3"), .str (Str.ofString "\x407"), .str (Str.ofString "_"), .str (Str.ofString "."), .str (Str.ofString "/"), .str (Str.ofString "'"), .str (Str.ofString "''"), .str (Str.ofString "'[")] (k % 14) h0 (by simpa using h1)
  simp only [List.mem_cons, List.not_mem_nil, or_false] at hd
  rcases hd with rfl | rfl | rfl | rfl | rfl | rfl | rfl | rfl | rfl | rfl | rfl | rfl | rfl | rfl <;> exact ⟨_, e, by decide +kernel, by decide +kernel, by decide +kernel⟩
theorem leaf_ok {m : Int} (hm : 0 ≤ m) : ∃ l, gLeaf [.int m] = some (leafD l) ∧ LeafOk l := by
  have hd : 0 ≤ m / 16 := Int.ediv_nonneg hm (by decide)
  by_cases c0 : m % 16 < 2
  · obtain ⟨x, q, hx⟩ := odd_at (m / 16)
    exact ⟨.word x, by simp [gP, fSeq, fSkip, fSet, fPure, fIf, fTPure, fB, f2, fVar, fC, fImm, fRet, fRetL, fCons, fNil, fLst, fTup, fKs, fCall, dEq, dNe, eqB, dB, dIx, dLen, fFor, dSeq, D.imm, D.imms, dTuple, dAdd, dMul, fT, dTru, ofs_inj, atI0, atI1, atI2, dLt, dLe, dGt, dGe, dMod_ii, dDiv_ii, fRng1, dRng1, D.flat, mulOkB, fb_l_leaf, c0, q, leafD], hx⟩
  · by_cases c1 : m % 16 < 8
    · obtain ⟨z, q, hz⟩ := word_ok hd
      refine ⟨.word z, ?_, hz⟩
      show gP 1 2 (fb_l_leaf gWord) _ = _
      generalize gWord = G at q
      simp [gP, fSeq, fSkip, fSet, fPure, fIf, fTPure, fB, f2, fVar, fC, fImm, fRet, fRetL, fCons, fNil, fLst, fTup, fKs, fCall, dEq, dNe, eqB, dB, dIx, dLen, fFor, dSeq, D.imm, D.imms, dTuple, dAdd, dMul, fT, dTru, ofs_inj, atI0, atI1, atI2, dLt, dLe, dGt, dGe, dMod_ii, dDiv_ii, fRng1, dRng1, D.flat, mulOkB, fb_l_leaf, c0, c1, q, leafD]
    · by_cases c2 : m % 16 < 13
      · obtain ⟨x, q, hx⟩ := gap_at (m / 16)
        exact ⟨.gap x, by simp [gP, fSeq, fSkip, fSet, fPure, fIf, fTPure, fB, f2, fVar, fC, fImm, fRet, fRetL, fCons, fNil, fLst, fTup, fKs, fCall, dEq, dNe, eqB, dB, dIx, dLen, fFor, dSeq, D.imm, D.imms, dTuple, dAdd, dMul, fT, dTru, ofs_inj, atI0, atI1, atI2, dLt, dLe, dGt, dGe, dMod_ii, dDiv_ii, fRng1, dRng1, D.flat, mulOkB, fb_l_leaf, c0, c1, c2, q, leafD], hx⟩
      · by_cases c3 : m % 16 = 13
        · exact ⟨.fin, by simp [gP, fSeq, fSkip, fSet, fPure, fIf, fTPure, fB, f2, fVar, fC, fImm, fRet, fRetL, fCons, fNil, fLst, fTup, fKs, fCall, dEq, dNe, eqB, dB, dIx, dLen, fFor, dSeq, D.imm, D.imms, dTuple, dAdd, dMul, fT, dTru, ofs_inj, atI0, atI1, atI2, dLt, dLe, dGt, dGe, dMod_ii, dDiv_ii, fRng1, dRng1, D.flat, mulOkB, fb_l_leaf, c0, c1, c2, c3, leafD], trivial⟩
        · have ha := Int.emod_nonneg (m / 16 / 2) (show (10 : Int) ≠ 0 by decide)
          have hb := Int.emod_lt_of_pos (m / 16 / 2) (show (0 : Int) < 10 by decide)
          have hc := Int.emod_nonneg (m / 16 / 2) (show (41 : Int) ≠ 0 by decide)
          have hd := Int.emod_lt_of_pos (m / 16 / 2) (show (0 : Int) < 41 by decide)
          obtain ⟨c, q, h1, h2⟩ := stop_at (m / 16 / 2 % 10) (m / 16 / 2 % 41) (m / 16) (by omega) (by omega)
          exact ⟨.stop c, by simp [gP, fSeq, fSkip, fSet, fPure, fIf, fTPure, fB, f2, fVar, fC, fImm, fRet, fRetL, fCons, fNil, fLst, fTup, fKs, fCall, dEq, dNe, eqB, dB, dIx, dLen, fFor, dSeq, D.imm, D.imms, dTuple, dAdd, dMul, fT, dTru, ofs_inj, atI0, atI1, atI2, dLt, dLe, dGt, dGe, dMod_ii, dDiv_ii, fRng1, dRng1, D.flat, mulOkB, fb_l_leaf, c0, c1, c2, c3, q, leafD], h1, h2⟩
end My
namespace My
open PySem PySem.Spec PyProof.Rows L2 L3
theorem comp_leaves {GM GL : List D → Option D} {S : D} (hL : ∀ m, 0 ≤ m → ∃ l, GL [.int m] = some (leafD l) ∧ LeafOk l) {s : Int} : ∀ (l : List Int), (∀ j ∈ l, ∃ m, GM [S, .int j, .int s] = some (.int m) ∧ 0 ≤ m) →
    ∃ ls : List Leaf, compL [none, some S] fYes (fCall GL (fCons (fCall GM (fCons (fVar 1) (fCons (fVar 0) (fCons (fC (.int s)) fNil)))) fNil)) (l.map .int) = some (ls.map leafD) ∧ ls.length = l.length ∧ ∀ x ∈ ls, LeafOk x
  | [], _ => ⟨[], rfl, rfl, fun x hx => absurd hx (by simp [fSeq, fSkip, fSet, fPure, fIf, fTPure, fB, f2, fVar, fC, fImm, fRet, fRetL, fCons, fNil, fLst, fTup, fKs, fCall, dEq, dNe, eqB, dB, dIx, dLen, dSeq, D.imm, D.imms, dTuple, dAdd, fT, dTru, ofs_inj, atI0, atI1, atI2, dMod_ii, dDiv_ii, dMin2])⟩
  | j :: l, h => by
    obtain ⟨m, hm, hm0⟩ := h j List.mem_cons_self
    obtain ⟨x, hx, hxk⟩ := hL m hm0
    obtain ⟨ls, q, hl, hk⟩ := comp_leaves hL l fun i hi => h i (List.mem_cons_of_mem _ hi)
    refine ⟨x :: ls, ?_, by simp [fSeq, fSkip, fSet, fPure, fIf, fTPure, fB, f2, fVar, fC, fImm, fRet, fRetL, fCons, fNil, fLst, fTup, fKs, fCall, dEq, dNe, eqB, dB, dIx, dLen, dSeq, D.imm, D.imms, dTuple, dAdd, fT, dTru, ofs_inj, atI0, atI1, atI2, dMod_ii, dDiv_ii, dMin2, hl], fun y hy => (List.mem_cons.mp hy).elim (fun e => e ▸ hxk) (hk y)⟩
    show compL [none, some S] fYes _ (D.int j :: l.map .int) = _
    rw [compL]
    simp [fSeq, fSkip, fSet, fPure, fIf, fTPure, fB, f2, fVar, fC, fImm, fRet, fRetL, fCons, fNil, fLst, fTup, fKs, fCall, dEq, dNe, eqB, dB, dIx, dLen, dSeq, D.imm, D.imms, dTuple, dAdd, fT, dTru, ofs_inj, atI0, atI1, atI2, dMod_ii, dDiv_ii, dMin2, fYes, hm, hx, q]
theorem leaves_pcs : ∀ ls : List Leaf, ls.map leafD = pcsD (ls.map .leaf)
  | [] => rfl
  | l :: ls => by show leafD l :: ls.map leafD = leafD l :: pcsD (ls.map .leaf); rw [leaves_pcs ls]
theorem leaves_ok : ∀ ls : List Leaf, (∀ x ∈ ls, LeafOk x) → RowOk 0 ls.length (ls.map .leaf)
  | [], _ => ⟨trivial, Nat.le_refl _, Nat.le_refl _⟩
  | l :: ls, h => by
    obtain ⟨h1, h2, h3⟩ := leaves_ok ls fun x hx => h x (List.mem_cons_of_mem _ hx)
    exact ⟨⟨h l List.mem_cons_self, h1⟩, by show max 0 (depR (ls.map .leaf)) ≤ 0; omega, by show ([Tk.leaf l] ++ toksR (ls.map .leaf)).length ≤ ls.length + 1; rw [List.length_append]; simp [fSeq, fSkip, fSet, fPure, fIf, fTPure, fB, f2, fVar, fC, fImm, fRet, fRetL, fCons, fNil, fLst, fTup, fKs, fCall, dEq, dNe, eqB, dB, dIx, dLen, dSeq, D.imm, D.imms, dTuple, dAdd, fT, dTru, ofs_inj, atI0, atI1, atI2, dMod_ii, dDiv_ii, dMin2]; omega⟩
theorem min43 (n : Nat) : ∃ k : Nat, (if (40 : Int) < (n : Int) + 3 then (40 : Int) else (n : Int) + 3) = (k : Int) ∧ k ≤ 40 := by
  by_cases c : (40 : Int) < (n : Int) + 3
  · exact ⟨40, by rw [if_pos c]; rfl, Nat.le_refl _⟩
  · exact ⟨n + 3, by rw [if_neg c]; push_cast; rfl, by omega⟩
def wrapB (GM : List D → Option D) : PSt → Option (Fl × PSt) :=
   (fSeq (fSet 4 (fPure (f2 dMod (fCall GM (fCons (fVar 0) (fCons (fVar 3) (fCons (fC (.int 42)) fNil)))) (fC (.int 4)))))
  (fIf (fTPure (fB (f2 dEq (fVar 4) (fC (.int 0)))))
   (fSet 2 (fPure (fTup (fCons (fTup (fCons (fC (.str "hang")) (fCons (f2 dMod (fCall GM (fCons (fVar 0) (fCons (fVar 3) (fCons (fC (.int 43)) fNil)))) (fC (.int 13))) (fCons (fImm (fVar 2)) fNil)))) fNil))))
   (fIf (fTPure (fB (f2 dEq (fVar 4) (fC (.int 1)))))
   (fSet 2 (fPure (fTup (fCons (fTup (fCons (fC (.str "either")) (fCons (fTup (fCons (fImm (fVar 2)) (fCons (fTup (fCons (fTup (fCons (fC (.str "end")) fNil)) fNil)) fNil))) fNil))) fNil))))
   (fSet 2 (fPure (fTup (fCons (fTup (fCons (fC (.str "group")) (fCons (fImm (fVar 2)) fNil))) fNil)))))))
section
variable {GM GL GR : List D → Option D} {S : D} {x1 x4 : Option D}
theorem wrap_ok {r : List Pc} {j : Int} {d w : Nat} (hM : ∀ s : Int, 0 ≤ s → s < 1000 → ∃ m, GM [S, .int j, .int s] = some (.int m) ∧ 0 ≤ m) (h : RowOk d w r) :
    ∃ r' y4, wrapB GM [some S, x1, some (.tup (pcsD r)), some (.int j), x4] = some (.nx, [some S, x1, some (.tup (pcsD r')), some (.int j), y4]) ∧ RowOk (d + 1) (w + 4) r' := by
  obtain ⟨m, hm, hm0⟩ := hM 42 (by decide) (by decide)
  obtain ⟨m3, hm3, hm30⟩ := hM 43 (by decide) (by decide)
  obtain ⟨h1, h2, h3⟩ := h
  by_cases c0 : m % 4 = 0
  · refine ⟨[.hang (m3 % 13) r], some (.int 0), by simp [fSeq, fSkip, fSet, fPure, fIf, fTPure, fB, f2, fVar, fC, fImm, fRet, fRetL, fCons, fNil, fLst, fTup, fKs, fCall, dEq, dNe, eqB, dB, dIx, dLen, dSeq, D.imm, D.imms, dTuple, dAdd, fT, dTru, ofs_inj, atI0, atI1, atI2, dMod_ii, dDiv_ii, dMin2, wrapB, hm, hm3, c0, pcs_imm, pcsD, pcD], ?_⟩
    have a0 := Int.emod_nonneg m3 (show (13 : Int) ≠ 0 by decide)
    have a1 := Int.emod_lt_of_pos m3 (show (0 : Int) < 13 by decide)
    exact ⟨⟨⟨⟨a0, by omega⟩, h1⟩, trivial⟩, by show max (depR r + 1) 0 ≤ d + 1; omega, by simp [fSeq, fSkip, fSet, fPure, fIf, fTPure, fB, f2, fVar, fC, fImm, fRet, fRetL, fCons, fNil, fLst, fTup, fKs, fCall, dEq, dNe, eqB, dB, dIx, dLen, dSeq, D.imm, D.imms, dTuple, dAdd, fT, dTru, ofs_inj, atI0, atI1, atI2, dMod_ii, dDiv_ii, dMin2, toksR, toksP]; omega⟩
  · by_cases c1 : m % 4 = 1
    · refine ⟨[.either [r, [.leaf .fin]]], some (.int 1), by simp [fSeq, fSkip, fSet, fPure, fIf, fTPure, fB, f2, fVar, fC, fImm, fRet, fRetL, fCons, fNil, fLst, fTup, fKs, fCall, dEq, dNe, eqB, dB, dIx, dLen, dSeq, D.imm, D.imms, dTuple, dAdd, fT, dTru, ofs_inj, atI0, atI1, atI2, dMod_ii, dDiv_ii, dMin2, wrapB, hm, c1, pcs_imm, pcsD, pcD, rowsD, leafD], ?_⟩
      exact ⟨⟨⟨⟨by simp [fSeq, fSkip, fSet, fPure, fIf, fTPure, fB, f2, fVar, fC, fImm, fRet, fRetL, fCons, fNil, fLst, fTup, fKs, fCall, dEq, dNe, eqB, dB, dIx, dLen, dSeq, D.imm, D.imms, dTuple, dAdd, fT, dTru, ofs_inj, atI0, atI1, atI2, dMod_ii, dDiv_ii, dMin2], by simp [fSeq, fSkip, fSet, fPure, fIf, fTPure, fB, f2, fVar, fC, fImm, fRet, fRetL, fCons, fNil, fLst, fTup, fKs, fCall, dEq, dNe, eqB, dB, dIx, dLen, dSeq, D.imm, D.imms, dTuple, dAdd, fT, dTru, ofs_inj, atI0, atI1, atI2, dMod_ii, dDiv_ii, dMin2]⟩, h1, ⟨trivial, trivial⟩, trivial⟩, trivial⟩, by show max (max (depR r) (max (max 0 0) 0) + 1) 0 ≤ d + 1; omega, by simp [fSeq, fSkip, fSet, fPure, fIf, fTPure, fB, f2, fVar, fC, fImm, fRet, fRetL, fCons, fNil, fLst, fTup, fKs, fCall, dEq, dNe, eqB, dB, dIx, dLen, dSeq, D.imm, D.imms, dTuple, dAdd, fT, dTru, ofs_inj, atI0, atI1, atI2, dMod_ii, dDiv_ii, dMin2, toksR, toksP, toksRows, toksMore]; omega⟩
    · refine ⟨[.group r], some (.int (m % 4)), by simp [fSeq, fSkip, fSet, fPure, fIf, fTPure, fB, f2, fVar, fC, fImm, fRet, fRetL, fCons, fNil, fLst, fTup, fKs, fCall, dEq, dNe, eqB, dB, dIx, dLen, dSeq, D.imm, D.imms, dTuple, dAdd, fT, dTru, ofs_inj, atI0, atI1, atI2, dMod_ii, dDiv_ii, dMin2, wrapB, hm, c0, c1, pcs_imm, pcsD, pcD], ?_⟩
      exact ⟨⟨h1, trivial⟩, by show max (depR r + 1) 0 ≤ d + 1; omega, by simp [fSeq, fSkip, fSet, fPure, fIf, fTPure, fB, f2, fVar, fC, fImm, fRet, fRetL, fCons, fNil, fLst, fTup, fKs, fCall, dEq, dNe, eqB, dB, dIx, dLen, dSeq, D.imm, D.imms, dTuple, dAdd, fT, dTru, ofs_inj, atI0, atI1, atI2, dMod_ii, dDiv_ii, dMin2, toksR, toksP]; omega⟩
theorem wraps_ok : ∀ (l : List Int) (r : List Pc) (d w : Nat) (x3 x4 : Option D), (∀ j ∈ l, ∀ s : Int, 0 ≤ s → s < 1000 → ∃ m, GM [S, .int j, .int s] = some (.int m) ∧ 0 ≤ m) → RowOk d w r →
    ∃ r' y3 y4, fForD 3 (wrapB GM) (l.map .int) [some S, x1, some (.tup (pcsD r)), x3, x4] = some (.nx, [some S, x1, some (.tup (pcsD r')), y3, y4]) ∧ RowOk (d + l.length) (w + 4 * l.length) r'
  | [], r, d, w, x3, x4, _, h => ⟨r, x3, x4, by simp [fSeq, fSkip, fSet, fPure, fIf, fTPure, fB, f2, fVar, fC, fImm, fRet, fRetL, fCons, fNil, fLst, fTup, fKs, fCall, dEq, dNe, eqB, dB, dIx, dLen, dSeq, D.imm, D.imms, dTuple, dAdd, fT, dTru, ofs_inj, atI0, atI1, atI2, dMod_ii, dDiv_ii, dMin2, fForD], h⟩
  | j :: l, r, d, w, x3, x4, hM, h => by
    obtain ⟨r1, y4, q1, h1⟩ := wrap_ok (x1 := x1) (x4 := x4) (hM j List.mem_cons_self) h
    obtain ⟨r2, z3, z4, q2, h2⟩ := wraps_ok l r1 (d + 1) (w + 4) (some (.int j)) y4 (fun i hi => hM i (List.mem_cons_of_mem _ hi)) h1
    refine ⟨r2, z3, z4, ?_, ?_⟩
    · rw [← q2]
      show (wrapB GM [some S, x1, some (.tup (pcsD r)), some (.int j), x4]).bind _ = _
      rw [q1]; rfl
    · rw [List.length_cons]
      exact ⟨h2.ok, by have := h2.dep; omega, by have := h2.len; omega⟩
end
abbrev gSome (GM GL GR : List D → Option D) : List D → Option D := gP 1 4 (fb_l_some GM GL GR)
theorem some_ok {GM GL GR : List D → Option D} {xs : List D} (hx : xs.length ≤ 63) (hL : ∀ m, 0 ≤ m → ∃ l, GL [.int m] = some (leafD l) ∧ LeafOk l) (hM : ∀ k s : Int, 0 ≤ k → k < 1000 → 0 ≤ s → s < 1000 → ∃ m, GM [.con xs, .int k, .int s] = some (.int m) ∧ 0 ≤ m)
    (hR : ∀ many nest : Nat, many ≤ 40 → nest ≤ 4 → ∃ r, GR [.con xs, .int 0, .int many, .int nest] = some (.tup (pcsD r)) ∧ RowOk nest (4 * many) r) :
    ∃ r, gSome GM GL GR [.con xs] = some (.tup (pcsD r)) ∧ RowOk 13 400 r := by
  obtain ⟨m, hm, hm0⟩ := hM 0 40 (by decide) (by decide) (by decide) (by decide)
  obtain ⟨k, hk, hk40⟩ := min43 xs.length
  have s1 : fSet 1 (fPure (fCall GM (fCons (fVar 0) (fCons (fC (.int 0)) (fCons (fC (.int 40)) fNil))))) [some (.con xs), none, none, none, none] = some (.nx, [some (.con xs), some (.int m), none, none, none]) := fset_ok (fcall_ok rfl hm)
  by_cases c1 : m % 8 = 1
  · have n0 := Int.emod_nonneg (m / 8) (show (141 : Int) ≠ 0 by decide)
    have n1 := Int.emod_lt_of_pos (m / 8) (show (0 : Int) < 141 by decide)
    obtain ⟨ls, q, hl, hlk⟩ := comp_leaves (S := .con xs) hL (s := 41) ((List.range (60 + m / 8 % 141).toNat).map fun (k : Nat) => (k : Int)) fun j hj => by
      obtain ⟨i, hi, rfl⟩ := List.mem_map.mp hj
      have := List.mem_range.mp hi
      exact hM _ 41 (by omega) (by omega) (by decide) (by decide)
    rw [← intsD0] at q
    rw [List.length_map, List.length_range] at hl
    have hrow := leaves_ok ls hlk
    refine ⟨ls.map .leaf, ?_, hrow.ok, by have := hrow.dep; omega, by have := hrow.len; omega⟩
    have er : fRng1 (fCons (f2 dAdd (fC (.int 60)) (f2 dMod (f2 dDiv (fVar 1) (fC (.int 8))) (fC (.int 141)))) fNil) [some (.con xs), some (.int m), none, none, none] = some (intsD 0 (60 + m / 8 % 141).toNat) := by
      have e1 : fCons (f2 dAdd (fC (.int 60)) (f2 dMod (f2 dDiv (fVar 1) (fC (.int 8))) (fC (.int 141)))) fNil [some (.con xs), some (.int m), none, none, none] = some [.int (60 + m / 8 % 141)] := by simp [fSeq, fSkip, fSet, fPure, fIf, fTPure, fB, f2, fVar, fC, fImm, fRet, fRetL, fCons, fNil, fLst, fTup, fKs, fCall, dEq, dNe, eqB, dB, dIx, dLen, dSeq, D.imm, D.imms, dTuple, dAdd, fT, dTru, ofs_inj, atI0, atI1, atI2, dMod_ii, dDiv_ii, dMin2]
      unfold fRng1
      rw [e1, Option.bind_some, rng1_ok (by omega) (by omega)]
    have ec : fComp [none, some 0] (fRng1 (fCons (f2 dAdd (fC (.int 60)) (f2 dMod (f2 dDiv (fVar 1) (fC (.int 8))) (fC (.int 141)))) fNil)) fYes (fCall GL (fCons (fCall GM (fCons (fVar 1) (fCons (fVar 0) (fCons (fC (.int 41)) fNil)))) fNil)) [some (.con xs), some (.int m), none, none, none] = some (.lst true (ls.map leafD)) := by
      unfold fComp
      rw [er, Option.bind_some, if_pos (by unfold intsD; rw [List.length_map, List.length_range]; exact sz (by omega))]
      show (compL [none, some (.con xs)] fYes _ _).bind _ = _
      rw [q]; rfl
    have z : fb_l_some GM GL GR [some (.con xs), none, none, none, none] = some (.ret (.tup (pcsD (ls.map .leaf))), [some (.con xs), some (.int m), none, none, none]) := by
      refine (fseq_nx s1).trans (fseq_ret ((fif_t (p' := [some (.con xs), some (.int m), none, none, none]) (by simp [fSeq, fSkip, fSet, fPure, fIf, fTPure, fB, f2, fVar, fC, fImm, fRet, fRetL, fCons, fNil, fLst, fTup, fKs, fCall, dEq, dNe, eqB, dB, dIx, dLen, dSeq, D.imm, D.imms, dTuple, dAdd, fT, dTru, ofs_inj, atI0, atI1, atI2, dMod_ii, dDiv_ii, dMin2, c1])).trans (fret_ok (fcall_ok (fcons_ok ec rfl) ?_))))
      rw [leaves_pcs]; simp [fSeq, fSkip, fSet, fPure, fIf, fTPure, fB, f2, fVar, fC, fImm, fRet, fRetL, fCons, fNil, fLst, fTup, fKs, fCall, dEq, dNe, eqB, dB, dIx, dLen, dSeq, D.imm, D.imms, dTuple, dAdd, fT, dTru, ofs_inj, atI0, atI1, atI2, dMod_ii, dDiv_ii, dMin2, pcs_imm]
    exact gP_ret rfl z
  · obtain ⟨r, qr, hr⟩ := hR k 3 hk40 (by decide)
    have s2 : fSet 2 (fPure (fCall GR (fCons (fVar 0) (fCons (fC (.int 0)) (fCons (fCall dMin2 (fCons (f2 dAdd (fCall dLen (fCons (fVar 0) fNil)) (fC (.int 3))) (fCons (fC (.int 40)) fNil))) (fCons (fC (.int 3)) fNil)))))) [some (.con xs), some (.int m), none, none, none] = some (.nx, [some (.con xs), some (.int m), some (.tup (pcsD r)), none, none]) := by
      refine fset_ok (fcall_ok (ds := [.con xs, .int 0, .int k, .int 3]) ?_ qr)
      rw [← hk]; rfl
    by_cases c3 : m % 8 = 3
    · have n0 := Int.emod_nonneg (m / 8) (show (7 : Int) ≠ 0 by decide)
      have n1 := Int.emod_lt_of_pos (m / 8) (show (0 : Int) < 7 by decide)
      obtain ⟨r', y3, y4, q, hr'⟩ := wraps_ok (GM := GM) (S := .con xs) (x1 := some (.int m)) ((List.range (3 + m / 8 % 7).toNat).map fun (k : Nat) => (k : Int)) r 3 (4 * k) none none (fun j hj s hs hs1 => by
        obtain ⟨i, hi, rfl⟩ := List.mem_map.mp hj
        have := List.mem_range.mp hi
        exact hM _ s (by omega) (by omega) hs hs1) hr
      rw [← intsD0] at q
      rw [List.length_map, List.length_range] at hr'
      refine ⟨r', ?_, hr'.ok, by have := hr'.dep; omega, by have := hr'.len; omega⟩
      have er : fRng1 (fCons (f2 dAdd (fC (.int 3)) (f2 dMod (f2 dDiv (fVar 1) (fC (.int 8))) (fC (.int 7)))) fNil) [some (.con xs), some (.int m), some (.tup (pcsD r)), none, none] = some (intsD 0 (3 + m / 8 % 7).toNat) := by
        have e1 : fCons (f2 dAdd (fC (.int 3)) (f2 dMod (f2 dDiv (fVar 1) (fC (.int 8))) (fC (.int 7)))) fNil [some (.con xs), some (.int m), some (.tup (pcsD r)), none, none] = some [.int (3 + m / 8 % 7)] := by simp [fSeq, fSkip, fSet, fPure, fIf, fTPure, fB, f2, fVar, fC, fImm, fRet, fRetL, fCons, fNil, fLst, fTup, fKs, fCall, dEq, dNe, eqB, dB, dIx, dLen, dSeq, D.imm, D.imms, dTuple, dAdd, fT, dTru, ofs_inj, atI0, atI1, atI2, dMod_ii, dDiv_ii, dMin2]
        unfold fRng1
        rw [e1, Option.bind_some, rng1_ok (by omega) (by omega)]
      have s3 : fFor 3 (fRng1 (fCons (f2 dAdd (fC (.int 3)) (f2 dMod (f2 dDiv (fVar 1) (fC (.int 8))) (fC (.int 7)))) fNil)) (wrapB GM) [some (.con xs), some (.int m), some (.tup (pcsD r)), none, none] = some (.nx, [some (.con xs), some (.int m), some (.tup (pcsD r')), y3, y4]) := by
        unfold fFor; rw [er]; exact q
      have z : fb_l_some GM GL GR [some (.con xs), none, none, none, none] = some (.ret (.tup (pcsD r')), [some (.con xs), some (.int m), none, y3, y4]) := by
        refine (fseq_nx s1).trans ((fseq_nx ((fif_f (p' := [some (.con xs), some (.int m), none, none, none]) (by simp [fSeq, fSkip, fSet, fPure, fIf, fTPure, fB, f2, fVar, fC, fImm, fRet, fRetL, fCons, fNil, fLst, fTup, fKs, fCall, dEq, dNe, eqB, dB, dIx, dLen, dSeq, D.imm, D.imms, dTuple, dAdd, fT, dTru, ofs_inj, atI0, atI1, atI2, dMod_ii, dDiv_ii, dMin2, c1])).trans rfl)).trans ((fseq_nx s2).trans ?_))
        exact (fseq_nx ((fif_t (p' := [some (.con xs), some (.int m), some (.tup (pcsD r)), none, none]) (by simp [fSeq, fSkip, fSet, fPure, fIf, fTPure, fB, f2, fVar, fC, fImm, fRet, fRetL, fCons, fNil, fLst, fTup, fKs, fCall, dEq, dNe, eqB, dB, dIx, dLen, dSeq, D.imm, D.imms, dTuple, dAdd, fT, dTru, ofs_inj, atI0, atI1, atI2, dMod_ii, dDiv_ii, dMin2, c3])).trans s3)).trans rfl
      exact gP_ret rfl z
    · refine ⟨r, ?_, hr.ok, by have := hr.dep; omega, by have := hr.len; omega⟩
      have z : fb_l_some GM GL GR [some (.con xs), none, none, none, none] = some (.ret (.tup (pcsD r)), [some (.con xs), some (.int m), none, none, none]) := by
        refine (fseq_nx s1).trans ((fseq_nx ((fif_f (p' := [some (.con xs), some (.int m), none, none, none]) (by simp [fSeq, fSkip, fSet, fPure, fIf, fTPure, fB, f2, fVar, fC, fImm, fRet, fRetL, fCons, fNil, fLst, fTup, fKs, fCall, dEq, dNe, eqB, dB, dIx, dLen, dSeq, D.imm, D.imms, dTuple, dAdd, fT, dTru, ofs_inj, atI0, atI1, atI2, dMod_ii, dDiv_ii, dMin2, c1])).trans rfl)).trans ((fseq_nx s2).trans ?_))
        exact (fseq_nx ((fif_f (p' := [some (.con xs), some (.int m), some (.tup (pcsD r)), none, none]) (by simp [fSeq, fSkip, fSet, fPure, fIf, fTPure, fB, f2, fVar, fC, fImm, fRet, fRetL, fCons, fNil, fLst, fTup, fKs, fCall, dEq, dNe, eqB, dB, dIx, dLen, dSeq, D.imm, D.imms, dTuple, dAdd, fT, dTru, ofs_inj, atI0, atI1, atI2, dMod_ii, dDiv_ii, dMin2, c3])).trans rfl)).trans rfl
      exact gP_ret rfl z
end My
namespace My
open PySem PySem.Spec PyProof.Rows L2 L3
abbrev gSign : List D → Option D := gP 1 0 fb_p_sign_of
theorem asc_all {l : List Str} (h : l.all (fun y => y.cps.all (· < 128)) = true) : ∀ y ∈ l, y.cps.all (· < 128) = true := fun y hy => List.all_eq_true.mp h y hy
theorem datas_tup : ∀ ws : List Str, D.datas (strsD ws) = some (ws.map PyData.str)
  | [] => rfl
  | w :: ws => by
    show (D.data (.str w)).bind (fun p => (D.datas (strsD ws)).map (p :: ·)) = _
    rw [datas_tup ws]; rfl
theorem eq_tups {a b : List Str} (ha : a.all (fun y => y.cps.all (· < 128)) = true) (hb : b.all (fun y => y.cps.all (· < 128)) = true) : eqData (.tup (strsD a)) (.tup (strsD b)) = some (decide (a = b)) := by
  have e : ∀ c : List Str, D.data (.tup (strsD c)) = some (.tuple (c.map PyData.str)) := fun c => by rw [D.data, datas_tup]; rfl
  have c1 : PyData.canLay0 (.tuple (a.map PyData.str)) = true := L2.lay_strs (asc_all ha)
  have c2 : PyData.canLay0 (.tuple (b.map PyData.str)) = true := L2.lay_strs (asc_all hb)
  have d : PyData.depth (.tuple (a.map PyData.str)) ≤ 60 := by
    show PyData.depthAll (a.map PyData.str) + 1 ≤ 60
    rw [L2.depth_strs]; decide
  have q : PyData.eqv (.tuple (a.map PyData.str)) (.tuple (b.map PyData.str)) = decide (a = b) := by
    show PyData.eqvAll (a.map PyData.str) (b.map PyData.str) = _
    rw [L2.eqv_strs]
  unfold eqData
  rw [e, e]
  show (if (PyData.canLay0 _ && PyData.canLay0 _ && decide (PyData.depth _ ≤ 60)) = true then some (PyData.eqv _ _) else none) = _
  rw [c1, c2, decide_eq_true d, q]; rfl
def sgs : List (Str × List Str) := [("_", ["gap", " "]), (".", ["gap", ""]), ("/", ["end"]), ("[", ["open"]), ("]", ["close"]), ("<", ["back"]), ("{", ["either"]), ("|", ["or"]), ("}", ["done"])]
theorem sgs_ks : ks_SIGNS.map keyD = sgs.map fun p => D.str p.1 := rfl
theorem sgs_get : ∀ p ∈ sgs, dGet (.dic false ks_SIGNS ds_SIGNS) (.str p.1) = some (.tup (strsD p.2)) := by
  intro p hp
  simp only [sgs, List.mem_cons, List.not_mem_nil, or_false] at hp
  rcases hp with rfl | rfl | rfl | rfl | rfl | rfl | rfl | rfl | rfl <;> simp [fSeq, fSkip, fSet, fPure, fIf, fTPure, fB, f2, fVar, fC, fImm, fRet, fCons, fNil, fLst, fTup, fCall, dEq, dNe, eqB, dB, dIx, dSeq, D.imm, D.imms, dAdd, fT, dTru, ofs_inj, atI0, atI1, atI2, dStr1, tOrF, tNotF, dIsi, dTy, isKit, dGet, D.key, getK, strsD]
theorem sgs_asc : ∀ p ∈ sgs, p.2.all (fun y => y.cps.all (· < 128)) = true := by decide +kernel
theorem sgs_comp {b : List Str} {ft : PSt → Option Bool} (hf : ∀ p ∈ sgs, ft [some (.str p.1), some (.tup (strsD b))] = some (decide (p.2 = b))) : ∀ l : List (Str × List Str), (∀ p ∈ l, p ∈ sgs) →
    compL [none, some (.tup (strsD b))] ft (fImm (fVar 0)) (l.map fun p => D.str p.1) = some ((l.filter fun p => decide (p.2 = b)).map fun p => D.str p.1)
  | [], _ => rfl
  | p :: l, h => by
    have ih := sgs_comp hf l fun q hq => h q (List.mem_cons_of_mem _ hq)
    have hp := hf p (h p List.mem_cons_self)
    rw [List.map_cons, compL]
    show ((ft [some (.str p.1), some (.tup (strsD b))]).bind _) = _
    rw [hp]
    by_cases c : p.2 = b
    · simp [fSeq, fSkip, fSet, fPure, fIf, fTPure, fB, f2, fVar, fC, fImm, fRet, fCons, fNil, fLst, fTup, fCall, dEq, dNe, eqB, dB, dIx, dSeq, D.imm, D.imms, dAdd, fT, dTru, ofs_inj, atI0, atI1, atI2, dStr1, tOrF, tNotF, dIsi, dTy, isKit, c, ih]
    · simp [fSeq, fSkip, fSet, fPure, fIf, fTPure, fB, f2, fVar, fC, fImm, fRet, fCons, fNil, fLst, fTup, fCall, dEq, dNe, eqB, dB, dIx, dSeq, D.imm, D.imms, dAdd, fT, dTru, ofs_inj, atI0, atI1, atI2, dStr1, tOrF, tNotF, dIsi, dTy, isKit, c, ih]
theorem sgs_test {b : List Str} (hb : b.all (fun y => y.cps.all (· < 128)) = true) : ∀ p ∈ sgs, fB (f2 dEq (f2 dGet (fC (.dic false ks_SIGNS ds_SIGNS)) (fVar 0)) (fVar 1)) [some (.str p.1), some (.tup (strsD b))] = some (decide (p.2 = b)) := fun p hp => by
  have e1 : f2 dEq (f2 dGet (fC (.dic false ks_SIGNS ds_SIGNS)) (fVar 0)) (fVar 1) [some (.str p.1), some (.tup (strsD b))] = some (.bl (decide (p.2 = b))) := by
    refine f2_ok (x := .tup (strsD p.2)) (y := .tup (strsD b)) (f2_ok rfl rfl (sgs_get p hp)) rfl ?_
    show (eqData _ _).map D.bl = _
    rw [eq_tups (sgs_asc p hp) hb]; rfl
  unfold fB
  rw [e1]; rfl
theorem sign_of_ok {b : List Str} {z : Str} (hb : b.all (fun y => y.cps.all (· < 128)) = true) (h : (sgs.filter fun p => decide (p.2 = b)).map (fun p => p.1) = [z]) : gSign [.tup (strsD b)] = some (.str z) := by
  have e := sgs_comp (sgs_test hb) sgs fun p hp => hp
  have e2 : (sgs.filter fun p => decide (p.2 = b)).map (fun p => D.str p.1) = [.str z] := by
    have : (sgs.filter fun p => decide (p.2 = b)).map (fun p => D.str p.1) = ((sgs.filter fun p => decide (p.2 = b)).map (fun p => p.1)).map D.str := by rw [List.map_map]; rfl
    rw [this, h]; rfl
  rw [e2] at e
  refine gP_ret rfl (p := [some (.tup (strsD b))]) (fret_ok (f2_ok (x := .lst true [.str z]) (y := .int 0) ?_ rfl (by simp [fSeq, fSkip, fSet, fPure, fIf, fTPure, fB, f2, fVar, fC, fImm, fRet, fCons, fNil, fLst, fTup, fCall, dEq, dNe, eqB, dB, dIx, dSeq, D.imm, D.imms, dAdd, fT, dTru, ofs_inj, atI0, atI1, atI2, dStr1, tOrF, tNotF, dIsi, dTy, isKit])))
  unfold fComp
  show (if (ks_SIGNS.map keyD).length ≤ sizeLine then (compL [none, some (.tup (strsD b))] _ _ (ks_SIGNS.map keyD)).bind _ else none) = _
  rw [if_pos (by decide), sgs_ks, e]; rfl
theorem sign_ok {t : Tk} (h : t = .leaf (.gap " ") ∨ t = .leaf (.gap "") ∨ t = .leaf .fin ∨ t = .opn ∨ t = .cls ∨ t = .bck ∨ t = .eit ∨ t = .orr ∨ t = .don) : gSign [tkD t] = some (.str (signT t)) := by
  rcases h with rfl | rfl | rfl | rfl | rfl | rfl | rfl | rfl | rfl
  · exact sign_of_ok (b := ["gap", " "]) (by decide +kernel) (by decide +kernel)
  · exact sign_of_ok (b := ["gap", ""]) (by decide +kernel) (by decide +kernel)
  · exact sign_of_ok (b := ["end"]) (by decide +kernel) (by decide +kernel)
  · exact sign_of_ok (b := ["open"]) (by decide +kernel) (by decide +kernel)
  · exact sign_of_ok (b := ["close"]) (by decide +kernel) (by decide +kernel)
  · exact sign_of_ok (b := ["back"]) (by decide +kernel) (by decide +kernel)
  · exact sign_of_ok (b := ["either"]) (by decide +kernel) (by decide +kernel)
  · exact sign_of_ok (b := ["or"]) (by decide +kernel) (by decide +kernel)
  · exact sign_of_ok (b := ["done"]) (by decide +kernel) (by decide +kernel)
abbrev gWT : List D → Option D := gP 1 1 (fb_p_written_token gSign)
theorem k_no {p : D} {k w : String} {F : PSt → Option (Fl × PSt)} (h : k ≠ w) : fIf (fTPure (fB (f2 dEq (fVar 1) (fC (.str w))))) F fSkip [some p, some (.str k)] = some (.nx, [some p, some (.str k)]) := by
  refine (fif_f (p' := [some p, some (.str k)]) ?_).trans rfl
  have e : f2 dEq (fVar 1) (fC (.str w)) [some p, some (.str k)] = some (.bl false) := f2_ok (x := .str k) (y := .str w) rfl rfl (by simp [fSeq, fSkip, fSet, fPure, fIf, fTPure, fB, f2, fVar, fC, fImm, fRet, fCons, fNil, fLst, fTup, fCall, dEq, dNe, eqB, dB, dIx, dSeq, D.imm, D.imms, dAdd, fT, dTru, ofs_inj, atI0, atI1, atI2, dStr1, tOrF, tNotF, dIsi, dTy, isKit, h])
  unfold fTPure fB
  rw [e]; rfl
theorem k_yes {p : D} {k : String} {F : PSt → Option (Fl × PSt)} : fIf (fTPure (fB (f2 dEq (fVar 1) (fC (.str k))))) F fSkip [some p, some (.str k)] = F [some p, some (.str k)] := by
  refine fif_t (p' := [some p, some (.str k)]) ?_
  have e : f2 dEq (fVar 1) (fC (.str k)) [some p, some (.str k)] = some (.bl true) := f2_ok (x := .str k) (y := .str k) rfl rfl (by simp [fSeq, fSkip, fSet, fPure, fIf, fTPure, fB, f2, fVar, fC, fImm, fRet, fCons, fNil, fLst, fTup, fCall, dEq, dNe, eqB, dB, dIx, dSeq, D.imm, D.imms, dAdd, fT, dTru, ofs_inj, atI0, atI1, atI2, dStr1, tOrF, tNotF, dIsi, dTy, isKit])
  unfold fTPure fB
  rw [e]; rfl
theorem k_set {k : String} {l : List D} : fSet 1 (fPure (fImm (f2 dIx (fVar 0) (fC (.int 0))))) [some (.tup (.str k :: l)), none] = some (.nx, [some (.tup (.str k :: l)), some (.str k)]) := fset_ok (by simp [fSeq, fSkip, fSet, fPure, fIf, fTPure, fB, f2, fVar, fC, fImm, fRet, fCons, fNil, fLst, fTup, fCall, dEq, dNe, eqB, dB, dIx, dSeq, D.imm, D.imms, dAdd, fT, dTru, ofs_inj, atI0, atI1, atI2, dStr1, tOrF, tNotF, dIsi, dTy, isKit])
theorem wt_sign {G : List D → Option D} {k : String} {l : List D} {z : Str} (h1 : k ≠ "word") (h2 : k ≠ "stop") (h3 : k ≠ "hang") (q : G [.tup (.str k :: l)] = some (.str z)) : gP 1 1 (fb_p_written_token G) [.tup (.str k :: l)] = some (.str z) :=
  gP_ret rfl ((fseq_nx k_set).trans ((fseq_nx (k_no h1)).trans ((fseq_nx (k_no h2)).trans ((fseq_nx (k_no h3)).trans (fret_ok (fcall_ok rfl q))))))
theorem wt_ok {t : Tk} (h : TkOk t) : gWT [tkD t] = some (.str (signT t)) := by
  have q := @sign_ok t
  show gP 1 1 (fb_p_written_token gSign) _ = _
  generalize gSign = G at q ⊢
  cases t with
  | leaf l =>
    cases l with
    | word x =>
      have h' : WordOk x := h
      exact gP_ret rfl ((fseq_nx k_set).trans (fseq_ret (k_yes.trans (fret_ok (f2_ok rfl (f2_ok rfl rfl (dIx1_p "word" _ _)) (dAdd_s (by have := h'.2.1; show 1 + _ ≤ 1000; omega)))))))
    | gap x =>
      have h' : x = "" ∨ x = " " := h
      exact wt_sign (by decide) (by decide) (by decide) (q (by rcases h' with rfl | rfl <;> simp [fSeq, fSkip, fSet, fPure, fIf, fTPure, fB, f2, fVar, fC, fImm, fRet, fCons, fNil, fLst, fTup, fCall, dEq, dNe, eqB, dB, dIx, dSeq, D.imm, D.imms, dAdd, fT, dTru, ofs_inj, atI0, atI1, atI2, dStr1, tOrF, tNotF, dIsi, dTy, isKit]))
    | stop c =>
      have h' : 0 ≤ c ∧ c ≤ 40 := h
      exact gP_ret rfl ((fseq_nx k_set).trans ((fseq_nx (k_no (by decide))).trans (fseq_ret (k_yes.trans (fret_ok (f2_ok rfl (fcall_ok (ds := [.int c]) (fcons_ok (f2_ok rfl rfl (dIx1_p "stop" _ _)) rfl) (str1_ok h'.1 h'.2)) (dAdd_s (by have := iS_len h'.1 h'.2; show 1 + _ ≤ 1000; omega))))))))
    | fin => exact wt_sign (by decide) (by decide) (by decide) (q (by simp [fSeq, fSkip, fSet, fPure, fIf, fTPure, fB, f2, fVar, fC, fImm, fRet, fCons, fNil, fLst, fTup, fCall, dEq, dNe, eqB, dB, dIx, dSeq, D.imm, D.imms, dAdd, fT, dTru, ofs_inj, atI0, atI1, atI2, dStr1, tOrF, tNotF, dIsi, dTy, isKit]))
  | hng n =>
    have h' : 0 ≤ n ∧ n ≤ 12 := h
    exact gP_ret rfl ((fseq_nx k_set).trans ((fseq_nx (k_no (by decide))).trans ((fseq_nx (k_no (by decide))).trans (fseq_ret (k_yes.trans (fret_ok (f2_ok rfl (fcall_ok (ds := [.int n]) (fcons_ok (f2_ok rfl rfl (dIx1_p "hang" _ _)) rfl) (str1_ok h'.1 (by omega))) (dAdd_s (by have := iS_len h'.1 (by omega : n ≤ 40); show 1 + _ ≤ 1000; omega)))))))))
  | _ => exact wt_sign (by decide) (by decide) (by decide) (q (by simp [fSeq, fSkip, fSet, fPure, fIf, fTPure, fB, f2, fVar, fC, fImm, fRet, fCons, fNil, fLst, fTup, fCall, dEq, dNe, eqB, dB, dIx, dSeq, D.imm, D.imms, dAdd, fT, dTru, ofs_inj, atI0, atI1, atI2, dStr1, tOrF, tNotF, dIsi, dTy, isKit]))
theorem comp_signs {G : List D → Option D} : ∀ ts : List Tk, (∀ t ∈ ts, G [tkD t] = some (.str (signT t))) → compL [none] fYes (fCall G (fCons (fVar 0) fNil)) (tksD ts) = some (signsD ts)
  | [], _ => rfl
  | t :: ts, h => by
    have ih := comp_signs ts fun t' ht => h t' (List.mem_cons_of_mem _ ht)
    have h1 := h t List.mem_cons_self
    show compL [none] fYes _ (tkD t :: tksD ts) = _
    rw [compL]
    simp [fSeq, fSkip, fSet, fPure, fIf, fTPure, fB, f2, fVar, fC, fImm, fRet, fCons, fNil, fLst, fTup, fCall, dEq, dNe, eqB, dB, dIx, dSeq, D.imm, D.imms, dAdd, fT, dTru, ofs_inj, atI0, atI1, atI2, dStr1, tOrF, tNotF, dIsi, dTy, isKit, fYes, h1, ih, signsD_cons]
theorem strs_strsD : ∀ ys : List Str, D.strs (strsD ys) = some ys
  | [] => rfl
  | y :: ys => by
    show D.strs (.str y :: strsD ys) = _
    rw [D.strs, strs_strsD ys]; rfl
def joinT (ts : List Tk) : Str := Txt.join " " (ts.map signT)
theorem sum_signs : ∀ ts : List Tk, (∀ t ∈ ts, TkOk t) → ((ts.map signT).map (·.length)).sum ≤ 13 * ts.length
  | [], _ => Nat.le_refl _
  | t :: ts, h => by
    have ih := sum_signs ts fun t' ht => h t' (List.mem_cons_of_mem _ ht)
    have h1 := sign_len (h t List.mem_cons_self)
    show (signT t).length + ((ts.map signT).map (·.length)).sum ≤ 13 * (ts.length + 1)
    omega
theorem join_ok {o : Bool} {ts : List Tk} (h : ∀ t ∈ ts, TkOk t) (hl : ts.length ≤ 900) : dJoin (.str " ") [.lst o (signsD ts)] = some (.str (joinT ts)) := by
  have h1 := sum_signs ts h
  rw [dJoin, signsD, strs_strsD, Option.bind_some]
  exact if_pos ⟨by decide +kernel, by rw [List.length_map]; omega⟩
abbrev gWritten (GT : List D → Option D) : List D → Option D := gP 1 0 (fb_p_written gWT GT)
theorem written_ok {GT : List D → Option D} {r : List Pc} (hT : GT [.tup (pcsD r)] = some (.lst true (tksD (toksR r)))) (hok : okR r) (hl : (toksR r).length ≤ 900) : gWritten GT [.tup (pcsD r)] = some (.str (joinT (toksR r))) := by
  have hk := tk_okR r hok
  have ec : fComp [none] (fSeqI (fCall GT (fCons (fVar 0) fNil))) fYes (fCall gWT (fCons (fVar 0) fNil)) [some (.tup (pcsD r))] = some (.lst true (signsD (toksR r))) := by
    have e1 : fSeqI (fCall GT (fCons (fVar 0) fNil)) [some (.tup (pcsD r))] = some (tksD (toksR r)) := by
      unfold fSeqI
      rw [fcall_ok (ds := [.tup (pcsD r)]) rfl hT]
      show (if D.imms (tksD (toksR r)) = true then some (tksD (toksR r)) else none) = _
      rw [if_pos (tks_imm _)]
    unfold fComp
    rw [e1, Option.bind_some, if_pos (by rw [tksD_len]; exact sz (by omega))]
    show (compL [none] fYes _ _).bind _ = _
    rw [comp_signs (toksR r) fun t ht => wt_ok (hk t ht)]; rfl
  refine gP_ret rfl (p := [some (.tup (pcsD r))]) (fret_ok ?_)
  show fMt dJoin (fC (.str " ")) (fCons (fComp [none] (fSeqI (fCall GT (fCons (fVar 0) fNil))) fYes (fCall gWT (fCons (fVar 0) fNil))) fNil) [some (.tup (pcsD r))] = _
  unfold fMt
  rw [show fC (.str " ") [some (.tup (pcsD r))] = some (.str " ") from rfl, Option.bind_some, fcons_ok ec rfl, Option.bind_some]
  exact (if_pos rfl).trans (join_ok hk hl)
def bodyLw (GW GL : List D → Option D) : PSt → Option (Fl × PSt) :=
   (fSeq (fSet 2 (fPure (fCall GW (fCons (fVar 1) fNil))))
  (fIf (fTPure (tOrF (tNotF (fT (fCall dIsi (fCons (fVar 2) (fCons (fC (.ty "str")) fNil))))) (fB (f2 dNe (fVar 2) (fMt dJoin (fC (.str " ")) (fCons (fCall GL (fCons (fVar 1) fNil)) fNil))))))
   (fRet (fPure (fC (.bl false))))
   fSkip))
theorem lw_ok {GW GL : List D → Option D} {x0 x2 : Option D} {r : List Pc} (h1 : GW [.tup (pcsD r)] = some (.str (joinT (toksR r)))) (h2 : GL [.tup (pcsD r)] = some (.lst true (signsD (toksR r)))) (hok : okR r) (hl : (toksR r).length ≤ 900) :
    bodyLw GW GL [x0, some (.tup (pcsD r)), x2] = some (.nx, [x0, some (.tup (pcsD r)), some (.str (joinT (toksR r)))]) := by
  have s1 : fSet 2 (fPure (fCall GW (fCons (fVar 1) fNil))) [x0, some (.tup (pcsD r)), x2] = some (.nx, [x0, some (.tup (pcsD r)), some (.str (joinT (toksR r)))]) := fset_ok (fcall_ok rfl h1)
  have s2 : fMt dJoin (fC (.str " ")) (fCons (fCall GL (fCons (fVar 1) fNil)) fNil) [x0, some (.tup (pcsD r)), some (.str (joinT (toksR r)))] = some (.str (joinT (toksR r))) := by
    unfold fMt
    rw [show fC (.str " ") [x0, some (.tup (pcsD r)), some (.str (joinT (toksR r)))] = some (.str " ") from rfl, Option.bind_some, fcons_ok (fcall_ok (ds := [.tup (pcsD r)]) rfl h2) rfl, Option.bind_some]
    exact (if_pos rfl).trans (join_ok (tk_okR r hok) hl)
  refine (fseq_nx s1).trans ((fif_f (p' := [x0, some (.tup (pcsD r)), some (.str (joinT (toksR r)))]) ?_).trans rfl)
  have s3 : f2 dNe (fVar 2) (fMt dJoin (fC (.str " ")) (fCons (fCall GL (fCons (fVar 1) fNil)) fNil)) [x0, some (.tup (pcsD r)), some (.str (joinT (toksR r)))] = some (.bl false) := f2_ok (x := .str (joinT (toksR r))) rfl s2 (by simp [fSeq, fSkip, fSet, fPure, fIf, fTPure, fB, f2, fVar, fC, fImm, fRet, fCons, fNil, fLst, fTup, fCall, dEq, dNe, eqB, dB, dIx, dSeq, D.imm, D.imms, dAdd, fT, dTru, ofs_inj, atI0, atI1, atI2, dStr1, tOrF, tNotF, dIsi, dTy, isKit])
  unfold fTPure tOrF
  rw [show tNotF (fT (fCall dIsi (fCons (fVar 2) (fCons (fC (.ty "str")) fNil)))) [x0, some (.tup (pcsD r)), some (.str (joinT (toksR r)))] = some false by simp [fSeq, fSkip, fSet, fPure, fIf, fTPure, fB, f2, fVar, fC, fImm, fRet, fCons, fNil, fLst, fTup, fCall, dEq, dNe, eqB, dB, dIx, dSeq, D.imm, D.imms, dAdd, fT, dTru, ofs_inj, atI0, atI1, atI2, dStr1, tOrF, tNotF, dIsi, dTy, isKit]]
  show (fB (f2 dNe (fVar 2) (fMt dJoin (fC (.str " ")) (fCons (fCall GL (fCons (fVar 1) fNil)) fNil))) [x0, some (.tup (pcsD r)), some (.str (joinT (toksR r)))]).bind _ = _
  unfold fB
  rw [s3]; rfl
theorem law15_pure {GSm GW GL : List D → Option D} {xs : List D} {r : List Pc} (h0 : GSm [.con xs] = some (.tup (pcsD r))) (hok : okR r) (hl : (toksR r).length ≤ 900)
    (h1 : ∀ r, okR r → depR r ≤ 13 → (toksR r).length ≤ 900 → GW [.tup (pcsD r)] = some (.str (joinT (toksR r)))) (h2 : ∀ r, okR r → depR r ≤ 13 → (toksR r).length ≤ 900 → GL [.tup (pcsD r)] = some (.lst true (signsD (toksR r)))) (hd : depR r ≤ 13) :
    gP 1 2 (fb_law GSm GW GL) [.con xs] = some (.bl true) := by
  have q1 := lw_ok (GW := GW) (GL := GL) (x0 := some (.con xs)) (x2 := none) (h1 r hok hd hl) (h2 r hok hd hl) hok hl
  have q2 := lw_ok (GW := GW) (GL := GL) (x0 := some (.con xs)) (x2 := some (.str (joinT (toksR r)))) (r := []) (h1 [] trivial (Nat.zero_le _) (Nat.zero_le _)) (h2 [] trivial (Nat.zero_le _) (Nat.zero_le _)) trivial (Nat.zero_le _)
  have er : fSeqI (fLst (fCons (fCall GSm (fCons (fVar 0) fNil)) (fCons (fTup fNil) fNil))) [some (.con xs), none, none] = some [.tup (pcsD r), .tup (pcsD [])] := by
    have e1 : fLst (fCons (fCall GSm (fCons (fVar 0) fNil)) (fCons (fTup fNil) fNil)) [some (.con xs), none, none] = some (.lst true [.tup (pcsD r), .tup (pcsD [])]) := by
      unfold fLst
      rw [fcons_ok (fcall_ok (ds := [.con xs]) rfl h0) (fcons_ok (d := .tup (pcsD [])) (by simp [fSeq, fSkip, fSet, fPure, fIf, fTPure, fB, f2, fVar, fC, fImm, fRet, fCons, fNil, fLst, fTup, fCall, dEq, dNe, eqB, dB, dIx, dSeq, D.imm, D.imms, dAdd, fT, dTru, ofs_inj, atI0, atI1, atI2, dStr1, tOrF, tNotF, dIsi, dTy, isKit, pcsD]) rfl)]; rfl
    unfold fSeqI
    rw [e1]
    simp [fSeq, fSkip, fSet, fPure, fIf, fTPure, fB, f2, fVar, fC, fImm, fRet, fCons, fNil, fLst, fTup, fCall, dEq, dNe, eqB, dB, dIx, dSeq, D.imm, D.imms, dAdd, fT, dTru, ofs_inj, atI0, atI1, atI2, dStr1, tOrF, tNotF, dIsi, dTy, isKit, pcs_imm]
  have s1 : fFor 1 (fSeqI (fLst (fCons (fCall GSm (fCons (fVar 0) fNil)) (fCons (fTup fNil) fNil)))) (bodyLw GW GL) [some (.con xs), none, none] = some (.nx, [some (.con xs), some (.tup (pcsD [])), some (.str (joinT (toksR [])))]) := by
    unfold fFor
    rw [er, Option.bind_some]
    show (bodyLw GW GL [some (.con xs), some (.tup (pcsD r)), none]).bind _ = _
    rw [q1]
    show (bodyLw GW GL [some (.con xs), some (.tup (pcsD [])), some (.str (joinT (toksR r)))]).bind _ = _
    rw [q2]; rfl
  have e : fb_law GSm GW GL = fSeq (fFor 1 (fSeqI (fLst (fCons (fCall GSm (fCons (fVar 0) fNil)) (fCons (fTup fNil) fNil)))) (bodyLw GW GL)) (fRet (fPure (fC (.bl true)))) := rfl
  exact gP_ret rfl ((congrFun e _).trans ((fseq_nx s1).trans (fret_ok rfl)))
theorem law15_true {GM : List D → Option D} {xs : List D} (hx : xs.length ≤ 63) (hM : ∀ k s : Int, 0 ≤ k → k < 1000 → 0 ≤ s → s < 1000 → ∃ m, GM [.con xs, .int k, .int s] = some (.int m) ∧ 0 ≤ m) :
    gP 1 2 (fb_law (gSome GM gLeaf (gRow GM gLeaf)) (gWritten (gTok 50).1) (gList 50)) [.con xs] = some (.bl true) := by
  obtain ⟨r, q, hr⟩ := some_ok (GL := gLeaf) (GR := gRow GM gLeaf) hx (fun m hm => leaf_ok hm) hM (fun many nest h1 h2 => row_ok (a := 0) (fun m hm => leaf_ok hm) (fun j s hj hs => hM j s (by omega) (by omega) (by omega) (by omega)) (by omega) (by omega) (by omega))
  have hl := hr.len
  refine law15_pure q hr.ok (by omega) (fun r h1 h2 h3 => written_ok ((toks_all 50).1 r (by omega) (ne_okR r h1) (by omega)) h1 h3) (fun r h1 h2 h3 => list_ok 50 r h1 (by omega) h3) hr.dep
end My
namespace My
open PySem PySem.Spec PyProof.Rows L2 L3
variable {P : Program} {w : World} {K : PySem.W.Frag} {mg : Str → Option Value} {base : Heap} {κ : Str → Addr}
def intsOf : List D → Option (List Int)
  | [] => some []
  | .int i :: ds => (intsOf ds).map (i :: ·)
  | _ => none
theorem intsOf_map : ∀ ns : List Int, intsOf (ns.map .int) = some ns
  | [] => rfl
  | n :: ns => by show (intsOf (ns.map .int)).map (n :: ·) = _; rw [intsOf_map ns]; rfl
theorem intsOf_reps {H : Hp} : ∀ {ds : List D} {vs : List V} {ns : List Int} {fp : List Addr}, Reps K κ H vs ds fp → intsOf ds = some ns → vs = ns.map V.int
  | [], vs, ns, fp, r, h => by cases r; cases h; rfl
  | d :: ds, vs, ns, fp, r, h => by
    cases d with
    | int i =>
      cases r with
      | cons r1 r2 =>
        have h' : (intsOf ds).map (i :: ·) = some ns := h
        cases e : intsOf ds with
        | none => rw [e] at h'; cases h'
        | some ms =>
          rw [e] at h'; cases h'
          cases r1
          rw [intsOf_reps r2 e]; rfl
    | _ => cases h
def gMix : List D → Option D
  | [.con xs, .int k, .int s] => match intsOf xs with
    | some ns => if ns.length ≤ 63 ∧ (0 ≤ k ∧ k < 1000000) ∧ (0 ≤ s ∧ s < 1000000) then some (.int (mixed ns k s)) else none
    | none => none
  | _ => none
theorem gMix_int {ns : List Int} (h : ns.length ≤ 63) (k s : Int) (hk : 0 ≤ k) (hk1 : k < 1000) (hs : 0 ≤ s) (hs1 : s < 1000) : ∃ m, gMix [.con (ns.map .int), .int k, .int s] = some (.int m) ∧ 0 ≤ m := by
  refine ⟨mixed ns k s, ?_, (mixed_range ns k s).1⟩
  show (match intsOf (ns.map .int) with | some ns => if ns.length ≤ 63 ∧ (0 ≤ k ∧ k < 1000000) ∧ (0 ≤ s ∧ s < 1000000) then some (D.int (mixed ns k s)) else none | none => none) = _
  rw [intsOf_map]
  exact if_pos ⟨h, ⟨hk, by omega⟩, hs, by omega⟩
theorem mixP {k : Nat} {f : Addr} {fd : FuncData} {ps : List Str} (F : FnOk P w K mg base CX0 k f fd ps (spMixed K)) : FnOk P w K mg base CX0 k f fd ps (SpP 3 K κ gMix) := by
  refine F.imp fun vs H Q E ⟨_, ds, fp, d, r, e, q⟩ => ?_
  unfold gMix at e
  split at e
  · rename_i xs k s
    split at e
    · rename_i ns hns
      obtain ⟨hc, e⟩ := ite_some e
      cases e
      cases r with
      | cons r1 r2 => cases r2 with
        | cons r3 r4 => cases r4 with
          | cons r5 r6 =>
            cases r6
            cases r3; cases r5
            cases r1 with
            | con hS hs =>
              rw [intsOf_reps hs hns] at hS
              exact ⟨_, ns, k, s, rfl, hS.l, hc.1, hc.2.1, hc.2.2, q _ H [] (SameK.refl H) (fun _ ha => absurd ha (by simp)) List.nodup_nil (.int _)⟩
    · cases e
  · cases e
def spLaw (K : PySem.W.Frag) : Sp := fun vs H Q _ => ∃ (a : Addr) (ns : List Int), vs = [.ref a] ∧ SqF K H a (ns.map V.int) ∧ ns.length ≤ 63 ∧ ∀ H', Q (.bl true) H'
theorem reps_ints {H : Hp} : ∀ ns : List Int, Reps K κ H (ns.map V.int) (ns.map .int) []
  | [] => .nil
  | n :: ns => .cons (f := []) (g := []) (.int n) (reps_ints ns)
theorem lawP {k : Nat} {f : Addr} {fd : FuncData} {ps : List Str} {g : List D → Option D} (F : FnOk P w K mg base CX0 k f fd ps (SpP 1 K κ g)) (h : ∀ ns : List Int, ns.length ≤ 63 → g [.con (ns.map .int)] = some (.bl true)) : FnOk P w K mg base CX0 k f fd ps (spLaw K) :=
  F.imp fun vs H Q E ⟨a, ns, e, hS, hl, q⟩ => e ▸ ⟨rfl, [.con (ns.map .int)], [], .bl true, .cons (f := []) (g := []) (.con hS (reps_ints ns)) .nil, h ns hl, fun v H' fv _ _ _ r => by cases r; exact q H'⟩
theorem dn_mk {h : Heap} (X : K.In h) (G : h.Ns mainGlobals mg) {x : Str} {st : Stmt} {f : Addr} {od an : Option Addr} {sl : Array (Option Value)} {oc kV dc pm cd ct : Value} {ps : List Str}
    (a : PySem.W.nsIn K mainGlobals x = some (some (.ref f))) (l : K.lookup f = some ⟨oc, od, .func (PySem.W.fnOf x x (defArgs st) (defBody st) (defScope st) .none kV dc pm an cd ct), sl⟩) (c : PySem.W.codeIn K cd x = true) (k : PySem.W.keepIn K (.ref f) = true)
    (hb : ∀ (kV doc pm : Value) (an : Option Addr) (cdv ct : Value) (us : List Value), us.length = ps.length → bindArgs (PySem.W.fnOf x x (defArgs st) (defBody st) (defScope st) .none kV doc pm an cdv ct) ⟨us, []⟩ = pure (ps.zip us)) :
    Dn K mg x st ps f (PySem.W.fnOf x x (defArgs st) (defBody st) (defScope st) .none kV dc pm an cd ct) :=
  ⟨fun_mk l c k, (fun_mk l c k).binds hb, PySem.W.mg_of X G a⟩
theorem walk {l : PySem.W.OpenLaw} {q : Program} {loose : List Str} {XP : (Str → Option Value) → Heap → Prop} {YP : World → Heap → Prop} {d : DefRec} {K : Params → PySem.W.Frag} {lev : Nat} (hn : l.most = some 63) (hdf : d.params.defaults = []) (hr : Room lev callerA)
    (hY : ∀ (w : World) (h : Heap), YP w h → (K w.params).In h)
    (F : ∀ (w : World) (mg : Str → Option Value) (fa : Addr) (h : Heap), (K w.params).In h → h.Ns mainGlobals mg → mg d.name = some (.ref fa) →
      ∃ fd : FuncData, (∀ (s : Shared) (u : Value), BindsTo s fd ⟨[u], []⟩ [("_law_script", u)]) ∧ ∀ base : Heap, (K w.params).In base → base.Ns mainGlobals mg → FnOk l.prog w (K w.params) mg base CX0 lev fa fd ["_law_script"] (spLaw (K w.params))) :
    PySem.W.WalkO q loose XP YP l.row.toRowW d [] (fun f vs => PySem.call f vs) :=
  L2.walk_of (n := 63) (k := lev) (x := "_law_script") (CX := fun _ => CX0) (sp := fun w => spLaw (K w.params)) hn (by decide) hdf hr hY F (fun _ H a ns hl hO hS => ⟨a, ns, rfl, by
    rcases hS with (h | h) | h
    · rcases hO a with z | ⟨o, xs, z⟩ <;> rw [h] at z <;> cases z
    · exact .inl h
    · exact .inr h, hl, fun _ => rfl⟩) fun _ _ _ _ _ z => z
end My
namespace My
open PySem PySem.Spec PyProof.Rows L2 L3
theorem all_mk {l : PySem.W.OpenLaw} {w : World} {K : PySem.W.Frag} {h : Heap} {mg : Str → Option Value} {fa f0 f1 f2 f3 f4 f5 f6 f7 f8 f9 f10 f11 f12 f13 f14 : Addr} (X : K.In h) (G : h.Ns mainGlobals mg) (hfa : mg "law" = some (.ref fa))
    {od0 an0 od1 an1 od2 an2 od3 an3 od4 an4 od5 an5 od6 an6 od7 an7 od8 an8 od9 an9 od10 an10 od11 an11 od12 an12 od13 an13 od14 an14 : Option Addr} {sl0 sl1 sl2 sl3 sl4 sl5 sl6 sl7 sl8 sl9 sl10 sl11 sl12 sl13 sl14 : Array (Option Value)} {oc0 kV0 dc0 pm0 cd0 ct0 oc1 kV1 dc1 pm1 cd1 ct1 oc2 kV2 dc2 pm2 cd2 ct2 oc3 kV3 dc3 pm3 cd3 ct3 oc4 kV4 dc4 pm4 cd4 ct4 oc5 kV5 dc5 pm5 cd5 ct5 oc6 kV6 dc6 pm6 cd6 ct6 oc7 kV7 dc7 pm7 cd7 ct7 oc8 kV8 dc8 pm8 cd8 ct8 oc9 kV9 dc9 pm9 cd9 ct9 oc10 kV10 dc10 pm10 cd10 ct10 oc11 kV11 dc11 pm11 cd11 ct11 oc12 kV12 dc12 pm12 cd12 ct12 oc13 kV13 dc13 pm13 cd13 ct13 oc14 kV14 dc14 pm14 cd14 ct14 : Value}
    {v1 v2 v3 : Value}
    (a0 : PySem.W.nsIn K mainGlobals "tokens" = some (some (.ref f0))) (l0 : K.lookup f0 = some ⟨oc0, od0, .func (PySem.W.fnOf "tokens" "tokens" (defArgs st_p_tokens) (defBody st_p_tokens) (defScope st_p_tokens) .none kV0 dc0 pm0 an0 cd0 ct0), sl0⟩) (c0 : PySem.W.codeIn K cd0 "tokens" = true) (k0 : PySem.W.keepIn K (.ref f0) = true)
    (a1 : PySem.W.nsIn K mainGlobals "tokens_of_piece" = some (some (.ref f1))) (l1 : K.lookup f1 = some ⟨oc1, od1, .func (PySem.W.fnOf "tokens_of_piece" "tokens_of_piece" (defArgs st_p_tokens_of_piece) (defBody st_p_tokens_of_piece) (defScope st_p_tokens_of_piece) .none kV1 dc1 pm1 an1 cd1 ct1), sl1⟩) (c1 : PySem.W.codeIn K cd1 "tokens_of_piece" = true) (k1 : PySem.W.keepIn K (.ref f1) = true)
    (a2 : PySem.W.nsIn K mainGlobals "tokens_of_either" = some (some (.ref f2))) (l2 : K.lookup f2 = some ⟨oc2, od2, .func (PySem.W.fnOf "tokens_of_either" "tokens_of_either" (defArgs st_p_tokens_of_either) (defBody st_p_tokens_of_either) (defScope st_p_tokens_of_either) .none kV2 dc2 pm2 an2 cd2 ct2), sl2⟩) (c2 : PySem.W.codeIn K cd2 "tokens_of_either" = true) (k2 : PySem.W.keepIn K (.ref f2) = true)
    (a3 : PySem.W.nsIn K mainGlobals "sign_of" = some (some (.ref f3))) (l3 : K.lookup f3 = some ⟨oc3, od3, .func (PySem.W.fnOf "sign_of" "sign_of" (defArgs st_p_sign_of) (defBody st_p_sign_of) (defScope st_p_sign_of) .none kV3 dc3 pm3 an3 cd3 ct3), sl3⟩) (c3 : PySem.W.codeIn K cd3 "sign_of" = true) (k3 : PySem.W.keepIn K (.ref f3) = true)
    (a4 : PySem.W.nsIn K mainGlobals "written_token" = some (some (.ref f4))) (l4 : K.lookup f4 = some ⟨oc4, od4, .func (PySem.W.fnOf "written_token" "written_token" (defArgs st_p_written_token) (defBody st_p_written_token) (defScope st_p_written_token) .none kV4 dc4 pm4 an4 cd4 ct4), sl4⟩) (c4 : PySem.W.codeIn K cd4 "written_token" = true) (k4 : PySem.W.keepIn K (.ref f4) = true)
    (a5 : PySem.W.nsIn K mainGlobals "written" = some (some (.ref f5))) (l5 : K.lookup f5 = some ⟨oc5, od5, .func (PySem.W.fnOf "written" "written" (defArgs st_p_written) (defBody st_p_written) (defScope st_p_written) .none kV5 dc5 pm5 an5 cd5 ct5), sl5⟩) (c5 : PySem.W.codeIn K cd5 "written" = true) (k5 : PySem.W.keepIn K (.ref f5) = true)
    (a6 : PySem.W.nsIn K mainGlobals "_law_cell_at" = some (some (.ref f6))) (l6 : K.lookup f6 = some ⟨oc6, od6, .func (PySem.W.fnOf "_law_cell_at" "_law_cell_at" (defArgs st_l_cell_at) (defBody st_l_cell_at) (defScope st_l_cell_at) .none kV6 dc6 pm6 an6 cd6 ct6), sl6⟩) (c6 : PySem.W.codeIn K cd6 "_law_cell_at" = true) (k6 : PySem.W.keepIn K (.ref f6) = true)
    (a7 : PySem.W.nsIn K mainGlobals "_law_mixed" = some (some (.ref f7))) (l7 : K.lookup f7 = some ⟨oc7, od7, .func (PySem.W.fnOf "_law_mixed" "_law_mixed" (defArgs st_l_mixed) (defBody st_l_mixed) (defScope st_l_mixed) .none kV7 dc7 pm7 an7 cd7 ct7), sl7⟩) (c7 : PySem.W.codeIn K cd7 "_law_mixed" = true) (k7 : PySem.W.keepIn K (.ref f7) = true)
    (a8 : PySem.W.nsIn K mainGlobals "_law_word" = some (some (.ref f8))) (l8 : K.lookup f8 = some ⟨oc8, od8, .func (PySem.W.fnOf "_law_word" "_law_word" (defArgs st_l_word) (defBody st_l_word) (defScope st_l_word) .none kV8 dc8 pm8 an8 cd8 ct8), sl8⟩) (c8 : PySem.W.codeIn K cd8 "_law_word" = true) (k8 : PySem.W.keepIn K (.ref f8) = true)
    (a9 : PySem.W.nsIn K mainGlobals "_law_leaf" = some (some (.ref f9))) (l9 : K.lookup f9 = some ⟨oc9, od9, .func (PySem.W.fnOf "_law_leaf" "_law_leaf" (defArgs st_l_leaf) (defBody st_l_leaf) (defScope st_l_leaf) .none kV9 dc9 pm9 an9 cd9 ct9), sl9⟩) (c9 : PySem.W.codeIn K cd9 "_law_leaf" = true) (k9 : PySem.W.keepIn K (.ref f9) = true)
    (a10 : PySem.W.nsIn K mainGlobals "_law_shut" = some (some (.ref f10))) (l10 : K.lookup f10 = some ⟨oc10, od10, .func (PySem.W.fnOf "_law_shut" "_law_shut" (defArgs st_l_shut) (defBody st_l_shut) (defScope st_l_shut) .none kV10 dc10 pm10 an10 cd10 ct10), sl10⟩) (c10 : PySem.W.codeIn K cd10 "_law_shut" = true) (k10 : PySem.W.keepIn K (.ref f10) = true)
    (a11 : PySem.W.nsIn K mainGlobals "_law_row" = some (some (.ref f11))) (l11 : K.lookup f11 = some ⟨oc11, od11, .func (PySem.W.fnOf "_law_row" "_law_row" (defArgs st_l_row) (defBody st_l_row) (defScope st_l_row) .none kV11 dc11 pm11 an11 cd11 ct11), sl11⟩) (c11 : PySem.W.codeIn K cd11 "_law_row" = true) (k11 : PySem.W.keepIn K (.ref f11) = true)
    (a12 : PySem.W.nsIn K mainGlobals "_law_listed" = some (some (.ref f12))) (l12 : K.lookup f12 = some ⟨oc12, od12, .func (PySem.W.fnOf "_law_listed" "_law_listed" (defArgs st_l_listed) (defBody st_l_listed) (defScope st_l_listed) .none kV12 dc12 pm12 an12 cd12 ct12), sl12⟩) (c12 : PySem.W.codeIn K cd12 "_law_listed" = true) (k12 : PySem.W.keepIn K (.ref f12) = true)
    (a13 : PySem.W.nsIn K mainGlobals "_law_some" = some (some (.ref f13))) (l13 : K.lookup f13 = some ⟨oc13, od13, .func (PySem.W.fnOf "_law_some" "_law_some" (defArgs st_l_some) (defBody st_l_some) (defScope st_l_some) .none kV13 dc13 pm13 an13 cd13 ct13), sl13⟩) (c13 : PySem.W.codeIn K cd13 "_law_some" = true) (k13 : PySem.W.keepIn K (.ref f13) = true)
    (a14 : PySem.W.nsIn K mainGlobals "law" = some (some (.ref f14))) (l14 : K.lookup f14 = some ⟨oc14, od14, .func (PySem.W.fnOf "law" "law" (defArgs st_law) (defBody st_law) (defScope st_law) .none kV14 dc14 pm14 an14 cd14 ct14), sl14⟩) (c14 : PySem.W.codeIn K cd14 "law" = true) (k14 : PySem.W.keepIn K (.ref f14) = true)
    (z0 : PySem.W.nsIn K mainGlobals "str" = some none)
    (z1 : PySem.W.nsIn K mainGlobals "len" = some none)
    (z2 : PySem.W.nsIn K mainGlobals "max" = some none)
    (z3 : PySem.W.nsIn K mainGlobals "range" = some none)
    (z4 : PySem.W.nsIn K mainGlobals "tuple" = some none)
    (z5 : PySem.W.nsIn K mainGlobals "int" = some none)
    (z6 : PySem.W.nsIn K mainGlobals "min" = some none)
    (z7 : PySem.W.nsIn K mainGlobals "isinstance" = some none)
    {aSIGNS : Addr} {esSIGNS : Array DictEntry} {epSIGNS : Nat} {tSIGNS0 tSIGNS1 tSIGNS2 tSIGNS3 tSIGNS4 tSIGNS5 tSIGNS6 tSIGNS7 tSIGNS8 : Tok} {bSIGNS0 bSIGNS1 bSIGNS2 bSIGNS3 bSIGNS4 bSIGNS5 bSIGNS6 bSIGNS7 bSIGNS8 : Addr}
    (g0 : PySem.W.nsIn K mainGlobals "SIGNS" = some (some (.ref aSIGNS)))
    (dlSIGNS : K.lookup aSIGNS = some ⟨.type "dict", none, .dict esSIGNS epSIGNS, #[]⟩)
    (deSIGNS : esSIGNS = #[⟨hashStr w "_", .str "_" tSIGNS0, .ref bSIGNS0⟩, ⟨hashStr w ".", .str "." tSIGNS1, .ref bSIGNS1⟩, ⟨hashStr w "/", .str "/" tSIGNS2, .ref bSIGNS2⟩, ⟨hashStr w "[", .str "[" tSIGNS3, .ref bSIGNS3⟩, ⟨hashStr w "]", .str "]" tSIGNS4, .ref bSIGNS4⟩, ⟨hashStr w "<", .str "<" tSIGNS5, .ref bSIGNS5⟩, ⟨hashStr w "{", .str "{" tSIGNS6, .ref bSIGNS6⟩, ⟨hashStr w "|", .str "|" tSIGNS7, .ref bSIGNS7⟩, ⟨hashStr w "}", .str "}" tSIGNS8, .ref bSIGNS8⟩])
    (dsSIGNS : (aSIGNS == sysModules) = false)
    {odSIGNS0 : Option Addr} {nSIGNS0 : Nat} {slSIGNS0 : Array (Option Value)} {uSIGNS0_0 uSIGNS0_1 : Tok}
    (dbSIGNS0 : K.lookup bSIGNS0 = some ⟨.type "tuple", odSIGNS0, .seq #[.str "gap" uSIGNS0_0, .str " " uSIGNS0_1] nSIGNS0, slSIGNS0⟩)
    {odSIGNS1 : Option Addr} {nSIGNS1 : Nat} {slSIGNS1 : Array (Option Value)} {uSIGNS1_0 uSIGNS1_1 : Tok}
    (dbSIGNS1 : K.lookup bSIGNS1 = some ⟨.type "tuple", odSIGNS1, .seq #[.str "gap" uSIGNS1_0, .str "" uSIGNS1_1] nSIGNS1, slSIGNS1⟩)
    {odSIGNS2 : Option Addr} {nSIGNS2 : Nat} {slSIGNS2 : Array (Option Value)} {uSIGNS2_0 : Tok}
    (dbSIGNS2 : K.lookup bSIGNS2 = some ⟨.type "tuple", odSIGNS2, .seq #[.str "end" uSIGNS2_0] nSIGNS2, slSIGNS2⟩)
    {odSIGNS3 : Option Addr} {nSIGNS3 : Nat} {slSIGNS3 : Array (Option Value)} {uSIGNS3_0 : Tok}
    (dbSIGNS3 : K.lookup bSIGNS3 = some ⟨.type "tuple", odSIGNS3, .seq #[.str "open" uSIGNS3_0] nSIGNS3, slSIGNS3⟩)
    {odSIGNS4 : Option Addr} {nSIGNS4 : Nat} {slSIGNS4 : Array (Option Value)} {uSIGNS4_0 : Tok}
    (dbSIGNS4 : K.lookup bSIGNS4 = some ⟨.type "tuple", odSIGNS4, .seq #[.str "close" uSIGNS4_0] nSIGNS4, slSIGNS4⟩)
    {odSIGNS5 : Option Addr} {nSIGNS5 : Nat} {slSIGNS5 : Array (Option Value)} {uSIGNS5_0 : Tok}
    (dbSIGNS5 : K.lookup bSIGNS5 = some ⟨.type "tuple", odSIGNS5, .seq #[.str "back" uSIGNS5_0] nSIGNS5, slSIGNS5⟩)
    {odSIGNS6 : Option Addr} {nSIGNS6 : Nat} {slSIGNS6 : Array (Option Value)} {uSIGNS6_0 : Tok}
    (dbSIGNS6 : K.lookup bSIGNS6 = some ⟨.type "tuple", odSIGNS6, .seq #[.str "either" uSIGNS6_0] nSIGNS6, slSIGNS6⟩)
    {odSIGNS7 : Option Addr} {nSIGNS7 : Nat} {slSIGNS7 : Array (Option Value)} {uSIGNS7_0 : Tok}
    (dbSIGNS7 : K.lookup bSIGNS7 = some ⟨.type "tuple", odSIGNS7, .seq #[.str "or" uSIGNS7_0] nSIGNS7, slSIGNS7⟩)
    {odSIGNS8 : Option Addr} {nSIGNS8 : Nat} {slSIGNS8 : Array (Option Value)} {uSIGNS8_0 : Tok}
    (dbSIGNS8 : K.lookup bSIGNS8 = some ⟨.type "tuple", odSIGNS8, .seq #[.str "done" uSIGNS8_0] nSIGNS8, slSIGNS8⟩)
    (g1 : PySem.W.nsIn K mainGlobals "WORD_SIGN" = some (some v1))
    (gi1 : ∃ t, v1 = .str "'" t)
    (g2 : PySem.W.nsIn K mainGlobals "STOP_SIGN" = some (some v2))
    (gi2 : ∃ t, v2 = .str "\x40" t)
    (g3 : PySem.W.nsIn K mainGlobals "HANG_SIGN" = some (some v3))
    (gi3 : ∃ t, v3 = .str ">" t)
    : ∃ fd : FuncData, (∀ (s : Shared) (v : Value), BindsTo s fd ⟨[v], []⟩ [("_law_script", v)]) ∧ ∀ base : Heap, K.In base → base.Ns mainGlobals mg → FnOk l.prog w K mg base CX0 52 fa fd ["_law_script"] (spLaw K) := by
  have e := hfa.symm.trans (PySem.W.mg_of X G a14)
  cases e
  have D_p_tokens := dn_mk (st := st_p_tokens) (ps := ["row"]) X G a0 l0 c0 k0 fun _ _ _ _ _ _ us hl => match us, hl with | [_], _ => rfl
  have D_p_tokens_of_piece := dn_mk (st := st_p_tokens_of_piece) (ps := ["piece"]) X G a1 l1 c1 k1 fun _ _ _ _ _ _ us hl => match us, hl with | [_], _ => rfl
  have D_p_tokens_of_either := dn_mk (st := st_p_tokens_of_either) (ps := ["rows"]) X G a2 l2 c2 k2 fun _ _ _ _ _ _ us hl => match us, hl with | [_], _ => rfl
  have D_p_sign_of := dn_mk (st := st_p_sign_of) (ps := ["token"]) X G a3 l3 c3 k3 fun _ _ _ _ _ _ us hl => match us, hl with | [_], _ => rfl
  have D_p_written_token := dn_mk (st := st_p_written_token) (ps := ["token"]) X G a4 l4 c4 k4 fun _ _ _ _ _ _ us hl => match us, hl with | [_], _ => rfl
  have D_p_written := dn_mk (st := st_p_written) (ps := ["row"]) X G a5 l5 c5 k5 fun _ _ _ _ _ _ us hl => match us, hl with | [_], _ => rfl
  have D_l_cell_at := dn_mk (st := st_l_cell_at) (ps := ["_law_script", "_law_k"]) X G a6 l6 c6 k6 fun _ _ _ _ _ _ us hl => match us, hl with | [_, _], _ => rfl
  have D_l_mixed := dn_mk (st := st_l_mixed) (ps := ["_law_script", "_law_k", "_law_salt"]) X G a7 l7 c7 k7 fun _ _ _ _ _ _ us hl => match us, hl with | [_, _, _], _ => rfl
  have D_l_word := dn_mk (st := st_l_word) (ps := ["_law_number"]) X G a8 l8 c8 k8 fun _ _ _ _ _ _ us hl => match us, hl with | [_], _ => rfl
  have D_l_leaf := dn_mk (st := st_l_leaf) (ps := ["_law_number"]) X G a9 l9 c9 k9 fun _ _ _ _ _ _ us hl => match us, hl with | [_], _ => rfl
  have D_l_shut := dn_mk (st := st_l_shut) (ps := ["_law_frames"]) X G a10 l10 c10 k10 fun _ _ _ _ _ _ us hl => match us, hl with | [_], _ => rfl
  have D_l_row := dn_mk (st := st_l_row) (ps := ["_law_script", "_law_at", "_law_many", "_law_nest"]) X G a11 l11 c11 k11 fun _ _ _ _ _ _ us hl => match us, hl with | [_, _, _, _], _ => rfl
  have D_l_listed := dn_mk (st := st_l_listed) (ps := ["_law_row_here"]) X G a12 l12 c12 k12 fun _ _ _ _ _ _ us hl => match us, hl with | [_], _ => rfl
  have D_l_some := dn_mk (st := st_l_some) (ps := ["_law_script"]) X G a13 l13 c13 k13 fun _ _ _ _ _ _ us hl => match us, hl with | [_], _ => rfl
  have D_law := dn_mk (st := st_law) (ps := ["_law_script"]) X G a14 l14 c14 k14 fun _ _ _ _ _ _ us hl => match us, hl with | [_], _ => rfl
  have z_str := PySem.W.mg_none_of X G z0
  have z_len := PySem.W.mg_none_of X G z1
  have z_max := PySem.W.mg_none_of X G z2
  have z_range := PySem.W.mg_none_of X G z3
  have z_tuple := PySem.W.mg_none_of X G z4
  have z_int := PySem.W.mg_none_of X G z5
  have z_min := PySem.W.mg_none_of X G z6
  have z_isinstance := PySem.W.mg_none_of X G z7
  have g_SIGNS := PySem.W.mg_of X G g0
  have k_SIGNS : KTab l.prog w K (fun _ => mainGlobals) aSIGNS ks_SIGNS ds_SIGNS := ⟨[(.inr "_", .ref bSIGNS0), (.inr ".", .ref bSIGNS1), (.inr "/", .ref bSIGNS2), (.inr "[", .ref bSIGNS3), (.inr "]", .ref bSIGNS4), (.inr "<", .ref bSIGNS5), (.inr "{", .ref bSIGNS6), (.inr "|", .ref bSIGNS7), (.inr "}", .ref bSIGNS8)], ⟨dsSIGNS, _, esSIGNS, epSIGNS, [(.inr "_", .ref bSIGNS0), (.inr ".", .ref bSIGNS1), (.inr "/", .ref bSIGNS2), (.inr "[", .ref bSIGNS3), (.inr "]", .ref bSIGNS4), (.inr "<", .ref bSIGNS5), (.inr "{", .ref bSIGNS6), (.inr "|", .ref bSIGNS7), (.inr "}", .ref bSIGNS8)], dlSIGNS, ⟨rfl, rfl, rfl⟩, rfl, (.cons ⟨rfl, rfl⟩ (.cons ⟨rfl, rfl⟩ (.cons ⟨rfl, rfl⟩ (.cons ⟨rfl, rfl⟩ (.cons ⟨rfl, rfl⟩ (.cons ⟨rfl, rfl⟩ (.cons ⟨rfl, rfl⟩ (.cons ⟨rfl, rfl⟩ (.cons ⟨rfl, rfl⟩ .nil))))))))), (by subst deSIGNS; intro e he; simp only [List.mem_toArray, List.mem_cons, List.not_mem_nil, or_false] at he; rcases he with rfl | rfl | rfl | rfl | rfl | rfl | rfl | rfl | rfl <;> exact ⟨_, mixKind_str _ _ _ _, rfl⟩), (by subst deSIGNS; exact (.cons (mixKind_str _ _ _ _) rfl (.cons (mixKind_str _ _ _ _) rfl (.cons (mixKind_str _ _ _ _) rfl (.cons (mixKind_str _ _ _ _) rfl (.cons (mixKind_str _ _ _ _) rfl (.cons (mixKind_str _ _ _ _) rfl (.cons (mixKind_str _ _ _ _) rfl (.cons (mixKind_str _ _ _ _) rfl (.cons (mixKind_str _ _ _ _) rfl .nil)))))))))), (show (ks_SIGNS : List Key).Nodup by decide +kernel)⟩, rfl, fun _ => (.cons (f := []) (g := []) (krep_tup (ys := [("gap", uSIGNS0_0), (" ", uSIGNS0_1)]) dbSIGNS0 (Nat.le_of_ble_eq_true rfl) _) (.cons (f := []) (g := []) (krep_tup (ys := [("gap", uSIGNS1_0), ("", uSIGNS1_1)]) dbSIGNS1 (Nat.le_of_ble_eq_true rfl) _) (.cons (f := []) (g := []) (krep_tup (ys := [("end", uSIGNS2_0)]) dbSIGNS2 (Nat.le_of_ble_eq_true rfl) _) (.cons (f := []) (g := []) (krep_tup (ys := [("open", uSIGNS3_0)]) dbSIGNS3 (Nat.le_of_ble_eq_true rfl) _) (.cons (f := []) (g := []) (krep_tup (ys := [("close", uSIGNS4_0)]) dbSIGNS4 (Nat.le_of_ble_eq_true rfl) _) (.cons (f := []) (g := []) (krep_tup (ys := [("back", uSIGNS5_0)]) dbSIGNS5 (Nat.le_of_ble_eq_true rfl) _) (.cons (f := []) (g := []) (krep_tup (ys := [("either", uSIGNS6_0)]) dbSIGNS6 (Nat.le_of_ble_eq_true rfl) _) (.cons (f := []) (g := []) (krep_tup (ys := [("or", uSIGNS7_0)]) dbSIGNS7 (Nat.le_of_ble_eq_true rfl) _) (.cons (f := []) (g := []) (krep_tup (ys := [("done", uSIGNS8_0)]) dbSIGNS8 (Nat.le_of_ble_eq_true rfl) _) .nil)))))))))⟩
  have g_WORD_SIGN := PySem.W.mg_of X G g1
  obtain ⟨t1, ei1⟩ := gi1
  subst ei1
  have g_STOP_SIGN := PySem.W.mg_of X G g2
  obtain ⟨t2, ei2⟩ := gi2
  subst ei2
  have g_HANG_SIGN := PySem.W.mg_of X G g3
  obtain ⟨t3, ei3⟩ := gi3
  subst ei3
  refine ⟨PySem.W.fnOf "law" "law" (defArgs st_law) (defBody st_law) (defScope st_law) .none kV14 dc14 pm14 an14 cd14 ct14, fun s v => .of_eq rfl, fun base _ _ => ?_⟩
  have H1 := ok_l_cell_at (P := l.prog) (w := w) (base := base) (n := 0) D_l_cell_at z_len
  have H2 := ok_l_mixed (n := 1) D_l_mixed D_l_cell_at H1 z_len z_max
  have G_l_mixed := mixP (κ := fun _ => mainGlobals) H2
  have T : ∀ n, FnOk l.prog w K mg base CX0 n _ _ ["row"] (SpP 1 K (fun _ => mainGlobals) (gTok n).1) ∧ FnOk l.prog w K mg base CX0 n _ _ ["piece"] (SpP 1 K (fun _ => mainGlobals) (gTok n).2.1) ∧ FnOk l.prog w K mg base CX0 n _ _ ["rows"] (SpP 1 K (fun _ => mainGlobals) (gTok n).2.2) := fun n => by
    induction n with
    | zero => exact ⟨FnOk.noneP (ps := ["row"]), FnOk.noneP (ps := ["piece"]), FnOk.noneP (ps := ["rows"])⟩
    | succ n ih => exact ⟨ok_p_tokens D_p_tokens D_p_tokens_of_piece ih.2.1, ok_p_tokens_of_piece D_p_tokens_of_piece D_p_tokens ih.1 D_p_tokens_of_either ih.2.2, ok_p_tokens_of_either D_p_tokens_of_either D_p_tokens ih.1⟩
  have G_p_sign_of := ok_p_sign_of (P := l.prog) (w := w) (base := base) (κ := fun _ => mainGlobals) (n := 0) D_p_sign_of g_SIGNS k_SIGNS
  have G_p_written_token := ok_p_written_token (n := 1) D_p_written_token D_p_sign_of G_p_sign_of z_str g_WORD_SIGN g_STOP_SIGN g_HANG_SIGN
  have G_p_written := ok_p_written (n := 50) D_p_written D_p_written_token (G_p_written_token.mono (by decide)) D_p_tokens (T 50).1
  have G_l_word := ok_l_word (P := l.prog) (w := w) (base := base) (κ := fun _ => mainGlobals) (n := 0) D_l_word z_range
  have G_l_leaf := ok_l_leaf (n := 1) D_l_leaf D_l_word G_l_word
  have G_l_shut := ok_l_shut (P := l.prog) (w := w) (base := base) (κ := fun _ => mainGlobals) (n := 0) D_l_shut z_tuple z_len
  have G_l_row := ok_l_row (n := 2) D_l_row D_l_mixed G_l_mixed D_l_shut (G_l_shut.mono (by decide)) D_l_leaf G_l_leaf z_range z_tuple z_len
  have G_l_some := ok_l_some (n := 3) D_l_some D_l_mixed (G_l_mixed.mono (by decide)) D_l_leaf (G_l_leaf.mono (by decide)) D_l_row G_l_row z_tuple z_min z_range z_len
  have L : ∀ n, FnOk l.prog w K mg base CX0 n _ _ ["_law_row_here"] (SpP 1 K (fun _ => mainGlobals) (gList n)) := fun n => by
    induction n with
    | zero => exact FnOk.noneP (ps := ["_law_row_here"])
    | succ n ih => exact ok_l_listed D_l_listed ih z_range z_len z_int z_str
  have G := ok_law (n := 51) D_law D_l_some (G_l_some.mono (by decide)) D_p_written G_p_written D_l_listed ((L 50).mono (by decide)) z_isinstance z_str
  exact lawP G fun ns hl => law15_true (by rw [List.length_map]; exact hl) (gMix_int hl)
end My
open PySem PySem.W PyProof.Rows
set_option maxRecDepth 100000 in
set_option maxHeartbeats 0 in
theorem PySem.Challenge.cw_linepress_k15_written_holds : PySem.Challenge.rw_linepress_k15_written.Holds := by
  w_on; o_law; k_head; (case hw => w_witness2)
  k_fill
  refine My.walk (lev := 52) (l := PySem.Challenge.rw_linepress_k15_written) rfl rfl ⟨rfl, by decide, by decide⟩ (fun w h Y => PySem.W.kIn_of Y) ?F
  case F =>
    intro w mg fa h KX G hmg
    refine' My.all_mk KX G hmg ?my_a0 ?my_l0 ?my_c0 ?my_k0 ?my_a1 ?my_l1 ?my_c1 ?my_k1 ?my_a2 ?my_l2 ?my_c2 ?my_k2 ?my_a3 ?my_l3 ?my_c3 ?my_k3 ?my_a4 ?my_l4 ?my_c4 ?my_k4 ?my_a5 ?my_l5 ?my_c5 ?my_k5 ?my_a6 ?my_l6 ?my_c6 ?my_k6 ?my_a7 ?my_l7 ?my_c7 ?my_k7 ?my_a8 ?my_l8 ?my_c8 ?my_k8 ?my_a9 ?my_l9 ?my_c9 ?my_k9 ?my_a10 ?my_l10 ?my_c10 ?my_k10 ?my_a11 ?my_l11 ?my_c11 ?my_k11 ?my_a12 ?my_l12 ?my_c12 ?my_k12 ?my_a13 ?my_l13 ?my_c13 ?my_k13 ?my_a14 ?my_l14 ?my_c14 ?my_k14 ?my_z0 ?my_z1 ?my_z2 ?my_z3 ?my_z4 ?my_z5 ?my_z6 ?my_z7 ?my_g0 ?my_dlSIGNS ?my_deSIGNS ?my_dsSIGNS ?my_dbSIGNS0 ?my_dbSIGNS1 ?my_dbSIGNS2 ?my_dbSIGNS3 ?my_dbSIGNS4 ?my_dbSIGNS5 ?my_dbSIGNS6 ?my_dbSIGNS7 ?my_dbSIGNS8 ?my_g1 ?my_gi1 ?my_g2 ?my_gi2 ?my_g3 ?my_gi3
    (case my_a0 => k_is)
    (case my_l0 => k_is)
    (case my_c0 => k_is)
    (case my_k0 => k_is)
    (case my_a1 => k_is)
    (case my_l1 => k_is)
    (case my_c1 => k_is)
    (case my_k1 => k_is)
    (case my_a2 => k_is)
    (case my_l2 => k_is)
    (case my_c2 => k_is)
    (case my_k2 => k_is)
    (case my_a3 => k_is)
    (case my_l3 => k_is)
    (case my_c3 => k_is)
    (case my_k3 => k_is)
    (case my_a4 => k_is)
    (case my_l4 => k_is)
    (case my_c4 => k_is)
    (case my_k4 => k_is)
    (case my_a5 => k_is)
    (case my_l5 => k_is)
    (case my_c5 => k_is)
    (case my_k5 => k_is)
    (case my_a6 => k_is)
    (case my_l6 => k_is)
    (case my_c6 => k_is)
    (case my_k6 => k_is)
    (case my_a7 => k_is)
    (case my_l7 => k_is)
    (case my_c7 => k_is)
    (case my_k7 => k_is)
    (case my_a8 => k_is)
    (case my_l8 => k_is)
    (case my_c8 => k_is)
    (case my_k8 => k_is)
    (case my_a9 => k_is)
    (case my_l9 => k_is)
    (case my_c9 => k_is)
    (case my_k9 => k_is)
    (case my_a10 => k_is)
    (case my_l10 => k_is)
    (case my_c10 => k_is)
    (case my_k10 => k_is)
    (case my_a11 => k_is)
    (case my_l11 => k_is)
    (case my_c11 => k_is)
    (case my_k11 => k_is)
    (case my_a12 => k_is)
    (case my_l12 => k_is)
    (case my_c12 => k_is)
    (case my_k12 => k_is)
    (case my_a13 => k_is)
    (case my_l13 => k_is)
    (case my_c13 => k_is)
    (case my_k13 => k_is)
    (case my_a14 => k_is)
    (case my_l14 => k_is)
    (case my_c14 => k_is)
    (case my_k14 => k_is)
    (case my_z0 => k_is)
    (case my_z1 => k_is)
    (case my_z2 => k_is)
    (case my_z3 => k_is)
    (case my_z4 => k_is)
    (case my_z5 => k_is)
    (case my_z6 => k_is)
    (case my_z7 => k_is)
    (case my_g0 => k_is)
    (case my_dlSIGNS => k_is)
    (case my_deSIGNS => rfl)
    (case my_dsSIGNS => rfl)
    (case my_dbSIGNS0 => k_is)
    (case my_dbSIGNS1 => k_is)
    (case my_dbSIGNS2 => k_is)
    (case my_dbSIGNS3 => k_is)
    (case my_dbSIGNS4 => k_is)
    (case my_dbSIGNS5 => k_is)
    (case my_dbSIGNS6 => k_is)
    (case my_dbSIGNS7 => k_is)
    (case my_dbSIGNS8 => k_is)
    (case my_g1 => k_is)
    (case my_gi1 => exact ⟨_, rfl⟩)
    (case my_g2 => k_is)
    (case my_gi2 => exact ⟨_, rfl⟩)
    (case my_g3 => k_is)
    (case my_gi3 => exact ⟨_, rfl⟩)
#print axioms PySem.Challenge.cw_linepress_k15_written_holds

