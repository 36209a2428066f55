import PyProof.Rows.All
import Wide.All
import OpenK.AllK
import Wide.FinOn
import Lean
import PyProof.EqAt
import PyProof.EqKinds
import PyProof.TupleCall
import PyProof.MinMaxWalk
import PySem.Challenge.RW_wantprices_k44_meetings_of_any_kind
section
set_option Elab.async false
set_option linter.all false
set_option maxRecDepth 100000
namespace L2
open PySem PySem.Spec PyProof.Rows
abbrev Key := Sum Int Str
def keyIs : Key → Value → Bool
  | .inl k, v => Value.isInt k v
  | .inr x, v => Value.isStrOf x v
def keyH (w : World) : Key → Int
  | .inl k => hashInt k
  | .inr x => hashStr w x
theorem keyIs_shape : ∀ {k : Key} {v : Value}, keyIs k v = true → (∃ i t, k = Sum.inl i ∧ v = Value.int i t) ∨ (∃ x t, k = Sum.inr x ∧ v = Value.str x t)
  | .inl i, v, h => by
    obtain ⟨t, e⟩ := Value.isInt_shape (k := i) (v := v) h
    exact .inl ⟨i, t, rfl, e⟩
  | .inr x, v, h => by
    obtain ⟨t, e⟩ := Value.isStrOf_shape (x := x) (v := v) h
    exact .inr ⟨x, t, rfl, e⟩
theorem keyIs_int (i : Int) (t : Tok) : keyIs (.inl i) (.int i t) = true := by simp [keyIs, Value.isInt]
theorem keyIs_str (x : Str) (t : Tok) : keyIs (.inr x) (.str x t) = true := by simp [keyIs, Value.isStrOf]
theorem key_ll (a b : Int) : decide ((Sum.inl a : Key) = Sum.inl b) = (a == b) := by
  by_cases e : a = b
  · subst e; simp
  · have h : ¬ (Sum.inl a : Key) = Sum.inl b := fun q => e (Sum.inl.inj q)
    rw [decide_eq_false h]
    exact (beq_eq_false_iff_ne.mpr e).symm
theorem key_rr (a b : Str) : decide ((Sum.inr a : Key) = Sum.inr b) = decide (a = b) := by
  by_cases e : a = b
  · subst e; simp
  · have h : ¬ (Sum.inr a : Key) = Sum.inr b := fun q => e (Sum.inr.inj q)
    rw [decide_eq_false h, decide_eq_false e]
theorem key_lr (a : Int) (b : Str) : decide ((Sum.inl a : Key) = Sum.inr b) = false := decide_eq_false (fun q => nomatch q)
theorem key_rl (a : Str) (b : Int) : decide ((Sum.inr a : Key) = Sum.inl b) = false := decide_eq_false (fun q => nomatch q)
def mixKind (prog : Program) (w : World) : PySem.KeyKind prog w Key where
  is := keyIs
  hash := keyH w
  inj := fun v a b ha hb => by
    rcases keyIs_shape ha with ⟨i, t, rfl, rfl⟩ | ⟨x, t, rfl, rfl⟩
    · rcases keyIs_shape hb with ⟨j, u, rfl, e⟩ | ⟨y, u, rfl, e⟩
      · injection e with e1 _; rw [e1]
      · exact nomatch e
    · rcases keyIs_shape hb with ⟨j, u, rfl, e⟩ | ⟨y, u, rfl, e⟩
      · exact nomatch e
      · injection e with e1 _; rw [e1]
  byValue := fun k v h => by
    rcases keyIs_shape h with ⟨i, t, rfl, rfl⟩ | ⟨x, t, rfl, rfl⟩ <;> rfl
  pyHash := fun hv h => by
    rcases keyIs_shape hv with ⟨i, t, rfl, rfl⟩ | ⟨x, t, rfl, rfl⟩
    · exact wpAny_pyHash_int h
    · exact wpAny_pyHash_str h
  eqBool := fun hu hv h => by
    rcases keyIs_shape hu with ⟨i, t, rfl, rfl⟩ | ⟨x, t, rfl, rfl⟩
    · rcases keyIs_shape hv with ⟨j, u, rfl, rfl⟩ | ⟨y, u, rfl, rfl⟩
      · rw [key_ll] at h; exact wpAny_eqBool_int h
      · rw [key_lr] at h; exact SeqAt.EqAt.int_str i t y u _ _ _ _ h
    · rcases keyIs_shape hv with ⟨j, u, rfl, rfl⟩ | ⟨y, u, rfl, rfl⟩
      · rw [key_rl] at h; exact SeqAt.EqAt.str_int x t j u _ _ _ _ h
      · rw [key_rr] at h; exact wpAny_eqBool_str h
  «strs» := fun k x t v h => by
    rcases keyIs_shape h with ⟨i, u, rfl, e⟩ | ⟨y, u, rfl, e⟩
    · exact nomatch e
    · injection e with e1 _
      subst e1
      cases v <;> rfl
theorem mixKind_int (prog : Program) (w : World) (i : Int) (t : Tok) : (mixKind prog w).is (.inl i) (.int i t) = true := keyIs_int i t
theorem mixKind_str (prog : Program) (w : World) (x : Str) (t : Tok) : (mixKind prog w).is (.inr x) (.str x t) = true := keyIs_str x t
end L2
namespace L2
open PySem PySem.Spec PyProof.Rows
inductive V where
  | non | bl (b : Bool) | int (i : Int) | str (x : Str) | byt (b : Array UInt8) | flt (b : UInt64) | ref (a : Addr) | ty (n : String)
  deriving DecidableEq
def RelV : V → Value → Prop
  | .non, u => u = Value.none
  | .bl b, u => u = Value.bool b
  | .int i, u => ∃ t, u = Value.int i t
  | .str x, u => ∃ t, u = Value.str x t
  | .byt b, u => ∃ t, u = Value.bytes b t
  | .flt b, u => ∃ t, u = Value.float b t
  | .ref a, u => u = Value.ref a
  | .ty n, u => u = Value.type n
abbrev Vals : List V → List Value → Prop := Paired RelV
theorem Vals.length {xs : List V} {us : List Value} (r : Vals xs us) : xs.length = us.length := Paired.length r
theorem Vals.get : ∀ {xs : List V} {us : List Value} {i : Nat} {x : V}, Vals xs us → xs[i]? = some x → ∃ u, us[i]? = some u ∧ RelV x u
  | _, _, _, _, .nil, e => by simp at e
  | _, _, 0, _, .cons r _, e => by simp at e; subst e; exact ⟨_, rfl, r⟩
  | _, _, i + 1, x, .cons _ t, e => by
    obtain ⟨u, h1, h2⟩ := Vals.get (i := i) (x := x) t (by simpa using e)
    exact ⟨u, by simpa using h1, h2⟩
theorem Vals.set {x : V} {u : Value} (r : RelV x u) : ∀ {xs : List V} {us : List Value} (i : Nat), Vals xs us → Vals (xs.set i x) (us.set i u)
  | _, _, _, .nil => .nil
  | _, _, 0, .cons _ t => .cons r t
  | _, _, i + 1, .cons q t => .cons q (Vals.set r i t)
theorem Vals.append : ∀ {xs ys : List V} {us ws : List Value}, Vals xs us → Vals ys ws → Vals (xs ++ ys) (us ++ ws)
  | _, _, _, _, .nil, s => s
  | _, _, _, _, .cons r t, s => .cons r (Vals.append t s)
theorem Vals.take : ∀ {xs : List V} {us : List Value} (n : Nat), Vals xs us → Vals (xs.take n) (us.take n)
  | _, _, 0, _ => .nil
  | _, _, _ + 1, .nil => .nil
  | _, _, n + 1, .cons r t => .cons r (Vals.take n t)
theorem Vals.drop : ∀ {xs : List V} {us : List Value} (n : Nat), Vals xs us → Vals (xs.drop n) (us.drop n)
  | _, _, 0, r => r
  | _, _, _ + 1, .nil => .nil
  | _, _, n + 1, .cons _ t => Vals.drop n t
def RelO : Option V → Option Value → Prop
  | some v, some u => RelV v u
  | none, none => True
  | _, _ => False
def KV {κ : Type} : List (κ × V) → List (κ × Value) → Prop := Paired fun (p : κ × V) (q : κ × Value) => p.1 = q.1 ∧ RelV p.2 q.2
def kV : Key → V
  | .inl i => .int i
  | .inr x => .str x
inductive HO where
  | lst (xs : List V)
  | tup (xs : List V)
  | dK (kvs : List (Key × V)) | dT (kvs : List (List Key × V))
  | set (S : Int → Bool) (n : Nat)
  | ins (C dx : Addr) (fs : List (Str × V))
  | own (x : Addr)
  | xd (fs : List (Str × V))
  | met (f x : Addr)
  | rng (lo hi : Int)
  | frz (o : Obj) (u : HO)
  | tbl (ps : Array Value)
  | ext (φ : Heap → Prop)
abbrev Hp := Addr → Option HO
def upd (H : Hp) (a : Addr) (o : HO) : Hp := fun b => if b = a then some o else H b
theorem upd_same {H : Hp} {a : Addr} {o : HO} : upd H a o a = some o := by unfold upd; rw [if_pos rfl]
theorem upd_ne {H : Hp} {a b : Addr} {o : HO} (h : b ≠ a) : upd H a o b = H b := by unfold upd; rw [if_neg h]
theorem upd_upd {H : Hp} {a : Addr} {o u : HO} : upd (upd H a o) a u = upd H a u := by
  funext b; unfold upd; split <;> rfl
theorem ne_of {H : Hp} {a b : Addr} {o u : HO} (h : H a = some o) (h' : H b = some u) (d : o ≠ u) : a ≠ b := by
  intro e; subst e; rw [h] at h'; exact d (Option.some.inj h')
theorem ne_of_none {H : Hp} {a b : Addr} {o : HO} (h : H a = some o) (h' : H b = none) : a ≠ b := by
  intro e; subst e; rw [h] at h'; cases h'
section
variable (P : Program) (w : World)
def ObjOk (H : Hp) (h : Heap) (a : Addr) : HO → Prop
  | .lst xs => xs.length ≤ sizeLine ∧ ∃ (its : List Value) (n : Nat), Vals xs its ∧ h.get? a = some { cls := .type "list", data := .seq its.toArray n }
  | .tup xs => xs.length ≤ sizeLine ∧ ∃ its : List Value, Vals xs its ∧ IsTup h a its.toArray
  | .dK kvs => kvs.length ≤ sizeLine ∧ (a == sysModules) = false ∧ ∃ vs, KV kvs vs ∧ h.DictOf (mixKind P w) a vs
  | .dT kvs => kvs.length ≤ sizeLine ∧ (a == sysModules) = false ∧ ∃ xs : List (List Key × Addr × Value),
      Paired (fun (p : List Key × V) (q : List Key × Addr × Value) => p.1 = q.1 ∧ H q.2.1 = some (.tup (p.1.map kV)) ∧ RelV p.2 q.2.2) kvs xs ∧
      ∃ o es ep, h.get? a = some o ∧ o.ExactDict ∧ o.data = .dict es ep ∧ es.toList = xs.map (entryOfKey (tupleKind (mixKind P w))) ∧ (xs.map (·.1)).Nodup
  | .set S n => h.SetOf (intKind P w) a S n
  | .ins C dx fs => H dx = some (.own a) ∧ fs.length ≤ 1000 ∧ dx ≠ a ∧ h.get? a = some (PySem.W.instObj C dx) ∧
      ∃ mA, h.Ns1 dx mA ∧ (∀ f, RelO (fs.lookup f) (mA f)) ∧ PySem.Within mA (fs.map (·.1))
  | .own _ => ∃ o, h.get? a = some o
  | .xd fs => ∃ mA, h.Ns1 a mA ∧ ∀ f, RelO (fs.lookup f) (mA f)
  | .rng lo hi => ∃ t u v, h.get? a = some { cls := .type "range", data := .fields #[.int lo t, .int hi u, .int 1 v] }
  | .frz o u => h.get? a = some o ∧ ObjOk H h a u
  | .tbl ps => h.get? a = some { cls := .none, data := .fields ps }
  | .met f x => h.get? a = some (PySem.W.methodObj (.ref f) (.ref x))
  | .ext φ => φ h ∧ (∃ o, h.get? a = some o) ∧ ∀ h1 h2 : Heap, φ h1 → (∀ o, h1.get? a = some o → h2.get? a = some o) → φ h2
def HOk (H : Hp) (h : Heap) : Prop := ∀ a o, H a = some o → ObjOk P w H h a o
end
section
variable {P : Program} {w : World} {H H' : Hp} {h h' : Heap} {a : Addr} {o : HO}
theorem ObjOk.lt (x : ObjOk P w H h a o) : a < h.objs.size := by
  cases o with
  | lst xs => obtain ⟨_, _, _, _, e⟩ := x; exact Heap.lt_size e
  | tup xs => obtain ⟨_, _, _, p⟩ := x; exact p.lt
  | dK kvs => obtain ⟨_, _, _, _, o, _, _, e, _⟩ := x; exact Heap.lt_size e
  | dT kvs => obtain ⟨_, _, _, _, o, _, _, e, _⟩ := x; exact Heap.lt_size e
  | set S n => obtain ⟨o, _, _, _, e, _⟩ := x; exact Heap.lt_size e
  | ins C dx fs => obtain ⟨_, _, _, e, _⟩ := x; exact Heap.lt_size e
  | own y => obtain ⟨_, e⟩ := x; exact Heap.lt_size e
  | xd fs => obtain ⟨_, ⟨_, _, _, e, _⟩, _⟩ := x; exact Heap.lt_size e
  | rng lo hi => obtain ⟨_, _, _, e⟩ := x; exact Heap.lt_size e
  | frz ob u => obtain ⟨e, _⟩ := x; exact Heap.lt_size e
  | tbl ps => exact Heap.lt_size (show h.get? a = some _ from x)
  | met f y => exact Heap.lt_size (show h.get? a = some _ from x)
  | ext φ => obtain ⟨_, ⟨_, e⟩, _⟩ := x; exact Heap.lt_size e
theorem Paired.mapP {α β : Type} {F G : α → β → Prop} : ∀ {l₁ : List α} {l₂ : List β}, Paired F l₁ l₂ → (∀ a b, F a b → G a b) → Paired G l₁ l₂
  | _, _, .nil, _ => .nil
  | _, _, .cons r t, f => .cons (f _ _ r) (Paired.mapP t f)
theorem ObjOk.stay (x : ObjOk P w H h a o) (k : ∀ b u, (b = a ∨ H b = some (.own a)) → h.get? b = some u → h'.get? b = some u)
    (ho : ∀ b, H b = some (.own a) → H' b = some (.own a)) (ht : ∀ b xs, H b = some (.tup xs) → H' b = some (.tup xs)) : ObjOk P w H' h' a o := by
  induction o with
  | lst xs => obtain ⟨z, its, n, r, e⟩ := x; exact ⟨z, its, n, r, k _ _ (.inl rfl) e⟩
  | tup xs => obtain ⟨z, its, r, ob, e, c⟩ := x; exact ⟨z, its, r, ob, k _ _ (.inl rfl) e, c⟩
  | dK kvs => obtain ⟨z, y, vs, r, ob, es, ep, e, c⟩ := x; exact ⟨z, y, vs, r, ob, es, ep, k _ _ (.inl rfl) e, c⟩
  | dT kvs =>
    obtain ⟨z, y, xs, r, ob, es, ep, e, c⟩ := x
    exact ⟨z, y, xs, Paired.mapP r fun p q z => ⟨z.1, ht _ _ z.2.1, z.2.2⟩, ob, es, ep, k _ _ (.inl rfl) e, c⟩
  | set S n => obtain ⟨ob, es, ep, t, e, c⟩ := x; exact ⟨ob, es, ep, t, k _ _ (.inl rfl) e, c⟩
  | ins C dx fs =>
    obtain ⟨d, z, ne, e, mA, ⟨od, es, ep, e2, c⟩, r⟩ := x
    exact ⟨ho _ d, z, ne, k _ _ (.inl rfl) e, mA, ⟨od, es, ep, k _ _ (.inr d) e2, c⟩, r⟩
  | own y => obtain ⟨ob, e⟩ := x; exact ⟨ob, k _ _ (.inl rfl) e⟩
  | xd fs => obtain ⟨mA, ⟨od, es, ep, e, c⟩, r⟩ := x; exact ⟨mA, ⟨od, es, ep, k _ _ (.inl rfl) e, c⟩, r⟩
  | rng lo hi => obtain ⟨t, u, v, e⟩ := x; exact ⟨t, u, v, k _ _ (.inl rfl) e⟩
  | frz ob u ih => obtain ⟨e, q⟩ := x; exact ⟨k _ _ (.inl rfl) e, ih q⟩
  | tbl ps =>
    have e : h.get? a = some { cls := .none, data := .fields ps } := x
    show h'.get? a = some { cls := .none, data := .fields ps }
    exact k a _ (.inl rfl) e
  | met f y =>
    have e : h.get? a = some (PySem.W.methodObj (.ref f) (.ref y)) := x
    show h'.get? a = some (PySem.W.methodObj (.ref f) (.ref y))
    exact k a _ (.inl rfl) e
  | ext φ => obtain ⟨p, ⟨o, e⟩, st⟩ := x; exact ⟨st _ _ p fun o q => k _ _ (.inl rfl) q, ⟨o, k _ _ (.inl rfl) e⟩, st⟩
theorem HOk.lt (x : HOk P w H h) (e : H a = some o) : a < h.objs.size := (x a o e).lt
theorem HOk.fresh (x : HOk P w H h) (e : h.objs.size ≤ a) : H a = none := by
  cases q : H a with
  | none => rfl
  | some u => exact absurd (Nat.lt_of_lt_of_le (x.lt q) e) (Nat.lt_irrefl _)
theorem HOk.kept (x : HOk P w H h) (k : ∀ b u, h.get? b = some u → h'.get? b = some u) : HOk P w H h' := fun a o e =>
  (x a o e).stay (fun b u _ q => k b u q) (fun _ q => q) fun _ _ q => q
theorem HOk.laid (x : HOk P w H h) (k : ∀ b u, h.get? b = some u → h'.get? b = some u) (hp : h.objs.size ≤ a) (new : ObjOk P w (upd H a o) h' a o) : HOk P w (upd H a o) h' := fun b u e => by
  have hn := x.fresh hp
  by_cases hb : b = a
  · subst hb; rw [upd_same] at e; cases e; exact new
  · rw [upd_ne hb] at e
    exact (x b u e).stay (fun c v _ q => k c v q) (fun c q => by rw [upd_ne (ne_of_none q hn)]; exact q) fun c xs q => by rw [upd_ne (ne_of_none q hn)]; exact q
end
def Rd (H : Hp) (a : Addr) (u : HO) : Prop := H a = some u ∨ ∃ o, H a = some (.frz o u)
theorem Rd.of {H : Hp} {a : Addr} {u : HO} (h : H a = some u) : Rd H a u := .inl h
theorem Rd.ok {P : Program} {w : World} {H : Hp} {h : Heap} {a : Addr} {u : HO} (r : Rd H a u) (x : HOk P w H h) : ObjOk P w H h a u := by
  rcases r with r | ⟨o, r⟩
  · exact x a u r
  · obtain ⟨_, q⟩ := x a _ r
    exact q
def Mut : Option HO → Prop
  | some (.lst _) => True
  | some (.dK _) => True
  | some (.dT _) => True
  | some (.set _ _) => True
  | some (.ins _ _ _) => True
  | some (.ext _) => True
  | _ => False
section
variable {P : Program} {w : World} {H : Hp} {h h' : Heap} {x e : Addr} {o' : HO}
theorem HOk.write (ok : HOk P w H h) (mu : Mut (H x)) (he : e = x ∨ H e = some (.own x)) (k : ∀ b u, b ≠ e → h.get? b = some u → h'.get? b = some u) (heo : ∃ u, h'.get? e = some u)
    (new : ObjOk P w (upd H x o') h' x o') : HOk P w (upd H x o') h' := fun b u q => by
  have nown : ∀ c y, H c = some (.own y) → c ≠ x := fun c y r z => by subst z; rw [r] at mu; exact mu
  have ntup : ∀ c xs, H c = some (.tup xs) → c ≠ x := fun c xs r z => by subst z; rw [r] at mu; exact mu
  by_cases hb : b = x
  · subst hb; rw [upd_same] at q; cases q; exact new
  · rw [upd_ne hb] at q
    by_cases hbe : b = e
    · have q' : H b = some (.own x) := by
        rcases he with z | z
        · exact absurd (hbe.trans z) hb
        · rw [hbe]; exact z
      rw [q] at q'; cases q'
      obtain ⟨v, hv⟩ := heo
      exact ⟨v, by rw [hbe]; exact hv⟩
    · refine (ok b u q).stay (fun c v hc r => k c v ?_ r) (fun c r => by rw [upd_ne (nown c b r)]; exact r) fun c xs r => by rw [upd_ne (ntup c xs r)]; exact r
      rcases hc with rfl | hc
      · exact hbe
      · rintro rfl
        rcases he with z | z
        · exact nown c b hc z
        · rw [hc] at z; cases z; exact hb rfl
end
structure Un (fs ex : List Addr) (H H' : Hp) (h h' : Heap) : Prop where
  keep : ∀ b o, h.get? b = some o → H b = none → b ∉ fs → b ∉ ex → h'.get? b = some o
  slot : ∀ b o, h.get? b = some o → H b = none → b ∈ fs → b ∉ ex → ∃ sl, h'.get? b = some { o with slots := sl }
  free : ∀ b o, h.get? b = some o → H b = none → b ∉ ex → H' b = none
  there : ∀ b o, h.get? b = some o → b ∉ ex → ∃ o', h'.get? b = some o'
  tups : ∀ b xs, H b = some (.tup xs) → H' b = some (.tup xs)
  frzs : ∀ b o u, H b = some (.frz o u) → H' b = some (.frz o u)
  tbls : ∀ b ps, H b = some (.tbl ps) → ∃ more, H' b = some (.tbl (ps ++ more))
section
variable {fs fs' ex ex' : List Addr} {H H1 H2 : Hp} {h h1 h2 h' : Heap} {a x e : Addr} {o : HO}
theorem Un.any (u : Un fs ex H H1 h h1) {b : Addr} {ob : Obj} (q : h.get? b = some ob) (n : H b = none) (hx : b ∉ ex) : ∃ sl, h1.get? b = some { ob with slots := sl } := by
  by_cases hb : b ∈ fs
  · exact u.slot b ob q n hb hx
  · exact ⟨ob.slots, u.keep b ob q n hb hx⟩
theorem Un.trans (a : Un fs ex H H1 h h1) (b : Un fs ex H1 H2 h1 h2) : Un fs ex H H2 h h2 where
  keep := fun c ob q n hc hx => b.keep c ob (a.keep c ob q n hc hx) (a.free c ob q n hx) hc hx
  slot := fun c ob q n hc hx => by
    obtain ⟨sl, e1⟩ := a.slot c ob q n hc hx
    obtain ⟨sl', e2⟩ := b.slot c _ e1 (a.free c ob q n hx) hc hx
    exact ⟨sl', e2⟩
  free := fun c ob q n hx => by
    obtain ⟨o', e1⟩ := a.there c ob q hx
    exact b.free c o' e1 (a.free c ob q n hx) hx
  there := fun c ob q hx => by
    obtain ⟨o', e1⟩ := a.there c ob q hx
    exact b.there c o' e1 hx
  tups := fun c xs q => b.tups c xs (a.tups c xs q)
  frzs := fun c ob xs q => b.frzs c ob xs (a.frzs c ob xs q)
  tbls := fun c ps q => by
    obtain ⟨m1, e1⟩ := a.tbls c ps q
    obtain ⟨m2, e2⟩ := b.tbls c _ e1
    exact ⟨m1 ++ m2, by rw [e2, Array.append_assoc]⟩
theorem Un.kept (k : ∀ b u, h.get? b = some u → h'.get? b = some u) : Un fs ex H H h h' :=
  ⟨fun b ob q _ _ _ => k b ob q, fun b ob q _ _ _ => ⟨ob.slots, k b ob q⟩, fun _ _ _ n _ => n, fun b ob q _ => ⟨ob, k b ob q⟩, fun _ _ q => q, fun _ _ _ q => q, fun _ ps q => ⟨#[], by rw [q]; simp⟩⟩
theorem Un.refl : Un fs ex H H h h := Un.kept fun _ _ q => q
theorem Un.laid (k : ∀ b u, h.get? b = some u → h'.get? b = some u) (hp : h.objs.size ≤ a) (hn : H a = none) : Un fs ex H (upd H a o) h h' where
  keep := fun b u q _ _ _ => k b u q
  slot := fun b u q _ _ _ => ⟨u.slots, k b u q⟩
  free := fun b u q n _ => by rw [upd_ne (Nat.ne_of_lt (Nat.lt_of_lt_of_le (Heap.lt_size q) hp))]; exact n
  there := fun b u q _ => ⟨u, k b u q⟩
  tups := fun b xs q => by rw [upd_ne (ne_of_none q hn)]; exact q
  frzs := fun b u xs q => by rw [upd_ne (ne_of_none q hn)]; exact q
  tbls := fun b ps q => ⟨#[], by rw [upd_ne (ne_of_none q hn), q]; simp⟩
theorem Un.write (mu : Mut (H x)) (he : e = x ∨ H e = some (.own x)) (k : ∀ b u, b ≠ e → h.get? b = some u → h'.get? b = some u) (heo : ∃ u, h'.get? e = some u) : Un fs ex H (upd H x o) h h' := by
  have hx : ∀ b, H b = none → b ≠ x := fun b n z => by subst z; rw [n] at mu; exact mu
  have hb : ∀ b, H b = none → b ≠ e := fun b n z => by
    subst z
    rcases he with r | r
    · exact hx b n r
    · rw [n] at r; cases r
  have hm : ∀ b u, H b = some u → ¬ Mut (some u) → b ≠ x := fun b u q nm z => by subst z; rw [q] at mu; exact nm mu
  refine ⟨fun b u q n _ _ => k b u (hb b n) q, fun b u q n _ _ => ⟨u.slots, k b u (hb b n) q⟩, fun b u q n _ => by rw [upd_ne (hx b n)]; exact n, fun b u q _ => ?_,
    fun b xs q => by rw [upd_ne (hm b _ q fun z => z)]; exact q, fun b u xs q => by rw [upd_ne (hm b _ q fun z => z)]; exact q, fun b ps q => ⟨#[], by rw [upd_ne (hm b _ q fun z => z), q]; simp⟩⟩
  by_cases hbe : b = e
  · subst hbe; exact heo
  · exact ⟨u, k b u hbe q⟩
theorem Un.mono (u : Un fs ex H H1 h h1) (hs : ∀ b ∈ fs, b ∈ fs') (hx : ∀ b ∈ ex, b ∈ ex') : Un fs' ex' H H1 h h1 :=
  ⟨fun b ob q n hb he => u.keep b ob q n (fun z => hb (hs b z)) fun z => he (hx b z), fun _ _ q n _ he => u.any q n fun z => he (hx _ z), fun b ob q n he => u.free b ob q n fun z => he (hx b z), fun b ob q he => u.there b ob q fun z => he (hx b z), u.tups, u.frzs, u.tbls⟩
end
def trk (h : Heap) (H : Hp) : List Addr := (List.range h.objs.size).filter fun a => (H a).isSome
def hidT (h : Heap) (H : Hp) : Heap := PySem.W.hideAll h (trk h H)
theorem hidT_size (h : Heap) (H : Hp) : (hidT h H).objs.size = h.objs.size := PySem.W.hideAll_size _ _
theorem hidT_get {h : Heap} {H : Hp} {b : Addr} {o : Obj} (e : h.get? b = some o) (n : H b = none) : (hidT h H).get? b = some o :=
  PySem.W.hideAll_get _ e fun hm => by
    have q : (H b).isSome = true := (List.mem_filter.mp hm).2
    rw [n] at q; simp at q
theorem of_hidT {h : Heap} {H : Hp} {b : Addr} {o : Obj} (e : (hidT h H).get? b = some o) : h.get? b = some o ∧ H b = none := by
  have e' : h.get? b = some o := PySem.W.of_hideAll (trk h H) e
  refine ⟨e', ?_⟩
  cases q : H b with
  | none => rfl
  | some x =>
    have hm : b ∈ trk h H := List.mem_filter.mpr ⟨List.mem_range.mpr (Heap.lt_size e'), by simp [q]⟩
    have z : (hidT h H).get? b = none := PySem.W.hideAll_none (trk h H) hm
    rw [z] at e; cases e
def allNews (g h : Heap) (L : Addr) : List (Addr × Obj) := (List.range h.objs.size).filterMap fun a => if a = L ∨ (g.get? a).isSome = true then none else (h.get? a).map fun o => (a, o)
def rest (g h : Heap) (L d : Addr) : List (Addr × Obj) := (allNews g h L).filter fun p => decide (p.1 ≠ d)
end L2
namespace L2
open PySem PySem.Spec PyProof.Rows
structure Mod (K : PySem.W.Frag) (mg : Str → Option Value) (base : Heap) : Prop where
  kin : K.In base
  glob : base.Ns mainGlobals mg
  blt : ∃ mb, base.Ns builtinsNs mb ∧ ∀ x : Str, x ≠ "__name__" → mb x = bootBuiltins x
  nolimit : base.NoLimit
structure Cx where
  prog : Program
  w : World
  K : PySem.W.Frag
  mg : Str → Option Value
  base : Heap
  A : Around
  N : List Str
  s₀ : Shared
  H₀ : Hp
  env : Env
  outer : List Env
  stack : List Env
  ex : List Addr
  fn : Str → Bool
  calm : Bool
  pn : List (Addr × Obj)
  xe : Value → Shared → Prop
def frs (l : List Env) : List Addr := l.filterMap (·.frame)
abbrev Cx.fs (X : Cx) : List Addr := frs X.outer
def Vis (sc : Scope) (x : Str) : Prop := sc.names.lookup x = some .local ∨ sc.names.lookup x = some .cell ∨ sc.names.lookup x = some .free
def Loc (sc : Scope) (x : Str) : Prop := sc.names.lookup x = some .local ∨ sc.names.lookup x = some .cell
def Look (env : Env) (h : Heap) (m : Str → Option Value) (x : Str) (u : Value) : Prop :=
  (env.kindOf x = some .local ∧ m x = some u) ∨ ((env.kindOf x = some .cell ∨ env.kindOf x = some .free) ∧ ∃ c, env.cells.lookup x = some c ∧ h.IsCell c (some u))
structure Cx.Ok (X : Cx) : Prop where
  mod : Mod X.K X.mg X.base
  kind : X.env.scope.kind = .function
  glob : X.env.globals = mainGlobals
  blt : X.env.builtins = builtinsNs
  above : X.s₀.heap.objs.size ≤ X.env.locals
  inj : ∀ x y c, X.env.cells.lookup x = some c → X.env.cells.lookup y = some c → x = y
  has : ∀ x, (X.env.kindOf x = some .cell ∨ X.env.kindOf x = some .free) → ∃ c, X.env.cells.lookup x = some c
  cab : ∀ x c, X.fn x = true → X.env.cells.lookup x = some c → X.s₀.heap.objs.size ≤ c
  hd : X.calm = true → X.A.handled = none
  frames : X.A.frames = some X.stack
  stk : X.stack = X.outer ∨ (X.stack = X.env :: X.outer ∧ X.env.frame = some X.env.locals)
  exf : ∀ b ∈ X.ex, b ≠ X.env.locals ∧ ∀ x c, X.env.cells.lookup x = some c → c ≠ b
  bs : ∀ b o, X.base.get? b = some o → X.s₀.heap.get? b = some o ∧ X.H₀ b = none
  bsz : X.base.objs.size ≤ X.s₀.heap.objs.size
  noex : ∀ b o, X.base.get? b = some o → b ∉ X.ex
  exfs : ∀ b ∈ X.ex, b ∉ X.fs
  funs : X.s₀.heap.FunFrames X.base X.outer
  frf : ∀ b ∈ X.fs, X.H₀ b = none
structure Inv (X : Cx) (pins : List (Addr × Obj)) (σ : List (Option V)) (H : Hp) (s : Shared) : Prop where
  ok : X.Ok
  os : s.os = X.s₀.os
  bare : AllBare s.gens
  base : Un X.fs X.ex X.H₀ H X.s₀.heap s.heap
  loc : ∃ m, s.heap.Ns X.env.locals m ∧ ∀ (i : Nat) (x : Str) (v : V), X.N[i]? = some x → σ[i]? = some (some v) → Vis X.env.scope x → ∃ u, RelV v u ∧ Look X.env s.heap m x u
  cell : ∀ x c, X.env.cells.lookup x = some c → ∃ v, s.heap.IsCell c v
  free : H X.env.locals = none
  freeC : ∀ x c, X.env.cells.lookup x = some c → H c = none
  pin : ∀ p ∈ X.pn ++ pins, s.heap.get? p.1 = some p.2 ∧ H p.1 = none ∧ p.1 ≠ X.env.locals ∧ p.1 ∉ X.fs ∧ ∀ v, p.2.data ≠ .cell v
  hok : HOk X.prog X.w H s.heap
  len : σ.length = X.N.length
section
variable {X : Cx} {pins : List (Addr × Obj)} {σ : List (Option V)} {H H' : Hp} {s : Shared} {h' : Heap}
theorem Cx.Ok.nofr (ok : X.Ok) {b : Addr} {o : Obj} (e : X.base.get? b = some o) : b ∉ X.fs := fun hb => by
  have := (ok.funs.mem hb).1
  rw [e] at this; cases this
theorem Inv.bs (I : Inv X pins σ H s) : ∀ b o, X.base.get? b = some o → s.heap.get? b = some o ∧ H b = none := fun b o e =>
  ⟨I.base.keep b o (I.ok.bs b o e).1 (I.ok.bs b o e).2 (I.ok.nofr e) (I.ok.noex b o e), I.base.free b o (I.ok.bs b o e).1 (I.ok.bs b o e).2 (I.ok.noex b o e)⟩
theorem Inv.bk (I : Inv X pins σ H s) : ∀ b o, X.base.get? b = some o → s.heap.get? b = some o := fun b o e => (I.bs b o e).1
theorem Inv.mod (I : Inv X pins σ H s) : Mod X.K X.mg X.base := I.ok.mod
theorem Inv.kIn (I : Inv X pins σ H s) : X.K.In s.heap := I.ok.mod.kin.keeps I.bk
theorem Inv.nolimit (I : Inv X pins σ H s) : s.heap.NoLimit := I.ok.mod.nolimit.keeps I.bk
theorem Inv.fr (I : Inv X pins σ H s) : ∃ m, Fr X.base X.env.locals s.heap m :=
  let ⟨m, hn, _⟩ := I.loc
  ⟨m, hn, I.bk, Nat.le_trans I.ok.bsz I.ok.above⟩
theorem Inv.lt (I : Inv X pins σ H s) : X.env.locals < s.heap.objs.size := let ⟨_, hn, _⟩ := I.loc; hn.lt
theorem Inv.sz (I : Inv X pins σ H s) : X.s₀.heap.objs.size ≤ s.heap.objs.size := Nat.le_trans I.ok.above (Nat.le_of_lt I.lt)
theorem Inv.nofs (I : Inv X pins σ H s) {a : Addr} (h : s.heap.objs.size ≤ a) : a ∉ X.fs := fun hb => by
  obtain ⟨_, o, ho, _⟩ := I.ok.funs.mem hb
  exact absurd (Nat.lt_of_lt_of_le (Heap.lt_size ho) (Nat.le_trans I.sz h)) (Nat.lt_irrefl _)
theorem Inv.cne (I : Inv X pins σ H s) : ∀ x c, X.env.cells.lookup x = some c → c ≠ X.env.locals := fun x c e z => by
  obtain ⟨v, o, ho, hd⟩ := I.cell x c e
  obtain ⟨m, ⟨o', es, ep, ho', hd', _⟩, _⟩ := I.loc
  rw [z, ho'] at ho; cases ho; rw [hd'] at hd; cases hd
theorem Inv.funs (I : Inv X pins σ H s) : s.heap.FunFrames X.base X.outer := by
  have all : ∀ (l : List Env), (∀ b ∈ frs l, b ∈ X.fs) → X.s₀.heap.FunFrames X.base l → s.heap.FunFrames X.base l := by
    intro l
    induction l with
    | nil => intro _ _; trivial
    | cons env r ih =>
      intro hs hl
      obtain ⟨hk, ⟨L, o, hf, hn, ho, hd⟩, hr⟩ := hl
      have hL : L ∈ X.fs := hs L (by unfold frs; rw [List.filterMap_cons, hf]; exact List.mem_cons_self)
      obtain ⟨sl, e⟩ := I.base.slot L o ho (I.ok.frf L hL) hL fun z => I.ok.exfs L z hL
      exact ⟨hk, ⟨L, _, hf, hn, e, hd⟩, ih (fun b hb => hs b (by unfold frs; rw [List.filterMap_cons, hf]; exact List.mem_cons_of_mem _ hb)) hr⟩
  exact all X.outer (fun _ hb => hb) I.ok.funs
theorem Inv.stack (I : Inv X pins σ H s) : s.heap.FunFrames X.base X.stack := by
  rcases I.ok.stk with e | ⟨e, hf⟩
  · rw [e]; exact I.funs
  · rw [e]
    obtain ⟨m, hn, _⟩ := I.loc
    refine .cons (by rw [I.ok.kind]; decide) hf hn ?_ I.funs
    exact Heap.get?_none_of_le (Nat.le_trans I.ok.bsz I.ok.above)
theorem Inv.stkSub (I : Inv X pins σ H s) : ∀ b ∈ frs X.stack, b ∈ X.env.locals :: X.fs := fun b hb => by
  rcases I.ok.stk with e | ⟨e, hf⟩
  · rw [e] at hb; exact List.mem_cons_of_mem _ hb
  · rw [e] at hb
    unfold frs at hb
    rw [List.filterMap_cons, hf] at hb
    exact hb
theorem Inv.stkFree (I : Inv X pins σ H s) : ∀ b ∈ frs X.stack, H b = none := fun b hb => by
  rcases List.mem_cons.mp (I.stkSub b hb) with e | hb
  · rw [e]; exact I.free
  · obtain ⟨_, o, ho, _⟩ := I.ok.funs.mem hb
    exact I.base.free b o ho (I.ok.frf b hb) fun z => I.ok.exfs b z hb
theorem Inv.step {g' : Array GenState} {t' : Nat} {d' : Drawn} {ch : List Addr} (I : Inv X pins σ H s)
    (hch : ∀ b ∈ ch, (b ∈ X.ex ∨ X.s₀.heap.objs.size ≤ b) ∧ b ≠ X.env.locals ∧ (∀ x c, X.env.cells.lookup x = some c → c ≠ b) ∧ ∀ p ∈ X.pn ++ pins, p.1 ≠ b)
    (keep : ∀ b o, b ≠ X.env.locals → b ∉ X.fs → b ∉ ch → s.heap.get? b = some o → H b = none → h'.get? b = some o)
    (slot : ∀ b o, b ≠ X.env.locals → b ∈ X.fs → b ∉ ch → s.heap.get? b = some o → H b = none → ∃ sl, h'.get? b = some { o with slots := sl }) (free : ∀ b o, b ∉ ch → s.heap.get? b = some o → H b = none → H' b = none)
    (there : ∀ b o, b ∉ ch → s.heap.get? b = some o → ∃ o', h'.get? b = some o')
    (tups : ∀ b xs, H b = some (.tup xs) → H' b = some (.tup xs)) (frzs : ∀ b o u, H b = some (.frz o u) → H' b = some (.frz o u)) (tbls : ∀ b ps, H b = some (.tbl ps) → ∃ more, H' b = some (.tbl (ps ++ more)))
    (ns : ∀ m, s.heap.Ns X.env.locals m → h'.Ns X.env.locals m) (hok : HOk X.prog X.w H' h') (hg : AllBare g') :
    Inv X pins σ H' { s with heap := h', gens := g', drawn := d', toks := t' } := by
  have neL : ∀ b o, X.s₀.heap.get? b = some o → b ≠ X.env.locals := fun b o e => Nat.ne_of_lt (Nat.lt_of_lt_of_le (Heap.lt_size e) I.ok.above)
  have neC : ∀ b o, X.s₀.heap.get? b = some o → b ∉ X.ex → b ∉ ch := fun b o e hx hb => by
    rcases (hch b hb).1 with z | z
    · exact hx z
    · exact absurd (Nat.lt_of_lt_of_le (Heap.lt_size e) z) (Nat.lt_irrefl _)
  have cellK : ∀ x c, X.env.cells.lookup x = some c → ∀ v, s.heap.IsCell c v → h'.IsCell c v := fun x c e v ⟨o, ho, hd⟩ => by
    have nch : c ∉ ch := fun z => (hch c z).2.2.1 x c e rfl
    by_cases hc : c ∈ X.fs
    · obtain ⟨sl, q⟩ := slot c o (I.cne x c e) hc nch ho (I.freeC x c e)
      exact ⟨_, q, hd⟩
    · exact ⟨o, keep c o (I.cne x c e) hc nch ho (I.freeC x c e), hd⟩
  refine ⟨I.ok, I.os, hg, ⟨fun b o e n hb hx => ?_, fun b o e n hb hx => ?_, fun b o e n hx => ?_, fun b o e hx => ?_, fun b xs e => tups b xs (I.base.tups b xs e), fun b o xs e => frzs b o xs (I.base.frzs b o xs e), fun b ps e => ?_⟩, ?_, fun x c e => ?_, ?_, fun x c e => ?_, fun p hp => ?_, hok, I.len⟩
  · exact keep b o (neL b o e) hb (neC b o e hx) (I.base.keep b o e n hb hx) (I.base.free b o e n hx)
  · obtain ⟨sl, e1⟩ := I.base.slot b o e n hb hx
    obtain ⟨sl', e2⟩ := slot b _ (neL b o e) hb (neC b o e hx) e1 (I.base.free b o e n hx)
    exact ⟨sl', e2⟩
  · obtain ⟨o', e1⟩ := I.base.there b o e hx
    exact free b o' (neC b o e hx) e1 (I.base.free b o e n hx)
  · obtain ⟨o', e1⟩ := I.base.there b o e hx
    exact there b o' (neC b o e hx) e1
  · obtain ⟨m1, e1⟩ := I.base.tbls b ps e
    obtain ⟨m2, e2⟩ := tbls b _ e1
    exact ⟨m1 ++ m2, by rw [e2, Array.append_assoc]⟩
  · obtain ⟨m, hn, hl⟩ := I.loc
    refine ⟨m, ns m hn, fun i x v e1 e2 e3 => ?_⟩
    obtain ⟨u, r, l⟩ := hl i x v e1 e2 e3
    refine ⟨u, r, ?_⟩
    rcases l with l | ⟨k, c, e, z⟩
    · exact .inl l
    · exact .inr ⟨k, c, e, cellK x c e _ z⟩
  · obtain ⟨v, z⟩ := I.cell x c e
    exact ⟨v, cellK x c e v z⟩
  · obtain ⟨m, ⟨o, _, _, ho, _⟩, _⟩ := I.loc
    exact free _ o (fun z => (hch _ z).2.1 rfl) ho I.free
  · obtain ⟨v, o, ho, hd⟩ := I.cell x c e
    exact free c o (fun z => (hch c z).2.2.1 x c e rfl) ho (I.freeC x c e)
  · obtain ⟨e, n, ne, nf, d⟩ := I.pin p hp
    have nch : p.1 ∉ ch := fun z => (hch p.1 z).2.2.2 p hp rfl
    exact ⟨keep p.1 p.2 ne nf nch e n, free p.1 p.2 nch e n, ne, nf, d⟩
theorem Inv.un {t' : Nat} (I : Inv X pins σ H s) (u : Un X.fs [] H H' s.heap h') (hok : HOk X.prog X.w H' h') : Inv X pins σ H' { s with heap := h', toks := t' } := by
  obtain ⟨m, ⟨o, es, ep, ho, r⟩, _⟩ := id I.loc
  obtain ⟨sl, hL⟩ := u.any ho I.free (by simp)
  exact I.step (g' := s.gens) (d' := s.drawn) (ch := []) (fun _ z => nomatch z) (fun b o _ hb _ e n => u.keep b o e n hb (by simp)) (fun b o _ hb _ e n => u.slot b o e n hb (by simp)) (fun b o _ e n => u.free b o e n (by simp)) (fun b o _ e => u.there b o e (by simp)) u.tups u.frzs u.tbls (fun m' hm => by
    obtain ⟨o', es', ep', ho', r'⟩ := hm
    rw [ho] at ho'; cases ho'
    exact ⟨_, es', ep', hL, r'⟩) hok I.bare
theorem Inv.call {g' : Array GenState} {t' : Nat} {d' : Drawn} {ch : List Addr} (I : Inv X pins σ H s) (u : Un (frs X.stack) ch H H' s.heap h') (hok : HOk X.prog X.w H' h') (hg : AllBare g')
    (hch : ∀ b ∈ ch, (b ∈ X.ex ∨ X.s₀.heap.objs.size ≤ b) ∧ b ≠ X.env.locals ∧ (∀ x c, X.env.cells.lookup x = some c → c ≠ b) ∧ ∀ p ∈ X.pn ++ pins, p.1 ≠ b) :
    Inv X pins σ H' { s with heap := h', gens := g', drawn := d', toks := t' } := by
  obtain ⟨m, ⟨o, es, ep, ho, r⟩, _⟩ := id I.loc
  obtain ⟨sl, hL⟩ := u.any ho I.free fun z => (hch _ z).2.1 rfl
  exact I.step (ch := ch) hch (fun b o hL hb hc e n => u.keep b o e n (fun z => (List.mem_cons.mp (I.stkSub b z)).elim hL hb) hc) (fun b o _ _ hc e n => u.any e n hc) (fun b o hc e n => u.free b o e n hc) (fun b o hc e => u.there b o e hc) u.tups u.frzs u.tbls (fun m' hm => by
    obtain ⟨o', es', ep', ho', r'⟩ := hm
    rw [ho] at ho'; cases ho'
    exact ⟨_, es', ep', hL, r'⟩) hok hg
theorem Inv.turned {t' : Nat} {it : Addr} (I : Inv X pins σ H s) (k : ∀ b o, b ≠ it → s.heap.get? b = some o → h'.get? b = some o) (hn : H it = none) (hL : it ≠ X.env.locals)
    (h1 : it ∈ X.ex ∨ X.s₀.heap.objs.size ≤ it) (h2 : ∀ x c, X.env.cells.lookup x = some c → c ≠ it) (h3 : ∀ p ∈ X.pn ++ pins, p.1 ≠ it) : Inv X pins σ H { s with heap := h', toks := t' } := by
  have nit : ∀ b u, H b = some u → b ≠ it := fun b u e z => by rw [z, hn] at e; cases e
  refine I.step (g' := s.gens) (d' := s.drawn) (ch := [it]) (fun b hb => ?_) (fun b o _ _ hc e _ => k b o (fun z => hc (by simp [z])) e) (fun b o _ _ hc e _ => ⟨o.slots, k b o (fun z => hc (by simp [z])) e⟩) (fun _ _ _ _ n => n)
    (fun b o hc e => ⟨o, k b o (fun z => hc (by simp [z])) e⟩) (fun _ _ e => e) (fun _ _ _ e => e) (fun b ps e => ⟨#[], by rw [e]; simp⟩) (fun m hm => ?_) (fun b u e => ?_) I.bare
  · have e : b = it := by simpa using hb
    subst e
    exact ⟨h1, hL, h2, h3⟩
  · obtain ⟨o, es, ep, ho, r⟩ := hm
    exact ⟨o, es, ep, k _ o (Ne.symm hL) ho, r⟩
  · refine (I.hok b u e).stay (fun c v hc q => k c v ?_ q) (fun _ q => q) fun _ _ q => q
    rcases hc with z | z
    · rw [z]; exact nit b u e
    · exact nit c _ z
theorem Inv.tok (I : Inv X pins σ H s) (t : Nat) : Inv X pins σ H { s with toks := t } := I.un (h' := s.heap) (t' := t) Un.refl I.hok
theorem Inv.kept {t' : Nat} (I : Inv X pins σ H s) (k : ∀ b u, s.heap.get? b = some u → h'.get? b = some u) : Inv X pins σ H { s with heap := h', toks := t' } := I.un (Un.kept k) (I.hok.kept k)
theorem Inv.laid {a : Addr} {o : HO} {t' : Nat} (I : Inv X pins σ H s) (k : ∀ b u, s.heap.get? b = some u → h'.get? b = some u) (hp : s.heap.objs.size ≤ a) (new : ObjOk X.prog X.w (upd H a o) h' a o) :
    Inv X pins σ (upd H a o) { s with heap := h', toks := t' } := I.un (Un.laid k hp (I.hok.fresh hp)) (I.hok.laid k hp new)
theorem Inv.write {x e : Addr} {o : HO} {t' : Nat} (I : Inv X pins σ H s) (mu : Mut (H x)) (he : e = x ∨ H e = some (.own x)) (k : ∀ b u, b ≠ e → s.heap.get? b = some u → h'.get? b = some u) (heo : ∃ u, h'.get? e = some u)
    (new : ObjOk X.prog X.w (upd H x o) h' x o) : Inv X pins σ (upd H x o) { s with heap := h', toks := t' } := I.un (Un.write mu he k heo) (I.hok.write mu he k heo new)
theorem Inv.weak {σ' : List (Option V)} (I : Inv X pins σ H s) (hl : σ'.length = σ.length) (w : ∀ (i : Nat) v, σ'[i]? = some (some v) → σ[i]? = some (some v)) : Inv X pins σ' H s :=
  ⟨I.ok, I.os, I.bare, I.base, let ⟨m, hn, hl'⟩ := I.loc; ⟨m, hn, fun i x v e1 e2 e3 => hl' i x v e1 (w i v e2) e3⟩, I.cell, I.free, I.freeC, I.pin, I.hok, hl.trans I.len⟩
theorem Inv.pins_of {pins' : List (Addr × Obj)} (I : Inv X pins σ H s) (h : ∀ p ∈ pins', s.heap.get? p.1 = some p.2 ∧ H p.1 = none ∧ p.1 ≠ X.env.locals ∧ p.1 ∉ X.fs ∧ ∀ v, p.2.data ≠ .cell v) : Inv X pins' σ H s :=
  ⟨I.ok, I.os, I.bare, I.base, I.loc, I.cell, I.free, I.freeC, fun p hp => (List.mem_append.mp hp).elim (fun z => I.pin p (List.mem_append_left _ z)) (h p), I.hok, I.len⟩
theorem nodup_ix {N : List Str} (hN : N.Nodup) {i j : Nat} {x : Str} (a : N[i]? = some x) (b : N[j]? = some x) : i = j := by
  obtain ⟨h1, e1⟩ := List.getElem?_eq_some_iff.mp a
  obtain ⟨h2, e2⟩ := List.getElem?_eq_some_iff.mp b
  exact (List.getElem_inj hN).mp (e1.trans e2.symm)
theorem store_ok2 {M : Model} {A : Around} {E : Value → Shared → Prop} {i : Nat} {x : Str} {v : V} {u : Value} {Q : Unit → Shared → Prop} (I : Inv X pins σ H s) (hN : X.N.Nodup) (hi : X.N[i]? = some x) (hx : Loc X.env.scope x) (r : RelV v u)
    (h : ∀ s', Inv X pins (σ.set i (some v)) H s' → (∃ a, Heap.SameBut a s.heap s'.heap ∧ (a = X.env.locals ∨ X.env.cells.lookup x = some a)) → Q () s') (hf : X.fn x = true ∨ X.env.scope.names.lookup x = some .local := by first | exact .inl rfl | exact .inr rfl | assumption) : wpAny M A (storeName X.env x u) Q E s := by
  obtain ⟨m, hn, hl⟩ := id I.loc
  have hcls : (X.env.scope.kind == .class || (X.env.scope.kind == .module && X.env.locals != X.env.globals)) = false := by rw [I.ok.kind]; rfl
  have hiσ : i < σ.length := by rw [I.len]; exact (List.getElem?_eq_some_iff.mp hi).1
  have cne := I.cne
  have tracked : ∀ {a : Addr} {h' : Heap}, (∃ o, s.heap.get? a = some o ∧ H a = none) → Heap.SameBut a s.heap h' → HOk X.prog X.w H h' := fun {a h'} ha hs b ob e => by
    obtain ⟨_, _, hfree⟩ := ha
    refine (I.hok b ob e).stay (fun c w' hc q => (hs.2 c ?_).trans q) (fun _ q => q) fun _ _ q => q
    rintro rfl
    rcases hc with rfl | hc
    · rw [hfree] at e; cases e
    · rw [hfree] at hc; cases hc
  rcases hx with hk | hk
  · refine wpAny_storeName_local hk hn (fun h' hn' hs => ?_) hcls
    obtain ⟨oL, _, _, hoL, _⟩ := id hn
    refine h _ ⟨I.ok, I.os, I.bare, ⟨fun b o e n hb hx => ?_, fun b o e n hb hx => ?_, I.base.free, fun b o e hx => ?_, I.base.tups, I.base.frzs, I.base.tbls⟩, ⟨_, hn', fun j y v' e1 e2 e3 => ?_⟩, fun y c e => ?_, I.free, I.freeC, fun p hp => ?_, tracked ⟨oL, hoL, I.free⟩ hs, by simpa using I.len⟩ ⟨_, hs, .inl rfl⟩
    · exact (hs.2 b (Nat.ne_of_lt (Nat.lt_of_lt_of_le (Heap.lt_size e) I.ok.above))).trans (I.base.keep b o e n hb hx)
    · obtain ⟨sl, e1⟩ := I.base.slot b o e n hb hx
      exact ⟨sl, (hs.2 b (Nat.ne_of_lt (Nat.lt_of_lt_of_le (Heap.lt_size e) I.ok.above))).trans e1⟩
    · obtain ⟨o', e1⟩ := I.base.there b o e hx
      exact ⟨o', (hs.2 b (Nat.ne_of_lt (Nat.lt_of_lt_of_le (Heap.lt_size e) I.ok.above))).trans e1⟩
    · by_cases hj : j = i
      · subst hj
        rw [hi] at e1; cases e1
        rw [List.getElem?_set_self hiσ] at e2
        cases e2
        exact ⟨u, r, .inl ⟨hk, by simp⟩⟩
      · rw [List.getElem?_set_ne (Ne.symm hj)] at e2
        obtain ⟨u', r', q⟩ := hl j y v' e1 e2 e3
        refine ⟨u', r', ?_⟩
        rcases q with ⟨k, e⟩ | ⟨k, c, e, z⟩
        · refine .inl ⟨k, ?_⟩
          have : y ≠ x := fun e => hj (nodup_ix hN e1 (e ▸ hi))
          simp [this, e]
        · exact .inr ⟨k, c, e, z.sameBut hs (cne y c e)⟩
    · obtain ⟨w', z⟩ := I.cell y c e
      exact ⟨w', z.sameBut hs (cne y c e)⟩
    · obtain ⟨e, n, ne, nf, d⟩ := I.pin p hp
      exact ⟨(hs.2 p.1 ne).trans e, n, ne, nf, d⟩
  · have hfn : X.fn x = true := by
      rcases hf with z | z
      · exact z
      · rw [z] at hk; cases hk
    obtain ⟨c, hc⟩ := I.ok.has x (.inl hk)
    obtain ⟨w', z⟩ := I.cell x c hc
    refine wpAny_storeName_cell I.ok.kind hk hc z (fun h' hc' hs => ?_)
    obtain ⟨oc, hoc, hocd⟩ := id z
    refine h { s with heap := h' } ⟨I.ok, I.os, I.bare, ⟨fun b o e n hb hx => ?_, fun b o e n hb hx => ?_, I.base.free, fun b o e hx => ?_, I.base.tups, I.base.frzs, I.base.tbls⟩, ⟨m, hn.sameBut hs (Ne.symm (cne x c hc)), fun j y v' e1 e2 e3 => ?_⟩, fun y c' e => ?_, I.free, I.freeC, fun p hp => ?_, tracked ⟨oc, hoc, I.freeC x c hc⟩ hs, by simpa using I.len⟩ ⟨c, hs, .inr hc⟩
    · exact (hs.2 b (Nat.ne_of_lt (Nat.lt_of_lt_of_le (Heap.lt_size e) (I.ok.cab x c hfn hc)))).trans (I.base.keep b o e n hb hx)
    · obtain ⟨sl, e1⟩ := I.base.slot b o e n hb hx
      exact ⟨sl, (hs.2 b (Nat.ne_of_lt (Nat.lt_of_lt_of_le (Heap.lt_size e) (I.ok.cab x c hfn hc)))).trans e1⟩
    · obtain ⟨o', e1⟩ := I.base.there b o e hx
      exact ⟨o', (hs.2 b (Nat.ne_of_lt (Nat.lt_of_lt_of_le (Heap.lt_size e) (I.ok.cab x c hfn hc)))).trans e1⟩
    · by_cases hj : j = i
      · subst hj
        rw [hi] at e1; cases e1
        rw [List.getElem?_set_self hiσ] at e2
        cases e2
        exact ⟨u, r, .inr ⟨.inl hk, c, hc, hc'⟩⟩
      · rw [List.getElem?_set_ne (Ne.symm hj)] at e2
        obtain ⟨u', r', q⟩ := hl j y v' e1 e2 e3
        refine ⟨u', r', ?_⟩
        rcases q with q | ⟨k, c', e, z'⟩
        · exact .inl q
        · refine .inr ⟨k, c', e, z'.sameBut hs ?_⟩
          rintro rfl
          exact hj (nodup_ix hN e1 (I.ok.inj _ _ _ e hc ▸ hi))
    · by_cases hcc : c' = c
      · subst hcc; exact ⟨_, hc'⟩
      · obtain ⟨w2, z2⟩ := I.cell y c' e
        exact ⟨w2, z2.sameBut hs hcc⟩
    · obtain ⟨e, n, ne, nf, d⟩ := I.pin p hp
      refine ⟨(hs.2 p.1 ?_).trans e, n, ne, nf, d⟩
      intro q
      rw [q, hoc] at e
      have q' : oc = p.2 := Option.some.inj e
      exact d w' (by rw [← q']; exact hocd)
theorem store_ok {M : Model} {A : Around} {E : Value → Shared → Prop} {i : Nat} {x : Str} {v : V} {u : Value} {Q : Unit → Shared → Prop} (I : Inv X pins σ H s) (hN : X.N.Nodup) (hi : X.N[i]? = some x) (hx : Loc X.env.scope x) (r : RelV v u)
    (h : ∀ s', Inv X pins (σ.set i (some v)) H s' → Q () s') (hf : X.fn x = true ∨ X.env.scope.names.lookup x = some .local := by first | exact .inl rfl | exact .inr rfl | assumption) : wpAny M A (storeName X.env x u) Q E s :=
  store_ok2 I hN hi hx r (fun s' I' _ => h s' I') hf
theorem Inv.call' {s' : Shared} {ch : List Addr} (I : Inv X pins σ H s) (ho : s'.os = s.os) (u : Un (frs X.stack) ch H H' s.heap s'.heap) (hok : HOk X.prog X.w H' s'.heap) (hg : AllBare s'.gens)
    (hch : ∀ b ∈ ch, (b ∈ X.ex ∨ X.s₀.heap.objs.size ≤ b) ∧ b ≠ X.env.locals ∧ (∀ x c, X.env.cells.lookup x = some c → c ≠ b) ∧ ∀ p ∈ X.pn ++ pins, p.1 ≠ b) : Inv X pins σ H' s' := by
  obtain ⟨h', g', d', t', o'⟩ := s'
  have e : o' = s.os := ho
  subst e
  exact I.call (g' := g') (t' := t') (d' := d') u hok hg hch
end
abbrev XK := Value → Option Addr → Hp → Prop
abbrev St := List (Option V)
abbrev VK := V → Hp → Prop
abbrev TE := St → Hp → VK → Prop
abbrev TT := St → Hp → (Bool → Hp → Prop) → Prop
abbrev TA := St → Hp → (List V → Hp → Prop) → Prop
structure Ends where
  nx : St → Hp → Prop
  rt : VK
  bk : St → Hp → Prop := fun _ _ => False
  ct : St → Hp → Prop := fun _ _ => False
abbrev TS := Ends → St → Hp → Prop
def EP (X : Cx) (pins : List (Addr × Obj)) (σ : St) (Q : VK) (u : Value) (s' : Shared) : Prop := ∃ v H', Inv X pins σ H' s' ∧ RelV v u ∧ Q v H'
def TP (X : Cx) (pins : List (Addr × Obj)) (σ : St) (Q : Bool → Hp → Prop) (b : Bool) (s' : Shared) : Prop := ∃ H', Inv X pins σ H' s' ∧ Q b H'
def AP (X : Cx) (pins : List (Addr × Obj)) (σ : St) (Q : List V → Hp → Prop) (us : List Value) (s' : Shared) : Prop := ∃ vs H', Inv X pins σ H' s' ∧ Vals vs us ∧ Q vs H'
def SP (X : Cx) (pins : List (Addr × Obj)) (D : Ends) (f : Flow) (s' : Shared) : Prop :=
  match f with
  | .next => ∃ σ' H', Inv X pins σ' H' s' ∧ D.nx σ' H'
  | .brk => ∃ σ' H', Inv X pins σ' H' s' ∧ D.bk σ' H'
  | .cont => ∃ σ' H', Inv X pins σ' H' s' ∧ D.ct σ' H'
  | .ret u => ∃ v σ' H', Inv X pins σ' H' s' ∧ RelV v u ∧ D.rt v H'
def PE (X : Cx) (e : Expr) (t : TE) : Prop :=
  ∀ (pins : List (Addr × Obj)) (s : Shared) (σ : St) (H : Hp) (Q : VK), Inv X pins σ H s → t σ H Q → wpAny (model X.prog X.w) X.A (eval e X.env) (EP X pins σ Q) X.xe s
def PT (X : Cx) (e : Expr) (t : TT) : Prop :=
  ∀ (pins : List (Addr × Obj)) (s : Shared) (σ : St) (H : Hp) (Q : Bool → Hp → Prop), Inv X pins σ H s → t σ H Q → wpAny (model X.prog X.w) X.A (isTrue e X.env (eval e X.env)) (TP X pins σ Q) X.xe s
def PW (X : Cx) (e : Expr) (t : TT) : Prop :=
  ∀ (whole : Sem Value) (pins : List (Addr × Obj)) (s : Shared) (σ : St) (H : Hp) (Q : Bool → Hp → Prop), Inv X pins σ H s → t σ H Q → wpAny (model X.prog X.w) X.A (isTrue e X.env whole) (TP X pins σ Q) X.xe s
theorem PW.pt {X : Cx} {e : Expr} {t : TT} (h : PW X e t) : PT X e t := h _
def PA (X : Cx) (es : List Expr) (t : TA) : Prop :=
  ∀ (pos : Pos) (pins : List (Addr × Obj)) (s : Shared) (σ : St) (H : Hp) (Q : List V → Hp → Prop), Inv X pins σ H s → t σ H Q → wpAny (model X.prog X.w) X.A (spliced (backTo pos (starEach es X.env))) (AP X pins σ Q) X.xe s
def PS (X : Cx) (st : Stmt) (t : TS) : Prop :=
  ∀ (pins : List (Addr × Obj)) (s : Shared) (σ : St) (H : Hp) (D : Ends), Inv X pins σ H s → t D σ H → wpAny (model X.prog X.w) X.A (exec st X.env) (SP X pins D) X.xe s
def PSs (X : Cx) (st : List Stmt) (t : TS) : Prop :=
  ∀ (pins : List (Addr × Obj)) (s : Shared) (σ : St) (H : Hp) (D : Ends), Inv X pins σ H s → t D σ H → wpAny (model X.prog X.w) X.A (execs st X.env) (SP X pins D) X.xe s
theorem thn {α : Type} {t : Sem α} {Q Q' : α → Shared → Prop} {M : Model} {A : Around} {E : Value → Shared → Prop} {s : Shared} (h : wpAny M A t Q E s) (hQ : ∀ a s, Q a s → Q' a s) : wpAny M A t Q' E s := wpAny_mono h hQ fun _ _ x => x
end L2
namespace L2
open PySem PySem.Spec PyProof.Rows
section
variable {X : Cx}
def tVar (i : Nat) : TE := fun σ H Q => ∃ v, σ[i]? = some (some v) ∧ Q v H
def tC (v : V) : TE := fun _ H Q => Q v H
theorem pe_var {i : Nat} {x : Str} {pos : Pos} (hN : X.N[i]? = some x) (hv : Vis X.env.scope x) (hd : (x == ("__debug__" : Str)) = false := by decide) (hcd : (x == ("__classdict__" : Str)) = false := by decide) : PE X (.Name x pos) (tVar i) := by
  intro pins s σ H Q I h
  obtain ⟨v, e, h⟩ := h
  obtain ⟨m, hn, hl⟩ := I.loc
  obtain ⟨u, r, l⟩ := hl i x v hN e hv
  have fin : EP X pins σ Q u s := ⟨v, H, I, r, h⟩
  rcases l with ⟨hk, hm⟩ | ⟨hk, c, hc, hcell⟩
  · exact wpAny_Name (wpAny_loadName_local I.ok.kind hk hn hm fin) hd
  · rcases hk with hk | hk
    · exact wpAny_Name (wpAny_loadName_cell I.ok.kind hk hc hcell fin) hd
    · exact wpAny_Name (wpAny_loadName_free I.ok.kind hk hc hcell fin hcd) hd
theorem pe_int {i j pos} : PE X (.Constant (.int i) j pos) (tC (.int i)) := fun _ _ _ H _ I h => wpAny_Constant_int ⟨.int i, H, I.tok _, ⟨_, rfl⟩, h⟩
theorem pe_bl {b j pos} : PE X (.Constant (.bool b) j pos) (tC (.bl b)) := fun _ _ _ H _ I h => Constant_bool ⟨.bl b, H, I, rfl, h⟩
theorem pe_non {j pos} : PE X (.Constant .none j pos) (tC .non) := fun _ _ _ H _ I h => Constant_none ⟨.non, H, I, rfl, h⟩
theorem pe_str {x j pos} : PE X (.Constant (.str x) j pos) (tC (.str x)) := fun _ _ _ H _ I h => Calls.Constant_str ⟨.str x, H, I.tok _, ⟨_, rfl⟩, h⟩
def Gl (X : Cx) (x : Str) : Prop := X.env.kindOf x = some .globalImplicit
theorem ld_glob {E : Value → Shared → Prop} {pins : List (Addr × Obj)} {s : Shared} {σ : St} {H : Hp} {x : Str} {u : Value} {pos : Pos} {Q : Value → Shared → Prop} (I : Inv X pins σ H s) (hg : Gl X x) (hm : X.mg x = some u) (h : Q u s)
    (hd : (x == ("__debug__" : Str)) = false := by decide) : wpAny (model X.prog X.w) X.A (eval (.Name x pos) X.env) Q E s :=
  Calls.Name_function_global I.ok.kind hg (Calls.loadGlobal_global (by rw [I.ok.glob]; exact I.mod.glob.keeps I.bk) hm h) hd
theorem ld_blt {E : Value → Shared → Prop} {pins : List (Addr × Obj)} {s : Shared} {σ : St} {H : Hp} {x : Str} {u : Value} {pos : Pos} {Q : Value → Shared → Prop} (I : Inv X pins σ H s) (hg : Gl X x) (hm : X.mg x = none) (hv : bootBuiltins x = some u) (h : Q u s)
    (hn : x ≠ "__name__" := by decide) (hd : (x == ("__debug__" : Str)) = false := by decide) : wpAny (model X.prog X.w) X.A (eval (.Name x pos) X.env) Q E s := by
  obtain ⟨mb, h1, h2⟩ := I.mod.blt
  exact Calls.Name_function_global I.ok.kind hg (Calls.loadGlobal_builtin (by rw [I.ok.glob]; exact I.mod.glob.keeps I.bk) hm (by rw [I.ok.blt]; exact h1.keeps I.bk) ((h2 x hn).trans hv) h) hd
theorem pe_glob {x : Str} {v : V} {u : Value} {pos : Pos} (hg : Gl X x) (hm : X.mg x = some u) (r : RelV v u) (hd : (x == ("__debug__" : Str)) = false := by decide) : PE X (.Name x pos) (tC v) :=
  fun _ _ _ H _ I h => ld_glob I hg hm ⟨v, H, I, r, h⟩ hd
theorem pe_bltn {x : Str} {v : V} {u : Value} {pos : Pos} (hg : Gl X x) (hm : X.mg x = none) (hv : bootBuiltins x = some u) (r : RelV v u) (hn : x ≠ "__name__" := by decide) (hd : (x == ("__debug__" : Str)) = false := by decide) : PE X (.Name x pos) (tC v) :=
  fun _ _ _ H _ I h => ld_blt I hg hm hv ⟨v, H, I, r, h⟩ hn hd
variable {a b : Expr} {ta tb : TE} {pos : Pos}
def tB (t : TE) : TT := fun σ H Q => t σ H fun x H1 => ∃ c, x = .bl c ∧ Q c H1
theorem pt_val {e : Expr} {t : TE} (h : PE X e t) (he : ∀ whole, isTrue e X.env whole = (do let v ← whole; standAt e.pos; holding [v] (truthy v)) := by intro _; rfl) : PT X e (tB t) := by
  intro pins s σ H Q I hw
  refine isTrue_plain (thn (h pins s σ H _ I hw) fun v s1 ⟨x, H1, I1, r1, q1⟩ => ?_) (he _)
  obtain ⟨d, rfl, q⟩ := q1
  cases r1
  exact wpAny_truthy_bool ⟨H1, I1, q⟩
variable {tA tB' : TT} {rest : List Expr}
def tAnd (t u : TT) : TT := fun σ H Q => t σ H fun c H1 => if c = true then u σ H1 Q else Q false H1
def tOr (t u : TT) : TT := fun σ H Q => t σ H fun c H1 => if c = true then Q true H1 else u σ H1 Q
def tNot (t : TT) : TT := fun σ H Q => t σ H fun c H1 => Q (!c) H1
theorem pw_and1 (ha : PT X a tA) : PW X (.BoolOp .And [a] pos) tA := by
  intro wh pins s σ H Q I h
  refine isTrue_and (thn (ha pins s σ H Q I h) fun c s1 e => ?_)
  cases c with
  | true => exact isTrue_and_nil e
  | false => exact e
theorem pw_or1 (ha : PT X a tA) : PW X (.BoolOp .Or [a] pos) tA := by
  intro wh pins s σ H Q I h
  refine isTrue_or (thn (ha pins s σ H Q I h) fun c s1 e => ?_)
  cases c with
  | false => exact isTrue_or_nil e
  | true => exact e
theorem pw_and (ha : PT X a tA) (hb : PW X (.BoolOp .And (b :: rest) pos) tB') : PW X (.BoolOp .And (a :: b :: rest) pos) (tAnd tA tB') := by
  intro wh pins s σ H Q I h
  refine isTrue_and (thn (ha pins s σ H _ I h) fun c s1 ⟨H1, I1, q1⟩ => ?_)
  cases c with
  | true => exact hb wh pins s1 σ H1 Q I1 q1
  | false => exact ⟨H1, I1, q1⟩
theorem pw_or (ha : PT X a tA) (hb : PW X (.BoolOp .Or (b :: rest) pos) tB') : PW X (.BoolOp .Or (a :: b :: rest) pos) (tOr tA tB') := by
  intro wh pins s σ H Q I h
  refine isTrue_or (thn (ha pins s σ H _ I h) fun c s1 ⟨H1, I1, q1⟩ => ?_)
  cases c with
  | true => exact ⟨H1, I1, q1⟩
  | false => exact hb wh pins s1 σ H1 Q I1 q1
theorem pt_not (ha : PT X a tA) : PT X (.UnaryOp .Not a pos) (tNot tA) := by
  intro pins s σ H Q I h
  exact isTrue_not (ha pins s σ H (fun c H1 => Q (!c) H1) I h)
def tAndV (ta tb : TE) : TE := fun σ H Q => ta σ H fun x H1 => ∃ c, x = .bl c ∧ if c = true then tb σ H1 Q else Q (.bl false) H1
def tOrV (ta tb : TE) : TE := fun σ H Q => ta σ H fun x H1 => ∃ c, x = .bl c ∧ if c = true then Q (.bl true) H1 else tb σ H1 Q
def tNotV (ta : TE) : TE := fun σ H Q => ta σ H fun x H1 => ∃ c, x = .bl c ∧ Q (.bl (!c)) H1
theorem pe_one {op} {t : TE} (h : PE X a t) : PE X (.BoolOp op [a] pos) t := fun pins s σ H Q I hw => BoolOp_one (h pins s σ H Q I hw)
theorem pe_and (ha : PE X a ta) (hb : PE X (.BoolOp .And (b :: rest) pos) tb) : PE X (.BoolOp .And (a :: b :: rest) pos) (tAndV ta tb) := by
  intro pins s σ H Q I h
  refine BoolOp_and (thn (ha pins s σ H _ I h) fun v s1 ⟨x, H1, I1, r1, q1⟩ => ?_)
  obtain ⟨c, rfl, q1⟩ := q1
  cases r1
  refine wpAny_truthy_bool ?_
  cases c with
  | true => exact hb pins s1 σ H1 Q I1 q1
  | false => exact ⟨.bl false, H1, I1, rfl, q1⟩
theorem pe_not (ha : PE X a ta) : PE X (.UnaryOp .Not a pos) (tNotV ta) := by
  intro pins s σ H Q I h
  refine UnaryOp_ (thn (ha pins s σ H _ I h) fun v s1 ⟨x, H1, I1, r1, q1⟩ => ?_)
  obtain ⟨c, rfl, q1⟩ := q1
  cases r1
  exact not_of (wpAny_truthy_bool ⟨.bl (!c), H1, I1, rfl, q1⟩)
def tIf (t : TT) (ta tb : TE) : TE := fun σ H Q => t σ H fun c H1 => if c = true then ta σ H1 Q else tb σ H1 Q
end
end L2
namespace L2
open PySem PySem.Spec PyProof.Rows
def SqL (K : PySem.W.Frag) (H : Hp) (a : Addr) (xs : List V) : Prop :=
  Rd H a (.lst xs) ∨
    ∃ (o : Obj) (its : Array Value) (n : Nat), K.lookup a = some o ∧ o.cls = .type "list" ∧ o.dict = none ∧ o.data = .seq its n ∧ its.size ≤ sizeLine ∧ Vals xs its.toList
def SqT (K : PySem.W.Frag) (H : Hp) (a : Addr) (xs : List V) : Prop :=
  Rd H a (.tup xs) ∨
    ∃ (o : Obj) (its : Array Value) (n : Nat), K.lookup a = some o ∧ o.cls = .type "tuple" ∧ o.data = .seq its n ∧ its.size ≤ sizeLine ∧ Vals xs its.toList
def absV : Value → Option V
  | .none => some .non
  | .bool b => some (.bl b)
  | .int i _ => some (.int i)
  | .str x _ => some (.str x)
  | .bytes b _ => some (.byt b)
  | .float b _ => some (.flt b)
  | .ref a => some (.ref a)
  | .type n => some (.ty n)
  | _ => none
theorem RelV.abs {x : V} {u : Value} (r : RelV x u) : absV u = some x := by
  cases x with
  | non => cases r; rfl
  | bl _ => cases r; rfl
  | int _ => obtain ⟨t, rfl⟩ := r; rfl
  | str _ => obtain ⟨t, rfl⟩ := r; rfl
  | byt _ => obtain ⟨t, rfl⟩ := r; rfl
  | flt _ => obtain ⟨t, rfl⟩ := r; rfl
  | ref _ => cases r; rfl
  | ty _ => cases r; rfl
theorem RelV.inj {x y : V} {u : Value} (r : RelV x u) (q : RelV y u) : x = y := Option.some.inj (r.abs.symm.trans q.abs)
theorem Vals.inj : ∀ {xs ys : List V} {us : List Value}, Vals xs us → Vals ys us → xs = ys
  | _, _, _, .nil, .nil => rfl
  | _, _, _, .cons r t, .cons r' t' => by rw [r.inj r', Vals.inj t t']
section
variable {X : Cx} {pins : List (Addr × Obj)} {σ : St} {H : Hp} {s : Shared} {a : Addr} {xs ys : List V}
theorem SqL.of {K : PySem.W.Frag} (h : H a = some (.lst xs)) : SqL K H a xs := .inl (.inl h)
theorem SqT.of {K : PySem.W.Frag} (h : H a = some (.tup xs)) : SqT K H a xs := .inl (.inl h)
theorem Inv.list (I : Inv X pins σ H s) (h : SqL X.K H a xs) : ∃ its : List Value, Vals xs its ∧ PlainL s.heap a its.toArray ∧ xs.length ≤ sizeLine := by
  rcases h with h | ⟨o, its, n, hk, hc, hd, hs, hz, r⟩
  · obtain ⟨z, its, n, r, e⟩ := h.ok I.hok
    exact ⟨its, r, ⟨_, n, e, rfl, rfl, rfl⟩, z⟩
  · refine ⟨its.toList, r, ⟨o, n, I.kIn a o hk, hc, hd, by simpa using hs⟩, ?_⟩
    have e := r.length
    simp only [Array.length_toList] at e
    omega
theorem Inv.tuple (I : Inv X pins σ H s) (h : SqT X.K H a xs) : ∃ its : List Value, Vals xs its ∧ IsTup s.heap a its.toArray ∧ xs.length ≤ sizeLine := by
  rcases h with h | ⟨o, its, n, hk, hc, hs, hz, r⟩
  · obtain ⟨z, its, r, p⟩ := h.ok I.hok
    exact ⟨its, r, p, z⟩
  · refine ⟨its.toList, r, ⟨o, I.kIn a o hk, hc, n, by simpa using hs⟩, ?_⟩
    have e := r.length
    simp only [Array.length_toList] at e
    omega
theorem Inv.list_inj (I : Inv X pins σ H s) (h : SqL X.K H a xs) (h' : SqL X.K H a ys) : xs = ys := by
  obtain ⟨its, r, ⟨o, n, e, _, _, d⟩, _⟩ := I.list h
  obtain ⟨its', r', ⟨o', n', e', _, _, d'⟩, _⟩ := I.list h'
  rw [e] at e'; cases e'
  rw [d] at d'
  injection d' with d1 _
  have : its = its' := by simpa using congrArg Array.toList d1
  subst this
  exact r.inj r'
theorem Inv.tuple_inj (I : Inv X pins σ H s) (h : SqT X.K H a xs) (h' : SqT X.K H a ys) : xs = ys := by
  obtain ⟨its, r, ⟨o, e, _, n, d⟩, _⟩ := I.tuple h
  obtain ⟨its', r', ⟨o', e', _, n', d'⟩, _⟩ := I.tuple h'
  rw [e] at e'; cases e'
  rw [d] at d'
  injection d' with d1 _
  have : its = its' := by simpa using congrArg Array.toList d1
  subst this
  exact r.inj r'
end
abbrev Cx.wish (X : Cx) (E : Value → Shared → Prop) : Cx := { X with xe := E }
abbrev Cx.nox (X : Cx) : Cx := X.wish fun _ _ => False
theorem Cx.Ok.wish {X : Cx} (ok : X.Ok) (E : Value → Shared → Prop) : (X.wish E).Ok :=
  ⟨ok.mod, ok.kind, ok.glob, ok.blt, ok.above, ok.inj, ok.has, ok.cab, ok.hd, ok.frames, ok.stk, ok.exf, ok.bs, ok.bsz, ok.noex, ok.exfs, ok.funs, ok.frf⟩
theorem Cx.Ok.unwish {X : Cx} {E : Value → Shared → Prop} (ok : (X.wish E).Ok) : X.Ok :=
  ⟨ok.mod, ok.kind, ok.glob, ok.blt, ok.above, ok.inj, ok.has, ok.cab, ok.hd, ok.frames, ok.stk, ok.exf, ok.bs, ok.bsz, ok.noex, ok.exfs, ok.funs, ok.frf⟩
section
variable {X : Cx} {pins : List (Addr × Obj)} {σ : St} {H : Hp} {s : Shared} {E : Value → Shared → Prop}
theorem Inv.wish (I : Inv X pins σ H s) (E : Value → Shared → Prop) : Inv (X.wish E) pins σ H s := ⟨I.ok.wish E, I.os, I.bare, I.base, I.loc, I.cell, I.free, I.freeC, I.pin, I.hok, I.len⟩
theorem Inv.unwish (I : Inv (X.wish E) pins σ H s) : Inv X pins σ H s := ⟨I.ok.unwish, I.os, I.bare, I.base, I.loc, I.cell, I.free, I.freeC, I.pin, I.hok, I.len⟩
theorem SP.unwish {D : Ends} {f : Flow} {s' : Shared} (h : SP (X.wish E) pins D f s') : SP X pins D f s' := by
  cases f with
  | next => obtain ⟨σ', H', I, q⟩ := h; exact ⟨σ', H', I.unwish, q⟩
  | brk => obtain ⟨σ', H', I, q⟩ := h; exact ⟨σ', H', I.unwish, q⟩
  | cont => obtain ⟨σ', H', I, q⟩ := h; exact ⟨σ', H', I.unwish, q⟩
  | ret u => obtain ⟨v, σ', H', I, r, q⟩ := h; exact ⟨v, σ', H', I.unwish, r, q⟩
theorem PE.nox {e : Expr} {t : TE} (h : PE X.nox e t) : PE X e t := fun pins s σ H Q I hw =>
  wpAny_mono (h pins s σ H Q (I.wish _) hw) (fun _ _ ⟨v, H', I', r, q⟩ => ⟨v, H', I'.unwish, r, q⟩) fun _ _ z => False.elim z
theorem PT.nox {e : Expr} {t : TT} (h : PT X.nox e t) : PT X e t := fun pins s σ H Q I hw =>
  wpAny_mono (h pins s σ H Q (I.wish _) hw) (fun _ _ ⟨H', I', q⟩ => ⟨H', I'.unwish, q⟩) fun _ _ z => False.elim z
theorem PSs.nox {st : List Stmt} {t : TS} (h : PSs X.nox st t) : PSs X st t := fun pins s σ H D I hw =>
  wpAny_mono (h pins s σ H D (I.wish _) hw) (fun _ _ q => q.unwish) fun _ _ z => False.elim z
end
section
variable {X : Cx} {st : Stmt} {rest : List Stmt} {t u : TS} {e : Expr} {te : TE} {pos : Pos}
def tNext : TS := fun D σ H => D.nx σ H
def tSeq (t u : TS) : TS := fun D σ H => t { D with nx := u D } σ H
theorem pss_nil : PSs X [] tNext := fun _ _ σ H _ I h => wpAny_execs_nil ⟨σ, H, I, h⟩
theorem pss_cons (h1 : PS X st t) (h2 : PSs X rest u) : PSs X (st :: rest) (tSeq t u) := by
  intro pins s σ H D I h
  refine wpAny_execs_cons (thn (h1 pins s σ H { D with nx := u D } I h) fun f s1 q => ?_)
  cases f with
  | next =>
    obtain ⟨σ', H', I', q⟩ := q
    exact h2 pins s1 σ' H' D I' q
  | ret v => exact q
  | brk => exact q
  | cont => exact q
theorem pss_one (h1 : PS X st t) : PSs X [st] t := by
  intro pins s σ H D I h
  refine wpAny_execs_cons (thn (h1 pins s σ H D I h) fun f s1 q => ?_)
  cases f with
  | next => exact wpAny_execs_nil q
  | ret v => exact q
  | brk => exact q
  | cont => exact q
theorem Inv.quiet {pins : List (Addr × Obj)} {σ : St} {H : Hp} {s : Shared} (I : Inv X pins σ H s) : interactive X.env = false := by simp [interactive, I.ok.kind]
def tDrop (te : TE) : TS := fun D σ H => te σ H fun _ H1 => D.nx σ H1
theorem ps_expr (he : PE X e te) (hs : swapsWith e none pos.line X.env = pure false := by rfl) : PS X (.Expr e pos) (tDrop te) := by
  intro pins s σ H D I h
  exact wpAny_Expr_any (thn (he pins s σ H _ I h) fun v s1 ⟨x, H1, I1, r1, q1⟩ => ⟨σ, H1, I1, q1⟩) I.quiet hs
def tRet (te : TE) : TS := fun D σ H => te σ H D.rt
theorem ps_ret (he : PE X e te) : PS X (.Return (some e) pos) (tRet te) := by
  intro pins s σ H D I h
  exact wpAny_Return_some (thn (he pins s σ H _ I h) fun v s1 ⟨x, H1, I1, r1, q1⟩ => ⟨x, σ, H1, I1, r1, q1⟩)
def tRetN : TS := fun D _ H => D.rt .non H
def tIfS (c : TT) (t u : TS) : TS := fun D σ H => c σ H fun b H1 => if b = true then t D σ H1 else u D σ H1
theorem ps_if {c : Expr} {a b : List Stmt} {tc : TT} (hc : PT X c tc) (ha : PSs X a t) (hb : PSs X b u) : PS X (.If c a b pos) (tIfS tc t u) := by
  intro pins s σ H D I h
  refine wpAny_If (thn (hc pins s σ H _ I h) fun d s1 ⟨H1, I1, q1⟩ => ?_)
  cases d with
  | true => exact ha pins s1 σ H1 D I1 q1
  | false => exact hb pins s1 σ H1 D I1 q1
end
abbrev TG := V → St → Hp → (St → Hp → Prop) → Prop
abbrev TGs := List V → St → Hp → (St → Hp → Prop) → Prop
def PG (X : Cx) (target : Expr) (t : TG) : Prop :=
  ∀ (pins : List (Addr × Obj)) (s : Shared) (σ : St) (H : Hp) (v : V) (u : Value) (Q : St → Hp → Prop), Inv X pins σ H s → RelV v u → t v σ H Q →
    wpAny (model X.prog X.w) X.A (assign target X.env u) (fun _ s' => ∃ σ' H', Inv X pins σ' H' s' ∧ Q σ' H') X.xe s
def PGs (X : Cx) (ts : List Expr) (t : TGs) : Prop :=
  ∀ (pins : List (Addr × Obj)) (s : Shared) (σ : St) (H : Hp) (vs : List V) (us : List Value) (Q : St → Hp → Prop), Inv X pins σ H s → Vals vs us → t vs σ H Q →
    wpAny (model X.prog X.w) X.A (assignInOrder ((assignEach ts X.env).map (·.2)) us) (fun _ s' => ∃ σ' H', Inv X pins σ' H' s' ∧ Q σ' H') X.xe s
abbrev TSet := V → V → V → Hp → (Hp → Prop) → Prop
def PSet (X : Cx) (t : TSet) : Prop :=
  ∀ (pins : List (Addr × Obj)) (s : Shared) (σ : St) (H : Hp) (o i v : V) (ov iv u : Value) (Q : Hp → Prop), Inv X pins σ H s → RelV o ov → RelV i iv → RelV v u → t o i v H Q →
    wpAny (model X.prog X.w) X.A (setItem ov iv u) (fun _ s' => ∃ H', Inv X pins σ H' s' ∧ Q H') X.xe s
abbrev TIp := V → V → Hp → VK → Prop
def PIp (X : Cx) (op : Operator) (t : TIp) : Prop :=
  ∀ (pins : List (Addr × Obj)) (s : Shared) (σ : St) (H : Hp) (x y : V) (v u : Value) (Q : VK), Inv X pins σ H s → RelV x v → RelV y u → t x y H Q →
    wpAny (model X.prog X.w) X.A (inplaceOp op v u) (EP X pins σ Q) X.xe s
section
variable {X : Cx} {pos : Pos}
def gName (i : Nat) : TG := fun v σ H Q => Q (σ.set i (some v)) H
theorem pg_name {i : Nat} {x : Str} (hN : X.N.Nodup) (hi : X.N[i]? = some x) (hx : Loc X.env.scope x) (hf : X.fn x = true ∨ X.env.scope.names.lookup x = some .local := by first | exact .inl rfl | exact .inr rfl | assumption) : PG X (.Name x pos) (gName i) := by
  intro pins s σ H v u Q I r h
  exact wpAny_assign_Name (store_ok I hN hi hx r (fun s' I' => ⟨_, H, I', h⟩) hf)
def gNil : TGs := fun vs σ H Q => vs = [] ∧ Q σ H
def gCons (t : TG) (u : TGs) : TGs := fun vs σ H Q => ∃ v r, vs = v :: r ∧ t v σ H fun σ' H' => u r σ' H' Q
theorem pgs_nil : PGs X [] gNil := by
  intro pins s σ H vs us Q I r h
  obtain ⟨e, h⟩ := h
  subst e
  cases r
  exact assignInOrder_nil ⟨σ, H, I, h⟩
theorem pgs_cons {e : Expr} {es : List Expr} {t : TG} {u : TGs} (h1 : PG X e t) (h2 : PGs X es u)
    (hs : (assignEach (e :: es) X.env).map (·.2) = assign e X.env :: (assignEach es X.env).map (·.2) := by rfl) : PGs X (e :: es) (gCons t u) := by
  intro pins s σ H vs us Q I r h
  obtain ⟨v, vr, e1, h⟩ := h
  subst e1
  cases r with
  | cons r rr =>
    rw [hs]
    refine assignInOrder_cons (thn (h1 pins s σ H _ _ _ I r h) fun _ s1 ⟨σ1, H1, I1, q1⟩ => ?_)
    exact h2 pins s1 σ1 H1 _ _ Q I1 rr q1
def gTup (K : PySem.W.Frag) (n : Nat) (t : TGs) : TG := fun v σ H Q => ∃ a xs, v = .ref a ∧ SqT K H a xs ∧ xs.length = n ∧ t xs σ H Q
theorem pg_tup {es : List Expr} {k : Nat} {t : TGs} {n : Nat} (hc : X.calm = true) (h : PGs X es t)
    (hn : (assignEach es X.env).length = n := by rfl) (hst : (assignEach es X.env).findIdx? (·.1) = none := by rfl) : PG X (.Tuple es k pos) (gTup X.K n t) := by
  intro pins s σ H v u Q I r hw
  obtain ⟨a, xs, e1, hq, hl, hw⟩ := hw
  subst e1
  cases r
  obtain ⟨its, rv, ht, hz⟩ := I.tuple hq
  refine assign_Tuple_tuple (I.ok.hd hc) ht (by simp [hn, ← hl, rv.length]) hst fun h' hx => ?_
  have I1 : Inv X pins σ H { s with heap := h' } := I.kept (t' := s.toks) fun b o e => hx b o (Nat.ne_of_lt (Heap.lt_size e)) e
  exact h pins _ σ H xs _ Q I1 (by simpa using rv) hw
def gSub (to ti : TE) (t : TSet) : TG := fun v σ H Q => to σ H fun o H1 => ti σ H1 fun i H2 => t o i v H2 fun H3 => Q σ H3
theorem pg_sub {o i : Expr} {to ti : TE} {t : TSet} (ho : PE X o to) (hi : PE X i ti) (hs : PSet X t)
    (ha : ∀ v, assign (.Subscript o i pos) X.env v = (do
      let ov ← holding [v] (eval o X.env)
      let iv ← holding [v, ov] (eval i X.env)
      standAt pos
      holding [v, ov, iv] (setItem ov iv v)
      release [v, ov, iv] []) := by intro _; rfl) : PG X (.Subscript o i pos) (gSub to ti t) := by
  intro pins s σ H v u Q I r h
  rw [ha]
  refine wpAny_bind (wpAny_holding (thn (ho pins s σ H _ I h) fun ov s1 ⟨x, H1, I1, r1, q1⟩ => ?_))
  refine wpAny_bind (wpAny_holding (thn (hi pins s1 σ H1 _ I1 q1) fun iv s2 ⟨y, H2, I2, r2, q2⟩ => ?_))
  refine wpAny_bind (wpAny_standAt (wpAny_bind (wpAny_holding (thn (hs pins s2 σ H2 x y v ov iv u _ I2 r1 r2 r q2) fun _ s3 ⟨H3, I3, q3⟩ => ?_))))
  exact wpAny_release ⟨σ, H3, I3, q3⟩
def tAsg (te : TE) (g : TG) : TS := fun D σ H => te σ H fun x H1 => g x σ H1 D.nx
theorem ps_asg {tg e : Expr} {te : TE} {g : TG} (he : PE X e te) (hg : PG X tg g) (hs : swapsWithSole [tg] e pos.line X.env = pure false := by rfl) (hw : swappedStores [tg] e X.env = pure none := by rfl)
    (h1 : (assignEach [tg] X.env).map (·.2) = [assign tg X.env] := by rfl) : PS X (.Assign [tg] e pos) (tAsg te g) := by
  intro pins s σ H D I h
  refine wpAny_Assign_stores (thn (he pins s σ H _ I h) fun v s1 ⟨x, H1, I1, r1, q1⟩ => ?_) hs hw
  rw [h1]
  exact thn (hg pins s1 σ H1 x v _ I1 r1 q1) fun _ s2 q => q
theorem ps_set {i : Nat} {x : Str} {e : Expr} {te : TE} {pos' : Pos} (hN : X.N.Nodup) (hi : X.N[i]? = some x) (hx : Loc X.env.scope x) (he : PE X e te) (hs : swapsWith e (some (.Name x pos')) pos.line X.env = pure false := by rfl) (hf : X.fn x = true ∨ X.env.scope.names.lookup x = some .local := by first | exact .inl rfl | exact .inr rfl | assumption) :
    PS X (.Assign [.Name x pos'] e pos) (tAsg te (gName i)) := by
  intro pins s σ H D I h
  refine wpAny_Assign_Name (thn (he pins s σ H _ I h) fun v s1 ⟨y, H1, I1, r1, q1⟩ => ?_) hs
  exact store_ok I1 hN hi hx r1 (fun s2 I2 => ⟨_, H1, I2, q1⟩) hf
def tPar (i j : Nat) (ta : TA) : TS := fun D σ H => ta σ H fun vs H1 => ∃ v w, vs = [v, w] ∧ D.nx ((σ.set i (some v)).set j (some w)) H1
def tAug (i : Nat) (te : TE) (ti : TIp) : TS := fun D σ H => ∃ x, σ[i]? = some (some x) ∧ te σ H fun y H1 => ti x y H1 fun z H2 => D.nx (σ.set i (some z)) H2
def tAugS (to ti te : TE) (tget : V → V → Hp → VK → Prop) (tip : TIp) (tset : TSet) : TS := fun D σ H => to σ H fun o H1 => ti σ H1 fun i H2 => tget o i H2 fun x H3 => te σ H3 fun y H4 => tip x y H4 fun z H5 => tset o i z H5 fun H6 => D.nx σ H6
def PGet (X : Cx) (t : V → V → Hp → VK → Prop) : Prop :=
  ∀ (pins : List (Addr × Obj)) (s : Shared) (σ : St) (H : Hp) (o i : V) (ov iv : Value) (Q : VK), Inv X pins σ H s → RelV o ov → RelV i iv → t o i H Q →
    wpAny (model X.prog X.w) X.A (getItem ov iv) (EP X pins σ Q) X.xe s
theorem ps_augS {o i e : Expr} {to ti te : TE} {tget : V → V → Hp → VK → Prop} {tip : TIp} {tset : TSet} {op : Operator} {tpos : Pos} (ho : PE X o to) (hi : PE X i ti) (hg : PGet X tget) (he : PE X e te) (hp : PIp X op tip) (hs : PSet X tset)
    (ha : ∀ ov iv new, augStore i ov iv new = (do holding [new, ov, iv] (setItem ov iv new); release [new, ov, iv] []; pure .next) := by intros; rfl) : PS X (.AugAssign (.Subscript o i tpos) op e pos) (tAugS to ti te tget tip tset) := by
  intro pins s σ H D I h
  refine wpAny_AugAssign_SubscriptAny (thn (ho pins s σ H _ I h) fun ov s1 ⟨x1, H1, I1, r1, q1⟩ => ?_) ha
  refine thn (hi pins s1 σ H1 _ I1 q1) fun iv s2 ⟨x2, H2, I2, r2, q2⟩ => ?_
  refine thn (hg pins s2 σ H2 x1 x2 ov iv _ I2 r1 r2 q2) fun old s3 ⟨x3, H3, I3, r3, q3⟩ => ?_
  refine thn (he pins s3 σ H3 _ I3 q3) fun v s4 ⟨x4, H4, I4, r4, q4⟩ => ?_
  refine thn (hp pins s4 σ H4 x3 x4 old v _ I4 r3 r4 q4) fun new s5 ⟨x5, H5, I5, r5, q5⟩ => ?_
  exact thn (hs pins s5 σ H5 x1 x2 x5 ov iv new _ I5 r1 r2 r5 q5) fun _ s6 ⟨H6, I6, q6⟩ => ⟨σ, H6, I6, q6⟩
def ipI (f : Int → Int → Int) : TIp := fun x y H Q => ∃ i j, x = .int i ∧ y = .int j ∧ Q (.int (f i j)) H
theorem ip_add : PIp X .Add (ipI fun i j => i + j) := by
  intro pins s σ H x y v u Q I r1 r2 h
  obtain ⟨i, j, e1, e2, q⟩ := h
  subst e1; subst e2
  obtain ⟨t, rfl⟩ := r1
  obtain ⟨t', rfl⟩ := r2
  exact iadd_int ⟨.int _, H, I.tok _, ⟨_, rfl⟩, q⟩
theorem ip_sub : PIp X .Sub (ipI fun i j => i - j) := by
  intro pins s σ H x y v u Q I r1 r2 h
  obtain ⟨i, j, e1, e2, q⟩ := h
  subst e1; subst e2
  obtain ⟨t, rfl⟩ := r1
  obtain ⟨t', rfl⟩ := r2
  exact isub_int ⟨.int _, H, I.tok _, ⟨_, rfl⟩, q⟩
end
section
variable {X : Cx} {pos : Pos}
end
structure It where
  go : Nat → Hp → Prop
  yld : Nat → Hp → V → Hp → Prop
  stop : Nat → Hp → Prop
def FpOk (X : Cx) (pins : List (Addr × Obj)) (H : Hp) (b : Addr) : Prop :=
  H b = none ∧ b ≠ X.env.locals ∧ b ∉ X.fs ∧ (b ∈ X.ex ∨ X.s₀.heap.objs.size ≤ b) ∧ (∀ x c, X.env.cells.lookup x = some c → c ≠ b) ∧ ∀ p ∈ X.pn ++ pins, p.1 ≠ b
theorem Inv.fpOk {X : Cx} {pins : List (Addr × Obj)} {σ : St} {H H' : Hp} {s : Shared} {b : Addr} (I : Inv X pins σ H s) (hb : s.heap.objs.size ≤ b) (hn : H' b = none) : FpOk X pins H' b := by
  refine ⟨hn, Nat.ne_of_gt (Nat.lt_of_lt_of_le I.lt hb), I.nofs hb, .inr (Nat.le_trans I.sz hb), fun x c e z => ?_, fun p hp z => ?_⟩
  · obtain ⟨v, q⟩ := I.cell x c e
    exact absurd (Nat.lt_of_lt_of_le q.lt (by rw [z]; exact hb)) (Nat.lt_irrefl _)
  · exact absurd (Nat.lt_of_lt_of_le (Heap.lt_size (I.pin p hp).1) (by rw [z]; exact hb)) (Nat.lt_irrefl _)
structure Turn (P : Program) (w : World) (K : PySem.W.Frag) (tg : Expr) (J : It) (fp : List Addr) (it : Addr) (tn : Nat → Heap → Prop) : Prop where
  mem : it ∈ fp
  obj : ∀ i h, tn i h → ∀ b ∈ fp, ∃ o, h.get? b = some o ∧ ∀ v, o.data ≠ .cell v
  keep : ∀ i h h', tn i h → (∀ b ∈ fp, ∀ o, h.get? b = some o → h'.get? b = some o) → tn i h'
  item : ∀ (X : Cx), X.prog = P → X.w = w → X.K = K → X.calm = true → ∀ (i : Nat) (pins : List (Addr × Obj)) (s : Shared) (σ : St) (H : Hp) (E : Value → Shared → Prop), Inv X pins σ H s → (∀ b ∈ fp, FpOk X pins H b) → tn i s.heap → J.go i H →
    wpAny (model P w) X.A (pyNext (.ref it)) (fun r s1 => ∃ u, r = some u ∧
      wpAny (model P w) X.A (letOwnedTupleGo tg (.ref it) u) (fun _ s2 => ∃ x H', Inv X pins σ H' s2 ∧ RelV x u ∧ J.yld i H x H' ∧ tn (i + 1) s2.heap ∧ ∀ b ∈ fp, H' b = none) E s1) E s
  done : ∀ (X : Cx), X.prog = P → X.w = w → X.K = K → X.calm = true → ∀ (i : Nat) (pins : List (Addr × Obj)) (s : Shared) (σ : St) (H : Hp) (E : Value → Shared → Prop), Inv X pins σ H s → (∀ b ∈ fp, FpOk X pins H b) → tn i s.heap → J.stop i H →
    wpAny (model P w) X.A (pyNext (.ref it)) (fun r s1 => r = none ∧ Inv X pins σ H s1) E s
  self : ∀ (A : Around) (i : Nat) (s : Shared) (Q : Value → Shared → Prop) (E : Value → Shared → Prop), tn i s.heap → Q (.ref it) s → wpAny (model P w) A (pyIter (.ref it)) Q E s
abbrev TI := St → Hp → (It → Hp → Prop) → Prop
def PIE (X : Cx) (pins : List (Addr × Obj)) (σ : St) (tg : Expr) (R : It → Hp → Prop) (itv : Value) (s2 : Shared) : Prop :=
  ∃ (it : Addr) (fp : List Addr) (tn : Nat → Heap → Prop) (J : It) (H' : Hp), itv = .ref it ∧ Inv X pins σ H' s2 ∧ Turn X.prog X.w X.K tg J fp it tn ∧ tn 0 s2.heap ∧ (∀ b ∈ fp, FpOk X pins H' b) ∧ R J H'
def PI (X : Cx) (tg iter : Expr) (wi : TI) : Prop :=
  ∀ (pins : List (Addr × Obj)) (s : Shared) (σ : St) (H : Hp) (R : It → Hp → Prop), Inv X pins σ H s → wi σ H R →
    wpAny (model X.prog X.w) X.A (eval iter X.env) (fun v s1 => wpAny (model X.prog X.w) X.A (pyIter v) (PIE X pins σ tg R) X.xe s1) X.xe s
theorem go_of {M : Model} {A : Around} {E : Value → Shared → Prop} {s : Shared} {tg : Expr} {it : Addr} {u : Value} {o : Obj} {n : String} {vs : Array Value} {Q : Unit → Shared → Prop} (ho : s.heap.get? it = some o) (hc : o.cls = .type n) (hd : o.data = .fields vs)
    (hn : ["enumerate", "zip", "dict_itemiterator", "dict_reverseitemiterator", "odict_iterator", "itertools.zip_longest", "itertools.pairwise"].contains n = false) (hQ : Q () s) : wpAny M A (letOwnedTupleGo tg (.ref it) u) Q E s := by
  unfold letOwnedTupleGo
  cases tg <;> first
    | exact wpAny_pure hQ
    | (cases u <;> first
        | exact wpAny_pure hQ
        | (refine wpAny_bind (wpAny_load ho ?_)
           rw [hc, hd]
           show wpAny M A (if (["enumerate", "zip", "dict_itemiterator", "dict_reverseitemiterator", "odict_iterator", "itertools.zip_longest", "itertools.pairwise"].contains n && vs[0]? == some (rawInt _)) = true then _ else _) Q E s
           rw [if_neg (by intro h; rw [hn, Bool.false_and] at h; cases h)]
           exact wpAny_pure hQ))
def Itl (K : PySem.W.Frag) (a : Addr) : It :=
  ⟨fun i H => ∃ xs x, SqL K H a xs ∧ xs[i]? = some x, fun i H x H' => H' = H ∧ ∀ xs, SqL K H a xs → xs[i]? = some x, fun i H => ∃ xs, SqL K H a xs ∧ xs.length ≤ i⟩
def Itt (K : PySem.W.Frag) (a : Addr) : It :=
  ⟨fun i H => ∃ xs x, SqT K H a xs ∧ xs[i]? = some x, fun i H x H' => H' = H ∧ ∀ xs, SqT K H a xs → xs[i]? = some x, fun i H => ∃ xs, SqT K H a xs ∧ xs.length ≤ i⟩
def Itr (lo : Int) (n : Nat) : It := ⟨fun i _ => i < n, fun i H x H' => H' = H ∧ x = .int (lo + i), fun i _ => n ≤ i⟩
theorem turn_list {P : Program} {w : World} {K : PySem.W.Frag} {tg : Expr} (a it : Addr) : Turn P w K tg (Itl K a) [it] it (fun i h => h.IsListIter it a i) where
  mem := by simp
  obj := fun i h st b hb => by
    have e : b = it := by simpa using hb
    subst e
    obtain ⟨o, e, c, d⟩ := st
    exact ⟨o, e, fun v z => by rw [d] at z; cases z⟩
  keep := fun i h h' st k => st.at fun o e => k it (by simp) o e
  item := by
    intro X hP hw hK hc i pins s σ H E I hf st hg
    subst hP hw hK
    obtain ⟨xs, x, hq, hx⟩ := hg
    obtain ⟨its, rv, p, hz⟩ := I.list hq
    obtain ⟨u, hu, ru⟩ := rv.get hx
    obtain ⟨f0, f1, f2, f3, f4, f5⟩ := hf it (by simp)
    refine wpAny_pyNext_list_item st p.isList (x := u) (by simpa using hu) fun h' st' sb => ?_
    have I1 : Inv X pins σ H { s with heap := h' } := I.turned (t' := s.toks) (fun b o hb e => (sb.2 b hb).trans e) f0 f1 f3 f4 f5
    obtain ⟨o, e, c, d⟩ := id st'
    exact ⟨u, rfl, go_of (s := { s with heap := h' }) e c d (by decide) ⟨x, H, I1, ru, ⟨rfl, fun ys hy => by rw [I.list_inj hy hq]; exact hx⟩, st', fun b hb => (hf b hb).1⟩⟩
  done := by
    intro X hP hw hK hc i pins s σ H E I hf st hg
    subst hP hw hK
    obtain ⟨xs, hq, hx⟩ := hg
    obtain ⟨its, rv, p, hz⟩ := I.list hq
    obtain ⟨f0, f1, f2, f3, f4, f5⟩ := hf it (by simp)
    have hl := rv.length
    exact wpAny_pyNext_list_end (I.ok.hd hc) st p.isList (by simp; omega) fun h' eb => ⟨rfl, I.turned (t' := s.toks) (fun b o hb e => eb b o hb e) f0 f1 f3 f4 f5⟩
  self := fun _ _ _ _ _ st h => wpAny_pyIter_listiter st h
theorem turn_tuple {P : Program} {w : World} {K : PySem.W.Frag} {tg : Expr} (a it : Addr) : Turn P w K tg (Itt K a) [it] it (fun i h => h.IsTupleIter it a i) where
  mem := by simp
  obj := fun i h st b hb => by
    have e : b = it := by simpa using hb
    subst e
    obtain ⟨o, e, c, d⟩ := st
    exact ⟨o, e, fun v z => by rw [d] at z; cases z⟩
  keep := fun i h h' st k => st.at fun o e => k it (by simp) o e
  item := by
    intro X hP hw hK hc i pins s σ H E I hf st hg
    subst hP hw hK
    obtain ⟨xs, x, hq, hx⟩ := hg
    obtain ⟨its, rv, p, hz⟩ := I.tuple hq
    obtain ⟨u, hu, ru⟩ := rv.get hx
    obtain ⟨f0, f1, f2, f3, f4, f5⟩ := hf it (by simp)
    refine wpAny_pyNext_tuple_item st (show s.heap.IsTuple a its.toArray from p) (x := u) (by simpa using hu) fun h' st' sb => ?_
    have I1 : Inv X pins σ H { s with heap := h' } := I.turned (t' := s.toks) (fun b o hb e => (sb.2 b hb).trans e) f0 f1 f3 f4 f5
    obtain ⟨o, e, c, d⟩ := id st'
    exact ⟨u, rfl, go_of (s := { s with heap := h' }) e c d (by decide) ⟨x, H, I1, ru, ⟨rfl, fun ys hy => by rw [I.tuple_inj hy hq]; exact hx⟩, st', fun b hb => (hf b hb).1⟩⟩
  done := by
    intro X hP hw hK hc i pins s σ H E I hf st hg
    subst hP hw hK
    obtain ⟨xs, hq, hx⟩ := hg
    obtain ⟨its, rv, p, hz⟩ := I.tuple hq
    obtain ⟨f0, f1, f2, f3, f4, f5⟩ := hf it (by simp)
    have hl := rv.length
    exact wpAny_pyNext_tuple_end (I.ok.hd hc) st (show s.heap.IsTuple a its.toArray from p) (by simp; omega) fun h' eb => ⟨rfl, I.turned (t' := s.toks) (fun b o hb e => eb b o hb e) f0 f1 f3 f4 f5⟩
  self := fun _ _ _ _ _ st h => wpAny_pyIter_tupleiter st h
theorem turn_range {P : Program} {w : World} {K : PySem.W.Frag} {tg : Expr} (it : Addr) (lo : Int) (n : Nat) : Turn P w K tg (Itr lo n) [it] it (fun i h => IsRangeIter h it (lo + (i : Nat) * 1) ((n : Int) - (i : Nat)) 1) where
  mem := by simp
  obj := fun i h st b hb => by
    have e : b = it := by simpa using hb
    subst e
    exact ⟨_, st, fun v z => by
      have z' : Data.fields _ = Data.cell v := z
      cases z'⟩
  keep := fun i h h' st k => k it (by simp) _ st
  item := by
    intro X hP hw hK hc i pins s σ H E I hf st hg
    subst hP hw hK
    obtain ⟨f0, f1, f2, f3, f4, f5⟩ := hf it (by simp)
    have W := Walks.range (prog := X.prog) (w := X.w) (I.ok.hd hc) it lo 1 n
    refine W.item i s _ _ hg st fun v h' tk hv st' kk => ?_
    obtain ⟨t, rfl⟩ := hv
    have I1 : Inv X pins σ H { s with heap := h', toks := tk } := I.turned (fun b o hb e => kk b o (by simpa using hb) e) f0 f1 f3 f4 f5
    refine ⟨_, rfl, go_of (s := { s with heap := h', toks := tk }) (n := "range_iterator") st' rfl rfl (by decide) ⟨.int (lo + i), H, I1, ⟨t, ?_⟩, ⟨rfl, rfl⟩, st', fun b hb => (hf b hb).1⟩⟩
    rw [Int.mul_one]
  done := by
    intro X hP hw hK hc i pins s σ H E I hf st hg
    subst hP hw hK
    obtain ⟨f0, f1, f2, f3, f4, f5⟩ := hf it (by simp)
    exact wpAny_pyNext_range_end (I.ok.hd hc) st (by have : n ≤ i := hg; omega) fun h' eb => ⟨rfl, I.turned (t' := s.toks) (fun b o hb e => eb b o hb e) f0 f1 f3 f4 f5⟩
  self := fun _ _ _ _ _ st h => wpAny_pyIter_rangeiter st h
end L2
namespace L2
open PySem PySem.Spec PyProof.Rows
section
variable {X : Cx} {tg : Expr}
theorem range_it {pins : List (Addr × Obj)} {σ : St} {H : Hp} {s : Shared} {R : It → Hp → Prop} {E : Value → Shared → Prop} {lo hi : Int} {t u v : Tok} {tk : Nat} (I : Inv X pins σ H s) (h1 : -(2 ^ 62) ≤ lo) (h2 : lo < 2 ^ 62) (h3 : -(2 ^ 62) ≤ hi) (h4 : hi < 2 ^ 62)
    (q : R (Itr lo (hi - lo).toNat) H) : wpAny (model X.prog X.w) X.A (pyIter (.ref s.heap.objs.size)) (PIE X pins σ tg R) E { s with heap := s.heap.push { cls := .type "range", data := .fields #[.int lo t, .int hi u, .int 1 v] }, toks := tk } := by
  refine wpAny_pyIter_range (IsRange.new ..) (small_one h1 h2 h3 h4) ?_
  have I1 : Inv X pins σ H { s with heap := s.heap.push { cls := .type "range", data := .fields #[.int lo t, .int hi u, .int 1 v] }, toks := tk } := I.kept fun b o e => Heap.get?_push_of_some _ e
  refine ⟨(s.heap.push { cls := .type "range", data := .fields #[.int lo t, .int hi u, .int 1 v] }).objs.size, [(s.heap.push { cls := .type "range", data := .fields #[.int lo t, .int hi u, .int 1 v] }).objs.size], _, _, H, rfl,
    I1.kept (t' := tk) fun b o e => Heap.get?_push_of_some _ e, turn_range _ lo (hi - lo).toNat, ?_, fun b hb => ?_, q⟩
  · have e1 : lo + ((0 : Nat) : Int) * 1 = lo := by simp
    have e2 : (((hi - lo).toNat : Nat) : Int) - ((0 : Nat) : Int) = Builtin.Range.rangeSize lo hi 1 := by rw [rangeSize_one]; split <;> omega
    show IsRangeIter _ _ (lo + ((0 : Nat) : Int) * 1) ((((hi - lo).toNat : Nat) : Int) - ((0 : Nat) : Int)) 1
    rw [e1, e2]
    exact Heap.get?_push_size _ rfl
  · have e : b = (s.heap.push { cls := .type "range", data := .fields #[.int lo t, .int hi u, .int 1 v] }).objs.size := by simpa using hb
    subst e
    exact I1.fpOk (Nat.le_refl _) (I1.hok.fresh (Nat.le_refl _))
def iRng1 (ta : TA) : TI := fun σ H R => ta σ H fun vs H1 => ∃ j : Int, vs = [.int j] ∧ -(2 ^ 62) ≤ j ∧ j < 2 ^ 62 ∧ R (Itr 0 j.toNat) H1
def iRng2 (ta : TA) : TI := fun σ H R => ta σ H fun vs H1 => ∃ i j : Int, vs = [.int i, .int j] ∧ (-(2 ^ 62) ≤ i ∧ i < 2 ^ 62 ∧ -(2 ^ 62) ≤ j ∧ j < 2 ^ 62) ∧ R (Itr i (j - i).toNat) H1
theorem pi_range1 {a : Expr} {ta : TA} {p pos : Pos} (hg : Gl X "range") (hm : X.mg "range" = none) (ha : PA X [a] ta) (hs : starEach [a] X.env = [(false, eval a X.env)] := by rfl) : PI X tg (.Call (.Name "range" p) [a] [] pos) (iRng1 ta) := by
  intro pins s σ H R I h
  refine Call_ (ld_blt I hg hm boot_range (PyProof.Rows.callWith_type1 (thn (ha pos pins s σ H _ I h) fun us s1 ⟨vs, H1, I1, r1, q1⟩ => ?_) hs rfl))
  obtain ⟨j, e, q1, q2, q⟩ := q1
  subst e
  cases r1 with
  | cons r rr =>
    cases rr
    obtain ⟨t, rfl⟩ := r
    exact call_range_1 (range_it I1 (by omega) (by omega) q1 q2 (by simpa using q))
theorem pi_range2 {a b : Expr} {ta : TA} {p pos : Pos} (hg : Gl X "range") (hm : X.mg "range" = none) (ha : PA X [a, b] ta) (hs : starEach [a, b] X.env = [(false, eval a X.env), (false, eval b X.env)] := by rfl) (hs2 : starEach [b] X.env = [(false, eval b X.env)] := by rfl) :
    PI X tg (.Call (.Name "range" p) [a, b] [] pos) (iRng2 ta) := by
  intro pins s σ H R I h
  refine Call_ (ld_blt I hg hm boot_range (PyProof.Rows.callWith_type1 (thn (ha pos pins s σ H _ I h) fun us s1 ⟨vs, H1, I1, r1, q1⟩ => ?_) (by rw [hs, hs2]) (by rw [hs2]; rfl)))
  obtain ⟨i, j, e, ⟨q1, q2, q3, q4⟩, q⟩ := q1
  subst e
  cases r1 with
  | cons r rr =>
    cases rr with
    | cons r' rr =>
      cases rr
      obtain ⟨t, rfl⟩ := r
      obtain ⟨t', rfl⟩ := r'
      exact call_range_2 (range_it I1 q1 q2 q3 q4 q)
def tFor (wi : TI) (g : TG) (tb : TS) : TS := fun D σ H => wi σ H fun J H1 => ∃ W : Nat → Nat → St → Hp → Prop, (∃ m, W 0 m σ H1) ∧ ∀ i m σ H, W i m σ H →
  (J.stop i H ∧ D.nx σ H) ∨ (J.go i H ∧ ∃ N : St → Hp → Prop, (∀ σ' H', N σ' H' → ∃ m', m' < m ∧ W (i + 1) m' σ' H') ∧ ∀ x H', J.yld i H x H' → g x σ H' fun σ2 H2 => tb { D with nx := N, ct := N, bk := D.nx } σ2 H2)
def pinsAt (fp : List Addr) (h : Heap) : List (Addr × Obj) := fp.filterMap fun b => (h.get? b).map fun o => (b, o)
theorem mem_pinsAt {fp : List Addr} {h : Heap} {b : Addr} {o : Obj} (hb : b ∈ fp) (e : h.get? b = some o) : (b, o) ∈ pinsAt fp h := List.mem_filterMap.mpr ⟨b, hb, by rw [e]; rfl⟩
theorem of_pinsAt {fp : List Addr} {h : Heap} {p : Addr × Obj} (hp : p ∈ pinsAt fp h) : p.1 ∈ fp ∧ h.get? p.1 = some p.2 := by
  obtain ⟨b, hb, e⟩ := List.mem_filterMap.mp hp
  cases q : h.get? b with
  | none => rw [q] at e; cases e
  | some o =>
    rw [q] at e
    have e' : (b, o) = p := Option.some.inj e
    subst e'
    exact ⟨hb, q⟩
theorem Inv.pinned {pins : List (Addr × Obj)} {σ : St} {H : Hp} {s : Shared} {fp : List Addr} (I : Inv X pins σ H s) (hf : ∀ b ∈ fp, FpOk X pins H b) (ho : ∀ b ∈ fp, ∃ o, s.heap.get? b = some o ∧ ∀ v, o.data ≠ .cell v) : Inv X (pins ++ pinsAt fp s.heap) σ H s :=
  I.pins_of fun p hp => (List.mem_append.mp hp).elim (fun z => I.pin p (List.mem_append_right _ z)) fun z => by
    obtain ⟨hb, e⟩ := of_pinsAt z
    obtain ⟨f0, f1, f2, _⟩ := hf p.1 hb
    obtain ⟨o, e', d⟩ := ho p.1 hb
    rw [e] at e'; cases e'
    exact ⟨e, f0, f1, f2, d⟩
theorem Inv.unpinned {pins pl : List (Addr × Obj)} {σ : St} {H : Hp} {s : Shared} (I : Inv X (pins ++ pl) σ H s) : Inv X pins σ H s := I.pins_of fun p hp => I.pin p (List.mem_append_right _ (List.mem_append_left _ hp))
theorem ps_for {iter : Expr} {body : List Stmt} {wi : TI} {g : TG} {tb : TS} {pos : Pos} (hp : PassesOwn (model X.prog X.w) X.A X.env X.xe) (hc : X.calm = true) (hi : PI X tg iter wi) (hg : PG X tg g) (hb : PSs X body tb)
    (hs : ∀ x, foldedSetIterable iter X.env x = pure x := by intro _; rfl) : PS X (.For tg iter body [] pos) (tFor wi g tb) := by
  intro pins s σ H D I h
  refine wpAny_For (thn (hi pins s σ H _ I h) fun v s1 h1 => thn h1 fun itv s2 h2 => ?_) hs
  obtain ⟨it, fp, tn, J, H2, e, I2, T, st2, f2, W, ⟨m0, w0⟩, turn⟩ := h2
  subst e
  have stat : ∀ {H' : Hp}, (∀ b ∈ fp, H' b = none) → ∀ b ∈ fp, FpOk X pins H' b := fun hn b hb => ⟨hn b hb, (f2 b hb).2⟩
  refine codeAny_forLoop_any (fun n s' => ∃ i σ' H', Inv X pins σ' H' s' ∧ tn i s'.heap ∧ (∀ b ∈ fp, H' b = none) ∧ W i n σ' H') ?_ m0 ⟨0, σ, H2, I2, st2, fun b hb => (f2 b hb).1, w0⟩
  rintro n s3 ⟨i, σ3, H3, I3, st3, fr3, w3⟩
  rcases turn i n σ3 H3 w3 with ⟨stop, qn⟩ | ⟨go, N, hN, step⟩
  · refine wpAny_passesOwn hp (thn (T.done X rfl rfl rfl hc i pins s3 σ3 H3 X.xe I3 (stat fr3) st3 stop) fun r s4 ⟨hr, I4⟩ => ?_)
    subst hr
    exact wpAny_execs_nil ⟨σ3, H3, I4, qn⟩
  · refine wpAny_passesOwn hp (thn (T.item X rfl rfl rfl hc i pins s3 σ3 H3 X.xe I3 (stat fr3) st3 go) fun r s4 ⟨u, hr, h4⟩ => ?_)
    subst hr
    refine wpAny_passesOwn hp (thn h4 fun _ s5 ⟨x, H5, I5, r5, y5, st5, fr5⟩ => ?_)
    have I5' := I5.pinned (stat fr5) (T.obj _ _ st5)
    refine wpAny_passesOwn hp (thn (hg _ s5 σ3 H5 x u _ I5' r5 (step x H5 y5)) fun _ s6 ⟨σ6, H6, I6, q6⟩ => ?_)
    refine wpAny_passesOwn hp (thn (hb _ s6 σ6 H6 _ I6 q6) fun f s7 q7 => ?_)
    have again : ∀ {σ7 : St} {H7 : Hp}, Inv X (pins ++ pinsAt fp s5.heap) σ7 H7 s7 → N σ7 H7 → ∃ m, m < n ∧ ∃ i σ' H', Inv X pins σ' H' s7 ∧ tn i s7.heap ∧ (∀ b ∈ fp, H' b = none) ∧ W i m σ' H' := fun {σ7 H7} I7 n7 => by
      obtain ⟨m', hm, w7⟩ := hN σ7 H7 n7
      refine ⟨m', hm, i + 1, σ7, H7, I7.unpinned, T.keep _ _ _ st5 fun b hb o e => (I7.pin (b, o) (List.mem_append_right _ (List.mem_append_right _ (mem_pinsAt hb e)))).1, fun b hb => ?_, w7⟩
      obtain ⟨o, e, d⟩ := T.obj _ _ st5 b hb
      exact (I7.pin (b, o) (List.mem_append_right _ (List.mem_append_right _ (mem_pinsAt hb e)))).2.1
    cases f with
    | next => obtain ⟨σ7, H7, I7, n7⟩ := q7; exact again I7 n7
    | cont => obtain ⟨σ7, H7, I7, n7⟩ := q7; exact again I7 n7
    | brk => obtain ⟨σ7, H7, I7, q7⟩ := q7; exact ⟨σ7, H7, I7.unpinned, q7⟩
    | ret v => obtain ⟨x7, σ7, H7, I7, r7, q7⟩ := q7; exact ⟨x7, σ7, H7, I7.unpinned, r7, q7⟩
end
theorem for_range {lo : Int} {n : Nat} {g : TG} {tb : TS} {D : Ends} {σ : St} {H : Hp} (Pv : Nat → St → Hp → Prop) (h0 : Pv 0 σ H)
    (hs : ∀ i σ H, i < n → Pv i σ H → g (.int (lo + i)) σ H fun σ2 H2 => tb { D with nx := Pv (i + 1), ct := Pv (i + 1), bk := D.nx } σ2 H2) (hd : ∀ σ H, Pv n σ H → D.nx σ H) :
    ∃ W : Nat → Nat → St → Hp → Prop, (∃ m, W 0 m σ H) ∧ ∀ i m σ H, W i m σ H →
      ((Itr lo n).stop i H ∧ D.nx σ H) ∨ ((Itr lo n).go i H ∧ ∃ N : St → Hp → Prop, (∀ σ' H', N σ' H' → ∃ m', m' < m ∧ W (i + 1) m' σ' H') ∧ ∀ x H', (Itr lo n).yld i H x H' → g x σ H' fun σ2 H2 => tb { D with nx := N, ct := N, bk := D.nx } σ2 H2) := by
  refine ⟨fun i m σ H => m = n - i ∧ i ≤ n ∧ Pv i σ H, ⟨n, by simp, Nat.zero_le _, h0⟩, ?_⟩
  rintro i m σ H ⟨rfl, hi, p⟩
  by_cases hlt : i < n
  · refine .inr ⟨hlt, Pv (i + 1), fun σ' H' p' => ⟨n - (i + 1), by omega, rfl, hlt, p'⟩, fun x H' y => ?_⟩
    obtain ⟨e, y⟩ := y
    subst e y
    exact hs i σ _ hlt p
  · have e : i = n := by omega
    subst e
    exact .inl ⟨Nat.le_refl _, hd σ H p⟩
end L2
namespace L2
open PySem PySem.Spec PyProof.Rows
abbrev R2 := V → V → Hp → VK → Prop
def OpR (X : Cx) (f : Value → Value → Sem Value) (r : R2) : Prop :=
  ∀ (pins : List (Addr × Obj)) (s : Shared) (σ : St) (H : Hp) (x y : V) (v u : Value) (Q : VK), Inv X pins σ H s → RelV x v → RelV y u → r x y H Q →
    wpAny (model X.prog X.w) X.A (f v u) (EP X pins σ Q) X.xe s
def UnR (X : Cx) (f : Value → Sem Value) (r : V → Hp → VK → Prop) : Prop :=
  ∀ (pins : List (Addr × Obj)) (s : Shared) (σ : St) (H : Hp) (x : V) (v : Value) (Q : VK), Inv X pins σ H s → RelV x v → r x H Q →
    wpAny (model X.prog X.w) X.A (f v) (EP X pins σ Q) X.xe s
def CallR (X : Cx) (f : Value) (r : List V → Hp → VK → Prop) : Prop :=
  ∀ (pins : List (Addr × Obj)) (s : Shared) (σ : St) (H : Hp) (xs : List V) (us : List Value) (Q : VK), Inv X pins σ H s → Vals xs us → r xs H Q →
    wpAny (model X.prog X.w) X.A (call f us) (EP X pins σ Q) X.xe s
def tOp (r : R2) (ta tb : TE) : TE := fun σ H Q => ta σ H fun x H1 => tb σ H1 fun y H2 => r x y H2 Q
def tUn (r : V → Hp → VK → Prop) (ta : TE) : TE := fun σ H Q => ta σ H fun x H1 => r x H1 Q
def rI (C : Int → Int → Prop) (g : Int → Int → V) : R2 := fun x y H Q => ∃ i j, x = .int i ∧ y = .int j ∧ C i j ∧ Q (g i j) H
def rI0 (g : Int → Int → V) : R2 := fun x y H Q => ∃ i j, x = .int i ∧ y = .int j ∧ Q (g i j) H
def rU (g : Int → V) : V → Hp → VK → Prop := fun x H Q => ∃ i, x = .int i ∧ Q (g i) H
section
variable {X : Cx} {a b c : Expr} {ta tb tc : TE} {pos : Pos}
theorem binT (ha : PE X a ta) (hb : PE X b tb) {pins : List (Addr × Obj)} {s : Shared} {σ : St} {H : Hp} {R : V → V → Hp → Prop} (I : Inv X pins σ H s)
    (h : ta σ H fun x H1 => tb σ H1 fun y H2 => R x y H2) {Q : Value → Shared → Prop} {f : Value → Value → Sem Value}
    (hf : ∀ v u s2 x y H2, Inv X pins σ H2 s2 → RelV x v → RelV y u → R x y H2 → wpAny (model X.prog X.w) X.A (f v u) Q X.xe s2) :
    wpAny (model X.prog X.w) X.A (eval a X.env) (fun v s₁ => wpAny (model X.prog X.w) X.A (eval b X.env) (fun u s₂ => wpAny (model X.prog X.w) X.A (f v u) Q X.xe s₂) X.xe s₁) X.xe s := by
  refine thn (ha pins s σ H _ I h) fun v s1 ⟨x, H1, I1, r1, q1⟩ => ?_
  refine thn (hb pins s1 σ H1 _ I1 q1) fun u s2 ⟨y, H2, I2, r2, q2⟩ => ?_
  exact hf v u s2 x y H2 I2 r1 r2 q2
theorem pe_op {op : Operator} {r : R2} (ho : OpR X (binaryOp op) r) (ha : PE X a ta) (hb : PE X b tb) : PE X (.BinOp a op b pos) (tOp r ta tb) := by
  intro pins s σ H Q I h
  exact wpAny_BinOp (binT ha hb I h fun v u s2 x y H2 I2 rx ry q => ho pins s2 σ H2 x y v u Q I2 rx ry q)
theorem pe_un {op : UnaryOp} {r : V → Hp → VK → Prop} (ho : UnR X (unaryOp op) r) (ha : PE X a ta) : PE X (.UnaryOp op a pos) (tUn r ta) := by
  intro pins s σ H Q I h
  exact UnaryOp_ (thn (ha pins s σ H _ I h) fun v s1 ⟨x, H1, I1, r1, q1⟩ => ho pins s1 σ H1 x v Q I1 r1 q1)
theorem opI {f : Value → Value → Sem Value} {C : Int → Int → Prop} {g : Int → Int → Int}
    (rule : ∀ (i j : Int) (t u : Tok) (s : Shared) (Q : Value → Shared → Prop) (E : Value → Shared → Prop), C i j → Q (.int (g i j) s.toks) { s with toks := s.toks + 1 } → wpAny (model X.prog X.w) X.A (f (.int i t) (.int j u)) Q E s) :
    OpR X f (rI C fun i j => .int (g i j)) := by
  intro pins s σ H x y v u Q I rx ry h
  obtain ⟨i, j, rfl, rfl, hc, q⟩ := h
  obtain ⟨t, rfl⟩ := rx
  obtain ⟨t', rfl⟩ := ry
  exact rule i j t t' s _ _ hc ⟨.int (g i j), H, I.tok _, ⟨_, rfl⟩, q⟩
theorem opI0 {f : Value → Value → Sem Value} {g : Int → Int → Int}
    (rule : ∀ (i j : Int) (t u : Tok) (s : Shared) (Q : Value → Shared → Prop) (E : Value → Shared → Prop), Q (.int (g i j) s.toks) { s with toks := s.toks + 1 } → wpAny (model X.prog X.w) X.A (f (.int i t) (.int j u)) Q E s) :
    OpR X f (rI0 fun i j => .int (g i j)) := by
  intro pins s σ H x y v u Q I rx ry h
  obtain ⟨i, j, rfl, rfl, q⟩ := h
  obtain ⟨t, rfl⟩ := rx
  obtain ⟨t', rfl⟩ := ry
  exact rule i j t t' s _ _ ⟨.int (g i j), H, I.tok _, ⟨_, rfl⟩, q⟩
theorem opB0 {f : Value → Value → Sem Value} {g : Int → Int → Bool}
    (rule : ∀ (i j : Int) (t u : Tok) (s : Shared) (Q : Value → Shared → Prop) (E : Value → Shared → Prop), Q (.bool (g i j)) s → wpAny (model X.prog X.w) X.A (f (.int i t) (.int j u)) Q E s) :
    OpR X f (rI0 fun i j => .bl (g i j)) := by
  intro pins s σ H x y v u Q I rx ry h
  obtain ⟨i, j, rfl, rfl, q⟩ := h
  obtain ⟨t, rfl⟩ := rx
  obtain ⟨t', rfl⟩ := ry
  exact rule i j t t' s _ _ ⟨.bl (g i j), H, I, rfl, q⟩
def CDiv (i j : Int) : Prop := 0 < j ∧ j < 1073741824
def CPow (i j : Int) : Prop := 0 ≤ j ∧ j ≤ 1000000 ∧ i.natAbs < 2 ^ 64
def CMul (i j : Int) : Prop := (-(2 ^ 64) < i ∧ i < 2 ^ 64) ∨ (-(2 ^ 64) < j ∧ j < 2 ^ 64)
theorem CMul.ok {i j : Int} (h : CMul i j) : IntMulOk i j := by
  rcases h with ⟨h1, h2⟩ | ⟨h1, h2⟩
  · exact .of_left (intBits_le_64 h1 h2)
  · exact .of_right (intBits_le_64 h1 h2)
theorem two_pow_nn (k : Nat) : (0 : Int) ≤ 2 ^ k := by
  rw [two_pow_cast]
  exact Int.natCast_nonneg _
theorem op_add : OpR X (binaryOp .Add) (rI0 fun i j => .int (i + j)) := opI0 fun _ _ _ _ _ _ _ q => add_int q
theorem op_sub : OpR X (binaryOp .Sub) (rI0 fun i j => .int (i - j)) := opI0 fun _ _ _ _ _ _ _ q => sub_int q
theorem op_mul : OpR X (binaryOp .Mult) (rI CMul fun i j => .int (i * j)) := opI fun _ _ _ _ _ _ _ hc q => mul_int q hc.ok
theorem op_fdiv : OpR X (binaryOp .FloorDiv) (rI CDiv fun i j => .int (i / j)) := opI fun i j _ _ _ _ _ hc q => by
  have h1 : (0 : Int) < j := hc.1
  have h2 : j < 1073741824 := hc.2
  exact floordiv_int (by omega) (by rw [Int.fdiv_eq_ediv_of_nonneg i (by omega)]; exact q) (.inl (PyProof.noPylong_small (by omega)))
theorem op_mod : OpR X (binaryOp .Mod) (rI (fun _ j => 0 < j) fun i j => .int (i % j)) := opI fun i j _ _ _ _ _ hc q => by
  have h1 : (0 : Int) < j := hc
  exact mod_int' (by omega) (by rw [Int.fmod_eq_emod_of_nonneg i (by omega)]; exact q)
theorem op_pow : OpR X (binaryOp .Pow) (rI CPow fun i j => .int (i ^ j.toNat)) := opI fun _ _ _ _ _ _ _ hc q => pow_int_small hc.1 hc.2.1 hc.2.2 q
theorem op_shl : OpR X (binaryOp .LShift) (rI CPow fun i j => .int (i * 2 ^ j.toNat)) := opI fun _ _ _ _ _ _ _ hc q => lshift_int_small hc.1 hc.2.1 hc.2.2 q
theorem op_shr : OpR X (binaryOp .RShift) (rI (fun _ j => 0 ≤ j) fun i j => .int (i / 2 ^ j.toNat)) := opI fun i j _ _ _ _ _ hc q =>
  rshift_int hc (by rw [Int.fdiv_eq_ediv_of_nonneg i (two_pow_nn _)]; exact q)
theorem op_and : OpR X (binaryOp .BitAnd) (rI0 fun i j => .int (Builtin.bitAnd i j)) := opI0 fun _ _ _ _ _ _ _ q => and_int q
theorem unI {f : Value → Sem Value} {g : Int → Int}
    (rule : ∀ (i : Int) (t : Tok) (s : Shared) (Q : Value → Shared → Prop) (E : Value → Shared → Prop), Q (.int (g i) s.toks) { s with toks := s.toks + 1 } → wpAny (model X.prog X.w) X.A (f (.int i t)) Q E s) :
    UnR X f (rU fun i => .int (g i)) := by
  intro pins s σ H x v Q I rx h
  obtain ⟨i, rfl, q⟩ := h
  obtain ⟨t, rfl⟩ := rx
  exact rule i t s _ _ ⟨.int (g i), H, I.tok _, ⟨_, rfl⟩, q⟩
theorem un_neg : UnR X (unaryOp .USub) (rU fun i => .int (-i)) := unI fun _ _ _ _ _ q => neg_int q
end
def scal : V → V → Bool
  | .non, .non => true | .non, .int _ => true | .int _, .non => true | .non, .bl _ => true | .bl _, .non => true | .non, .str _ => true | .str _, .non => true
  | .int _, .int _ => true | .bl _, .bl _ => true | .str _, .str _ => true | .byt _, .byt _ => true
  | .int _, .str _ => true | .str _, .int _ => true | .bl _, .str _ => true | .str _, .bl _ => true
  | _, _ => false
def rEq : R2 := fun x y H Q => scal x y = true ∧ Q (.bl (decide (x = y))) H
def rNe : R2 := fun x y H Q => scal x y = true ∧ Q (.bl (!decide (x = y))) H
theorem dec_int {i j : Int} : decide (V.int i = V.int j) = (i == j) := by
  rw [Bool.eq_iff_iff]
  simp
theorem dec_bl {i j : Bool} : decide (V.bl i = V.bl j) = (i == j) := by
  rw [Bool.eq_iff_iff]
  simp
theorem dec_str {i j : Str} : decide (V.str i = V.str j) = (i == j) := by
  rw [Bool.eq_iff_iff]
  simp
theorem dec_byt {i j : Array UInt8} : decide (V.byt i = V.byt j) = (i.toList == j.toList) := by
  rw [Bool.eq_iff_iff]
  cases i
  cases j
  simp
section
variable {X : Cx} {a b c : Expr} {ta tb tc : TE} {pos : Pos}
theorem fin_bl {pins : List (Addr × Obj)} {σ : St} {H : Hp} {s : Shared} {Q : VK} {k k' : Bool} (I : Inv X pins σ H s) (q : Q (.bl k) H) (e : k = k') : EP X pins σ Q (.bool k') s := by
  subst e
  exact ⟨.bl k, H, I, rfl, q⟩
theorem op_eq : OpR X (compareOp .Eq) rEq := by
  intro pins s σ H x y v u Q I rx ry h
  obtain ⟨hs, q⟩ := h
  cases x with
  | non =>
    cases rx
    cases y with
    | non => cases ry; exact PySem.EqNone.eq_none_none (fin_bl I q (by simp))
    | bl j => cases ry; exact PySem.EqNone.eq_none_bool (fin_bl I q (by simp))
    | int j => obtain ⟨t', rfl⟩ := ry; exact PySem.EqNone.eq_none_int (fin_bl I q (by simp))
    | str j => obtain ⟨t', rfl⟩ := ry; exact PySem.EqNone.eq_none_str (fin_bl I q (by simp))
    | _ => exact absurd (show false = true from hs) Bool.false_ne_true
  | bl i =>
    cases rx
    cases y with
    | non => cases ry; exact PySem.EqNone.eq_bool_none (fin_bl I q (by simp))
    | bl j => cases ry; exact eq_bool (fin_bl I q dec_bl)
    | str j => obtain ⟨t', rfl⟩ := ry; exact PySem.EqMixed.eq_bool_str (fin_bl I q (by simp))
    | _ => exact absurd (show false = true from hs) Bool.false_ne_true
  | int i =>
    obtain ⟨t, rfl⟩ := rx
    cases y with
    | non => cases ry; exact PySem.EqNone.eq_int_none (fin_bl I q (by simp))
    | int j => obtain ⟨t', rfl⟩ := ry; exact eq_int (fin_bl I q dec_int)
    | str j => obtain ⟨t', rfl⟩ := ry; exact PySem.EqMixed.eq_int_str (fin_bl I q (by simp))
    | _ => exact absurd (show false = true from hs) Bool.false_ne_true
  | str i =>
    obtain ⟨t, rfl⟩ := rx
    cases y with
    | non => cases ry; exact PySem.EqNone.eq_str_none (fin_bl I q (by simp))
    | bl j => cases ry; exact PySem.EqMixed.eq_str_bool (fin_bl I q (by simp))
    | int j => obtain ⟨t', rfl⟩ := ry; exact PySem.EqMixed.eq_str_int (fin_bl I q (by simp))
    | str j => obtain ⟨t', rfl⟩ := ry; exact eq_str (fin_bl I q dec_str)
    | _ => exact absurd (show false = true from hs) Bool.false_ne_true
  | byt i =>
    obtain ⟨t, rfl⟩ := rx
    cases y with
    | byt j => obtain ⟨t', rfl⟩ := ry; exact PySem.W.eq_bytes (fin_bl I q dec_byt)
    | _ => exact absurd (show false = true from hs) Bool.false_ne_true
  | _ => cases y <;> exact absurd (show false = true from hs) Bool.false_ne_true
theorem op_ne : OpR X (compareOp .NotEq) rNe := by
  intro pins s σ H x y v u Q I rx ry h
  obtain ⟨hs, q⟩ := h
  cases x with
  | non =>
    cases rx
    cases y with
    | non => cases ry; exact PySem.EqNone.ne_none_none (fin_bl I q (by simp))
    | bl j => cases ry; exact PySem.EqNone.ne_none_bool (fin_bl I q (by simp))
    | int j => obtain ⟨t', rfl⟩ := ry; exact PySem.EqNone.ne_none_int (fin_bl I q (by simp))
    | str j => obtain ⟨t', rfl⟩ := ry; exact PySem.EqNone.ne_none_str (fin_bl I q (by simp))
    | _ => exact absurd (show false = true from hs) Bool.false_ne_true
  | bl i =>
    cases rx
    cases y with
    | non => cases ry; exact PySem.EqNone.ne_bool_none (fin_bl I q (by simp))
    | bl j => cases ry; exact ne_bool (fin_bl I q (congrArg not dec_bl))
    | str j => obtain ⟨t', rfl⟩ := ry; exact PySem.EqMixed.ne_bool_str (fin_bl I q (by simp))
    | _ => exact absurd (show false = true from hs) Bool.false_ne_true
  | int i =>
    obtain ⟨t, rfl⟩ := rx
    cases y with
    | non => cases ry; exact PySem.EqNone.ne_int_none (fin_bl I q (by simp))
    | int j => obtain ⟨t', rfl⟩ := ry; exact ne_int (fin_bl I q (congrArg not dec_int))
    | str j => obtain ⟨t', rfl⟩ := ry; exact PySem.EqMixed.ne_int_str (fin_bl I q (by simp))
    | _ => exact absurd (show false = true from hs) Bool.false_ne_true
  | str i =>
    obtain ⟨t, rfl⟩ := rx
    cases y with
    | non => cases ry; exact PySem.EqNone.ne_str_none (fin_bl I q (by simp))
    | bl j => cases ry; exact PySem.EqMixed.ne_str_bool (fin_bl I q (by simp))
    | int j => obtain ⟨t', rfl⟩ := ry; exact PySem.EqMixed.ne_str_int (fin_bl I q (by simp))
    | str j => obtain ⟨t', rfl⟩ := ry; exact ne_str (fin_bl I q (congrArg not dec_str))
    | _ => exact absurd (show false = true from hs) Bool.false_ne_true
  | byt i =>
    obtain ⟨t, rfl⟩ := rx
    cases y with
    | byt j => obtain ⟨t', rfl⟩ := ry; exact PySem.W.ne_bytes (fin_bl I q (congrArg not dec_byt))
    | _ => exact absurd (show false = true from hs) Bool.false_ne_true
  | _ => cases y <;> exact absurd (show false = true from hs) Bool.false_ne_true
theorem op_lt : OpR X (compareOp .Lt) (rI0 fun i j => .bl (decide (i < j))) := opB0 fun _ _ _ _ _ _ _ q => lt_int q
theorem op_gt : OpR X (compareOp .Gt) (rI0 fun i j => .bl (decide (j < i))) := opB0 fun _ _ _ _ _ _ _ q => gt_int q
theorem op_ge : OpR X (compareOp .GtE) (rI0 fun i j => .bl (decide (j ≤ i))) := opB0 fun _ _ _ _ _ _ _ q => ge_int q
theorem nomark (b : Expr) {op : CmpOp} (h : op ≠ .In := by decide) (h2 : op ≠ .NotIn := by decide) : behindInMarks op b = false := by
  have e1 : (op == CmpOp.In) = false := by cases op <;> first | rfl | exact absurd rfl h
  have e2 : (op == CmpOp.NotIn) = false := by cases op <;> first | rfl | exact absurd rfl h2
  cases b <;> simp [behindInMarks, e1, e2]
theorem pe_cmpR {op : CmpOp} {r : R2} (ho : OpR X (compareOp op) r) (ha : PE X a ta) (hb : PE X b tb) (hm : behindInMarks op b = false) : PE X (.Compare a [op] [b] pos) (tOp r ta tb) := by
  intro pins s σ H Q I h
  exact wpAny_Compare1 (binT ha hb I h fun v u s2 x y H2 I2 rx ry q => ho pins s2 σ H2 x y v u Q I2 rx ry q) hm
def tTest (t : TE) : TT := fun σ H Q => t σ H fun x H' => ∃ k, x = .bl k ∧ Q k H'
theorem pt_cmpR {op : CmpOp} {r : R2} (ho : OpR X (compareOp op) r) (ha : PE X a ta) (hb : PE X b tb) (hm : behindInMarks op b = false) : PT X (.Compare a [op] [b] pos) (tTest (tOp r ta tb)) := by
  intro pins s σ H Q I h
  refine wpAny_isTrue_Compare1 (thn (ha pins s σ H _ I h) fun v s1 ⟨x, H1, I1, r1, q1⟩ => thn (hb pins s1 σ H1 _ I1 q1) fun u s2 ⟨y, H2, I2, r2, q2⟩ =>
    thn (ho pins s2 σ H2 x y v u _ I2 r1 r2 q2) fun c s3 ⟨z, H3, I3, r3, k, e, q3⟩ => ?_) hm
  subst e
  cases r3
  exact wpAny_truthy_bool ⟨H3, I3, q3⟩
def tChain (r r' : R2) (ta tb tc : TE) : TE := fun σ H Q => ta σ H fun x H1 => tb σ H1 fun y H2 => r x y H2 fun z H3 => ∃ k, z = .bl k ∧
  (if k = true then tc σ H3 fun w' H4 => r' y w' H4 Q else Q (.bl false) H3)
theorem line63 : (sizeLine : Nat) < 2 ^ 63 := by rw [sizeLine_eq]; decide
theorem vals1 {x : V} {us : List Value} (r : Vals [x] us) : ∃ u, us = [u] ∧ RelV x u := by
  cases r with
  | cons r1 r2 => cases r2; exact ⟨_, rfl, r1⟩
end
end L2
namespace L2
open PySem PySem.Spec PyProof.Rows
structure ObjM (h : Heap) (x dx C : Addr) (mA : Str → Option Value) : Prop where
  obj : h.get? x = some (PySem.W.instObj C dx)
  ns : h.Ns1 dx mA
  ne : dx ≠ x
theorem lookIn_ns {h : Heap} {dx : Addr} {mA : Str → Option Value} (n : h.Ns1 dx mA) : ∃ od, h.get? dx = some od ∧ ∀ name, PySem.W.lookIn name od = some (mA name) := by
  obtain ⟨o, es, ep, ho, hd, hk, _, hm⟩ := n
  refine ⟨o, ho, fun name => ?_⟩
  have e := hm name
  unfold nsFind findBy at e
  rw [← Array.find?_toList] at e
  unfold PySem.W.lookIn
  rw [hd]
  dsimp only
  split
  · rename_i y q
    rw [q] at e
    exact congrArg some e
  · rename_i q
    rw [q] at e
    have a : es.toList.any (·.refKey) = false := by
      rw [List.any_eq_false]
      intro y hy
      obtain ⟨z, t, hkey⟩ := hk y (Array.mem_toList_iff.mp hy)
      simp [DictEntry.refKey, hkey]
    have a' : ¬ es.toList.any (·.refKey) = true := by rw [a]; exact Bool.false_ne_true
    rw [if_neg a']
    exact congrArg some e
theorem ObjM.look {h : Heap} {x dx C : Addr} {mA : Str → Option Value} (I : ObjM h x dx C mA) : ∃ od, PySem.W.InstAt h x (PySem.W.instObj C dx) C (some od) ∧ ∀ name, PySem.W.lookIn name od = some (mA name) :=
  let ⟨od, ho, hl⟩ := lookIn_ns I.ns
  ⟨od, ⟨I.obj, rfl, rfl, ho⟩, hl⟩
section
variable {prog : Program} {w : World} {A : Around} {E : Value → Shared → Prop} {s : Shared} {K : PySem.W.Frag} {x dx C f : Addr} {mA : Str → Option Value} {name : Str} {v : Value}
end
theorem RelO.some_of {v : V} {o : Option Value} (r : RelO (some v) o) : ∃ u, o = some u ∧ RelV v u := by
  cases o with
  | none => exact (show False from r).elim
  | some u => exact ⟨u, rfl, r⟩
section
variable {P : Program} {w : World} {H H' : Hp} {h h' : Heap} {a C dx : Addr} {fs fs' : List (Str × V)}
theorem ins_get (hok : HOk P w H h) (e : H a = some (.ins C dx fs)) : ∃ mA, ObjM h a dx C mA ∧ (∀ f, RelO (fs.lookup f) (mA f)) ∧ PySem.Within mA (fs.map (·.1)) ∧ fs.length ≤ 1000 ∧ H dx = some (.own a) := by
  obtain ⟨d, z, ne, ob, mA, n, r, q⟩ := (show ObjOk P w H h a (.ins C dx fs) from hok a _ e)
  exact ⟨mA, ⟨ob, n, ne⟩, r, q, z, d⟩
end
structure Cls (K : PySem.W.Frag) (C : Addr) : Prop where
  pg : PySem.W.plainGet K C Str.empty = true
  hd : PySem.W.hasDictIn K C = true
  po : PySem.W.plainOver K C = true
  sa : PySem.W.findIn K (.ref C) "__setattr__" = some (some (.builtin "object.__setattr__"))
theorem Cls.get {K : PySem.W.Frag} {C : Addr} (c : Cls K C) (f : Str) : PySem.W.plainGet K C f = true := c.pg
structure Con (K : PySem.W.Frag) (C : Addr) (f : Str) (v : V) (u : Value) : Prop where
  at_ : PySem.W.findIn K (.ref C) f = some (some u)
  rel : RelV v u
  get : PySem.W.specialIn K u "__get__" = some none
  cp : PySem.W.copiedNames.contains f = false
structure Meth (K : PySem.W.Frag) (C : Addr) (m : Str) (f : Addr) : Prop where
  at_ : PySem.W.findIn K (.ref C) m = some (some (.ref f))
  fn : PySem.W.isFn K (.ref f) = true
  kp : PySem.W.keepIn K (.ref f) = true
section
variable {X : Cx} {pins : List (Addr × Obj)} {σ : St} {H : Hp} {s : Shared} {a C dx : Addr} {fs : List (Str × V)} {f : Str} {v : V} {A : Around} {E : Value → Shared → Prop}
theorem Inv.made (I : Inv X pins σ H s) : Inv X pins σ (upd (upd H s.heap.objs.size (.own (s.heap.objs.size + 1))) (s.heap.objs.size + 1) (.ins C s.heap.objs.size []))
    { s with heap := (s.heap.push PySem.W.emptyDict).push (PySem.W.instObj C s.heap.objs.size) } := by
  have e1 : (s.heap.push PySem.W.emptyDict).get? s.heap.objs.size = some PySem.W.emptyDict := Heap.get?_push_size s.heap rfl
  have e2 : ((s.heap.push PySem.W.emptyDict).push (PySem.W.instObj C s.heap.objs.size)).get? (s.heap.objs.size + 1) = some (PySem.W.instObj C s.heap.objs.size) := by
    have := Heap.get?_push_size (s.heap.push PySem.W.emptyDict) (o := PySem.W.instObj C s.heap.objs.size) rfl
    rwa [Heap.size_push] at this
  have e3 : (s.heap.push PySem.W.emptyDict).Ns s.heap.objs.size (fun _ => none) := ⟨PySem.W.emptyDict, #[], _, e1, rfl, (fun e he => absurd he (by simp)), fun _ => rfl⟩
  have I1 := I.laid (a := s.heap.objs.size) (o := .own (s.heap.objs.size + 1)) (h' := s.heap.push PySem.W.emptyDict) (t' := s.toks) (fun b u q => Heap.get?_push_of_some _ q) (Nat.le_refl _) ⟨_, e1⟩
  refine I1.laid (a := s.heap.objs.size + 1) (o := .ins C s.heap.objs.size []) (t' := s.toks) (fun b u q => Heap.get?_push_of_some _ q) (Nat.le_of_eq (Heap.size_push _ _)) ?_
  have ne : s.heap.objs.size ≠ s.heap.objs.size + 1 := Nat.ne_of_lt (Nat.lt_succ_self _)
  refine ⟨by rw [upd_ne ne, upd_same], Nat.zero_le _, ne, e2, fun _ => none, (Heap.Ns1.of_empty e3).at fun o q => Heap.get?_push_of_some _ q, fun _ => True.intro, fun y hy => absurd rfl hy⟩
end
section
variable {X : Cx} {o e value : Expr} {f : Str} {pos pos' tpos : Pos} {ta tv : TE}
end
section
variable {X : Cx} {pins : List (Addr × Obj)} {σ : St} {H : Hp} {s : Shared} {A : Around} {E : Value → Shared → Prop} {Q : Value → Shared → Prop} {c : Value} {b : Bool}
inductive TyOf (K : PySem.W.Frag) (H : Hp) : V → Value → Prop where
  | non : TyOf K H .non (.type "NoneType")
  | bl (x : Bool) : TyOf K H (.bl x) (.type "bool")
  | int (i : Int) : TyOf K H (.int i) (.type "int")
  | str (x : Str) : TyOf K H (.str x) (.type "str")
  | flt (x : UInt64) : TyOf K H (.flt x) (.type "float")
  | lst {a : Addr} {xs : List V} (e : H a = some (.lst xs)) : TyOf K H (.ref a) (.type "list")
  | frz {a : Addr} {o : Obj} {xs : List V} (e : H a = some (.frz o (.lst xs))) : TyOf K H (.ref a) (.type "list")
  | tup {a : Addr} {xs : List V} (e : H a = some (.tup xs)) : TyOf K H (.ref a) (.type "tuple")
  | dK {a : Addr} {kvs : List (Key × V)} (e : H a = some (.dK kvs)) : TyOf K H (.ref a) (.type "dict")
  | dT {a : Addr} {kvs : List (List Key × V)} (e : H a = some (.dT kvs)) : TyOf K H (.ref a) (.type "dict")
  | ins {a C dx : Addr} {fs : List (Str × V)} (e : H a = some (.ins C dx fs)) (cl : Cls K C) (ha : PySem.W.findIn K (.ref C) "__class__" = some (some (.builtin "object.__class__")))
      (hn : PySem.W.specialIn K (.builtin "object.__class__") "__get__" = some (some (.builtin "getset_descriptor.__get__"))) (htk : PySem.W.takesIn K (.builtin "object.__class__") = some true)
      (hm : PySem.W.mroIn K C (.type "object") = some true) : TyOf K H (.ref a) (.ref C)
theorem isinst_ok {x : V} {u t : Value} (I : Inv X pins σ H s) (rx : RelV x u) (ty : TyOf X.K H x t) (e : PySem.W.kitOne X.K t c = some b) (h : ∀ tk, Q (.bool b) { s with toks := tk }) :
    wpAny (model X.prog X.w) A (call (.builtin "isinstance") [u, c]) Q E s := by
  cases ty with
  | non => cases (show u = Value.none from rx); exact PySem.W.kia_one PySem.W.kitx_none I.kIn True.intro e (fun z => nomatch z) h
  | bl y => cases (show u = Value.bool y from rx); exact PySem.W.kia_one PySem.W.kitx_bool I.kIn True.intro e (fun z => nomatch z) h
  | int i => obtain ⟨t, q⟩ := (show ∃ t, u = Value.int i t from rx); cases q; exact PySem.W.kia_one PySem.W.kitx_int I.kIn True.intro e (fun z => nomatch z) h
  | str y => obtain ⟨t, q⟩ := (show ∃ t, u = Value.str y t from rx); cases q; exact PySem.W.kia_one PySem.W.kitx_str I.kIn True.intro e (fun z => nomatch z) h
  | flt y => obtain ⟨t, q⟩ := (show ∃ t, u = Value.float y t from rx); cases q; exact PySem.W.kia_one PySem.W.kitx_float I.kIn True.intro e (fun z => nomatch z) h
  | @lst a xs ea =>
    cases (show u = Value.ref a from rx)
    obtain ⟨_, _, n, _, h1⟩ := (show ObjOk X.prog X.w H s.heap a (.lst xs) from I.hok a _ ea)
    exact PySem.W.kia_one PySem.W.kitx_list I.kIn ⟨_, h1, rfl⟩ e (fun z => nomatch z) h
  | @frz a ob xs ea =>
    cases (show u = Value.ref a from rx)
    obtain ⟨_, _, _, n, _, h1⟩ := (show ObjOk X.prog X.w H s.heap a (.frz ob (.lst xs)) from I.hok a _ ea)
    exact PySem.W.kia_one PySem.W.kitx_list I.kIn ⟨_, h1, rfl⟩ e (fun z => nomatch z) h
  | @tup a xs ea =>
    cases (show u = Value.ref a from rx)
    obtain ⟨_, _, _, p⟩ := (show ObjOk X.prog X.w H s.heap a (.tup xs) from I.hok a _ ea)
    obtain ⟨o, h1, h2, _⟩ := p
    exact PySem.W.kia_one PySem.W.kitx_tuple I.kIn ⟨o, h1, h2⟩ e (fun z => nomatch z) h
  | @dK a kvs ea =>
    cases (show u = Value.ref a from rx)
    obtain ⟨_, _, vs, _, p⟩ := (show ObjOk X.prog X.w H s.heap a (.dK kvs) from I.hok a _ ea)
    obtain ⟨o, es, ep, h1, h2, _⟩ := p
    exact PySem.W.kia_one PySem.W.kitx_dict I.kIn ⟨o, h1, h2.1⟩ e (fun z => nomatch z) h
  | @dT a kvs ea =>
    cases (show u = Value.ref a from rx)
    obtain ⟨_, _, xs, _, o, es, ep, h1, h2, _⟩ := (show ObjOk X.prog X.w H s.heap a (.dT kvs) from I.hok a _ ea)
    exact PySem.W.kia_one PySem.W.kitx_dict I.kIn ⟨o, h1, h2.1⟩ e (fun z => nomatch z) h
  | @ins a C dx fs ea cl ha hn htk hm =>
    cases (show u = Value.ref a from rx)
    obtain ⟨mA, O, _⟩ := ins_get I.hok ea
    obtain ⟨od, J, _⟩ := O.look
    exact PySem.W.kia_one (PySem.W.kitx_own (cl.get _) cl.hd ha hn htk hm) I.kIn J e (fun z => nomatch z) h
end
end L2
namespace L2
open PySem PySem.Spec PyProof.Rows
structure Room (k : Nat) (A : Around) : Prop where
  hd : A.handled = none
  dp : A.depth + 3 * k + 5 < recursionLimit
  un : A.units + 16 * k + 200 < cLine
theorem Room.mono {j k : Nat} {A : Around} (r : Room k A) (h : j ≤ k) : Room j A := ⟨r.hd, by have := r.dp; omega, by have := r.un; omega⟩
theorem Room.deeper {k : Nat} {A : Around} (r : Room (k + 1) A) (env : Env) : Room k (A.deeper env) :=
  ⟨r.hd, by have := r.dp; show A.depth + 1 + 3 * k + 5 < _; omega, by have := r.un; show A.units + 3 + 16 * k + 200 < _; omega⟩
theorem Room.in1 {k : Nat} {A : Around} (r : Room (k + 1) A) : Room k A.in1 :=
  ⟨r.hd, by have := r.dp; show A.depth + 3 * k + 5 < _; omega, by have := r.un; show A.units + 1 + 16 * k + 200 < _; omega⟩
theorem Room.depth {k : Nat} {A : Around} (r : Room k A) : A.depth < recursionLimit := by have := r.dp; omega
theorem Room.units {k : Nat} {A : Around} (r : Room k A) : A.units + 64 < cLine := by have := r.un; omega
def tNil : TA := fun _ H Q => Q [] H
def tCons (ta : TE) (tr : TA) : TA := fun σ H Q => ta σ H fun x H1 => tr σ H1 fun xs H2 => Q (x :: xs) H2
section
variable {X : Cx} {e : Expr} {es : List Expr} {te : TE} {t : TA} {pos : Pos}
theorem pa_nil : PA X [] tNil := fun _ _ _ _ H Q I h => Calls.spliced_nil ⟨[], H, I, .nil, h⟩
theorem pa_cons (ha : PE X e te) (hr : PA X es t) (hs : starEach (e :: es) X.env = (false, eval e X.env) :: starEach es X.env := by rfl) : PA X (e :: es) (tCons te t) := by
  intro pos pins s σ H Q I h
  rw [hs]
  show wpAny _ _ (spliced ((false, eval e X.env) :: backTo pos (starEach es X.env))) _ _ s
  refine Calls.spliced_cons (thn (ha pins s σ H _ I h) fun u s1 ⟨x, H1, I1, r1, q1⟩ => ?_)
  exact thn (hr pos pins s1 σ H1 _ I1 q1) fun us s2 ⟨xs, H2, I2, r2, q2⟩ => ⟨x :: xs, H2, I2, .cons r1 r2, q2⟩
def tLst (t : TA) : TE := fun σ H Q => t σ H fun xs H1 => xs.length ≤ sizeLine ∧ ∀ p, H1 p = none → Q (.ref p) (upd H1 p (.lst xs))
end
abbrev Sp := List V → Hp → VK → XK → Prop
abbrev CXT := List Env → Hp → Shared → XK → Value → Shared → Prop
structure Env0 (P : Program) (w : World) (K : PySem.W.Frag) (mg : Str → Option Value) (base : Heap) (A : Around) (outer : List Env) (s : Shared) (H : Hp) : Prop where
  frames : A.frames = some outer
  mod : Mod K mg base
  bs : ∀ b o, base.get? b = some o → s.heap.get? b = some o ∧ H b = none
  bsz : base.objs.size ≤ s.heap.objs.size
  funs : s.heap.FunFrames base outer
  frf : ∀ b ∈ frs outer, H b = none
  hok : HOk P w H s.heap
  bare : AllBare s.gens
def CE (outer : List Env) (P : Program) (w : World) (H : Hp) (s : Shared) (Q : VK) (u : Value) (s' : Shared) : Prop :=
  ∃ v H', s'.os = s.os ∧ AllBare s'.gens ∧ Un (frs outer) [] H H' s.heap s'.heap ∧ HOk P w H' s'.heap ∧ RelV v u ∧ Q v H'
def CR (CX : CXT) (outer : List Env) (P : Program) (w : World) (H : Hp) (s : Shared) (Q : VK) (E : XK) (r : Result) (s' : Shared) : Prop :=
  match r with
  | .ok (.ret u) => CE outer P w H s Q u s'
  | .ok _ => False
  | .error e => CX outer H s E e s'
structure FnOk (P : Program) (w : World) (K : PySem.W.Frag) (mg : Str → Option Value) (base : Heap) (CX : CXT) (k : Nat) (f : Addr) (fd : FuncData) (ps : List Str) (sp : Sp) : Prop where
  len : ∀ vs H Q E, sp vs H Q E → vs.length = ps.length
  run : ∀ (A : Around) (outer : List Env) (s : Shared) (H : Hp) (args : Args) (us : List Value) (vs : List V) (Q : VK) (E : XK), Room k A → Env0 P w K mg base A outer s H → BindsTo s fd args (ps.zip us) → Vals vs us → sp vs H Q E →
    codeAny (model P w) A (.call (.ref f) args) (CR CX outer P w H s Q E) s
theorem FnOk.mono {P : Program} {w : World} {K : PySem.W.Frag} {mg : Str → Option Value} {base : Heap} {CX : CXT} {j k : Nat} {f : Addr} {fd : FuncData} {ps : List Str} {sp : Sp} (F : FnOk P w K mg base CX j f fd ps sp) (h : j ≤ k) :
    FnOk P w K mg base CX k f fd ps sp := ⟨F.len, fun A outer s H args us vs Q E hr => F.run A outer s H args us vs Q E (hr.mono h)⟩
theorem FnOk.imp {P : Program} {w : World} {K : PySem.W.Frag} {mg : Str → Option Value} {base : Heap} {CX : CXT} {k : Nat} {f : Addr} {fd : FuncData} {ps : List Str} {sp sp' : Sp} (F : FnOk P w K mg base CX k f fd ps sp)
    (h : ∀ vs H Q E, sp' vs H Q E → sp vs H Q E) : FnOk P w K mg base CX k f fd ps sp' :=
  ⟨fun vs H Q E q => F.len vs H Q E (h _ _ _ _ q), fun A outer s H args us vs Q E hr he hb hv hs => F.run A outer s H args us vs Q E hr he hb hv (h _ _ _ _ hs)⟩
theorem Env0.in1 {P : Program} {w : World} {K : PySem.W.Frag} {mg : Str → Option Value} {base : Heap} {A : Around} {outer : List Env} {s : Shared} {H : Hp} (e : Env0 P w K mg base A outer s H) :
    Env0 P w K mg base A.in1 outer s H := ⟨e.frames, e.mod, e.bs, e.bsz, e.funs, e.frf, e.hok, e.bare⟩
section
variable {X : Cx} {pins : List (Addr × Obj)} {σ : St} {H : Hp} {s s' : Shared}
theorem Inv.env0 (I : Inv X pins σ H s) : Env0 X.prog X.w X.K X.mg X.base X.A X.stack s H :=
  ⟨I.ok.frames, I.ok.mod, I.bs, Nat.le_trans I.ok.bsz I.sz, I.stack, I.stkFree, I.hok, I.bare⟩
theorem Inv.after {Q : VK} {u : Value} (I : Inv X pins σ H s) (h : CE X.stack X.prog X.w H s Q u s') : EP X pins σ Q u s' := by
  obtain ⟨v, H', os, bare, un, hok, r, q⟩ := h
  obtain ⟨hh, g, d, t, os'⟩ := s'
  obtain rfl : os' = s.os := os
  exact ⟨v, H', I.call (h' := hh) (g' := g) (d' := d) (t' := t) (ch := []) un hok bare (fun b z => absurd z (by simp)), r, q⟩
end
def tCall (sp : Sp) (dvs : List V) (E : XK) (t : TA) : TE := fun σ H Q => t σ H fun vs H1 => sp (vs ++ dvs) H1 Q E
def Binds (K : PySem.W.Frag) (fd : FuncData) (ps : List Str) (ds : List Value) : Prop :=
  ∀ (s : Shared) (us : List Value), K.In s.heap → (us ++ ds).length = ps.length → BindsTo s fd ⟨us, []⟩ (ps.zip (us ++ ds))
theorem Binds.all {K : PySem.W.Frag} {fd : FuncData} {ps : List Str} (h : ∀ us : List Value, us.length = ps.length → bindArgs fd ⟨us, []⟩ = pure (ps.zip us)) : Binds K fd ps [] := fun s us _ hl => by
  rw [List.append_nil] at hl ⊢
  exact .of_eq (h us hl)
def Passes (CX : CXT) (X : Cx) (E : XK) : Prop := ∀ (pins : List (Addr × Obj)) (σ : St) (H : Hp) (s : Shared) (e : Value) (s' : Shared), Inv X pins σ H s → CX X.stack H s E e s' → X.xe e s'
section
variable {X : Cx} {CX : CXT} {k : Nat} {f C : Addr} {fd : FuncData} {ps : List Str} {sp : Sp} {dvs : List V} {ds : List Value} {E : XK} {x m : Str} {p pos apos : Pos} {e o : Expr} {es : List Expr} {ta : TE} {t : TA}
theorem run_fn {pins : List (Addr × Obj)} {σ : St} {H : Hp} {s : Shared} {Q : VK} {us : List Value} {vs : List V} (F : FnOk X.prog X.w X.K X.mg X.base CX k f fd ps sp) (hr : Room k X.A) (hb : Binds X.K fd ps ds) (hd : Vals dvs ds) (hx : Passes CX X E)
    (I : Inv X pins σ H s) (r : Vals vs us) (h : sp (vs ++ dvs) H Q E) : wpAny (model X.prog X.w) X.A (call (.ref f) us) (EP X pins σ Q) X.xe s := by
  have r2 : Vals (vs ++ dvs) (us ++ ds) := r.append hd
  have hl : (us ++ ds).length = ps.length := by rw [← r2.length]; exact F.len _ _ _ _ h
  refine wpAny_call (codeAny_mono (F.run X.A X.stack s H ⟨us, []⟩ (us ++ ds) (vs ++ dvs) Q E hr I.env0 (hb s us I.kIn hl) r2 h) fun r s' hq => ?_)
  cases r with
  | error e => exact hx pins σ H s e s' I hq
  | ok fl =>
    cases fl with
    | ret u => exact I.after hq
    | next => exact False.elim hq
    | brk => exact False.elim hq
    | cont => exact False.elim hq
theorem pe_call (F : FnOk X.prog X.w X.K X.mg X.base CX k f fd ps sp) (hr : Room k X.A) (hg : Gl X x) (hm : X.mg x = some (.ref f)) (hk : PySem.W.keepIn X.K (.ref f) = true) (hb : Binds X.K fd ps ds) (hd : Vals dvs ds) (hx : Passes CX X E)
    (ha : PA X (e :: es) t) (hdb : (x == ("__debug__" : Str)) = false := by decide) (he : starEach (e :: es) X.env = (false, eval e X.env) :: starEach es X.env := by rfl) (hpl : (backTo pos (starEach es X.env)).any (·.1) = false := by rfl) :
    PE X (.Call (.Name x p) (e :: es) [] pos) (tCall sp dvs E t) := by
  intro pins s σ H Q I h
  refine wpAny_Call_Name_kw (ld_glob I hg hm ?_ hdb)
  refine PySem.W.callWith_K (h₀ := X.base) I.ok.mod.kin hk (thn (ha pos pins s σ H _ I h) fun us s1 ⟨vs, H1, I1, r, q⟩ => ⟨I1.kIn, ?_⟩) he hpl
  exact run_fn F hr hb hd hx I1 r q
structure Mk (K : PySem.W.Frag) (C f : Addr) : Prop where
  makes : PySem.W.makesIn K C = true
  init : PySem.W.findIn K (.ref C) "__init__" = some (some (.ref f))
  fn : PySem.W.isFn K (.ref f) = true
  kp : PySem.W.keepIn K (.ref C) = true
end
section
variable {X : Cx} {CX : CXT} {k : Nat} {f C : Addr} {fd : FuncData} {ps ks : List Str} {sp : Sp} {E : XK} {x m : Str} {p pos apos kpos : Pos} {e o : Expr} {es : List Expr} {kws : List Keyword} {te ta : TE} {t tk : TA} {nm : Option Str}
structure KBinds (K : PySem.W.Frag) (fd : FuncData) (ps ks : List Str) (g : List Value → List Value → List Value) (gV : List V → List V → List V) : Prop where
  to : ∀ (s : Shared) (us ws : List Value), K.In s.heap → (g us ws).length = ps.length → BindsTo s fd ⟨us, ks.zip ws⟩ (ps.zip (g us ws))
  rel : ∀ {vs : List V} {us : List Value} {zs : List V} {ws : List Value}, Vals vs us → Vals zs ws → Vals (gV vs zs) (g us ws)
variable {g : List Value → List Value → List Value} {gV : List V → List V → List V}
end
structure FnScope (N P : List Str) (sc : Scope) : Prop where
  kind : sc.kind = .function
  co : sc.isCoroutine = false
  gen : sc.isGenerator = false
  nd : N.Nodup
  pre : N.take P.length = P
  par : ∀ x ∈ P, sc.names.lookup x = some .local ∨ sc.names.lookup x = some .cell
  nofree : ∀ y ∈ sc.names, y.2 ≠ .free
theorem bindL_out {kindOf : Str → Option NameKind} {x : Str} : ∀ {binds : List (Str × Value)} {m : Str → Option Value}, (∀ v, (x, v) ∉ binds) → bindL kindOf binds m x = m x
  | [], _, _ => rfl
  | (n, v) :: r, m, h => by
    unfold bindL
    rw [bindL_out fun w hw => h w (List.mem_cons_of_mem _ hw)]
    split
    · have : x ≠ n := by rintro rfl; exact h v List.mem_cons_self
      simp [this]
    · rfl
theorem bindC_out {kindOf : Str → Option NameKind} {x : Str} : ∀ {binds : List (Str × Value)} {m : Str → Option Value}, (∀ v, (x, v) ∉ binds) → bindC kindOf binds m x = m x
  | [], _, _ => rfl
  | (n, v) :: r, m, h => by
    unfold bindC
    rw [bindC_out fun w hw => h w (List.mem_cons_of_mem _ hw)]
    split
    · rfl
    · have : x ≠ n := by rintro rfl; exact h v List.mem_cons_self
      simp [this]
theorem bindL_get {kindOf : Str → Option NameKind} {x : Str} {v : Value} : ∀ {P : List Str} {vs : List Value} {i : Nat} {m : Str → Option Value}, P.Nodup → P[i]? = some x → vs[i]? = some v → kindOf x = some .local →
    bindL kindOf (P.zip vs) m x = some v
  | [], _, _, _, _, h, _, _ => by simp at h
  | _ :: _, [], _, _, _, _, h, _ => by simp at h
  | p :: P, w :: vs, 0, m, nd, h1, h2, hk => by
    simp at h1 h2; subst h1; subst h2
    show bindL kindOf ((p, w) :: P.zip vs) m p = _
    unfold bindL
    rw [bindL_out fun v hv => (List.nodup_cons.mp nd).1 (List.of_mem_zip hv).1, if_pos hk]
    simp
  | p :: P, w :: vs, i + 1, m, nd, h1, h2, hk => by
    show bindL kindOf ((p, w) :: P.zip vs) m x = _
    unfold bindL
    exact bindL_get (i := i) (List.nodup_cons.mp nd).2 (by simpa using h1) (by simpa using h2) hk
theorem bindC_get {kindOf : Str → Option NameKind} {x : Str} {v : Value} : ∀ {P : List Str} {vs : List Value} {i : Nat} {m : Str → Option Value}, P.Nodup → P[i]? = some x → vs[i]? = some v → kindOf x ≠ some .local →
    bindC kindOf (P.zip vs) m x = some v
  | [], _, _, _, _, h, _, _ => by simp at h
  | _ :: _, [], _, _, _, _, h, _ => by simp at h
  | p :: P, w :: vs, 0, m, nd, h1, h2, hk => by
    simp at h1 h2; subst h1; subst h2
    show bindC kindOf ((p, w) :: P.zip vs) m p = _
    unfold bindC
    rw [bindC_out fun v hv => (List.nodup_cons.mp nd).1 (List.of_mem_zip hv).1, if_neg hk]
    simp
  | p :: P, w :: vs, i + 1, m, nd, h1, h2, hk => by
    show bindC kindOf ((p, w) :: P.zip vs) m x = _
    unfold bindC
    exact bindC_get (i := i) (List.nodup_cons.mp nd).2 (by simpa using h1) (by simpa using h2) hk
def start (N : List Str) (vs : List V) : St := vs.map some ++ List.replicate (N.length - vs.length) none
def cxOf (CX : CXT) (P : Program) (w : World) (K : PySem.W.Frag) (mg : Str → Option Value) (base : Heap) (N : List Str) (qual : Str) (scope : Scope) (f : Addr) (cd : Value) (A : Around) (outer : List Env) (s : Shared) (H : Hp) (E : XK) : Cx where
  prog := P
  w := w
  K := K
  mg := mg
  base := base
  A := A.deeper (envOfC qual scope s.heap.objs.size f cd)
  N := N
  s₀ := s
  H₀ := H
  env := envOfC qual scope s.heap.objs.size f cd
  outer := outer
  stack := envOfC qual scope s.heap.objs.size f cd :: outer
  ex := []
  calm := true
  fn := fun _ => true
  pn := []
  xe := fun e s' => wpAny (model P w) (A.deeper (envOfC qual scope s.heap.objs.size f cd)) (leaving (envOfC qual scope s.heap.objs.size f cd) e) (fun _ s'' => CX outer H s E e s'') (fun e' s'' => CX outer H s E e' s'') s'
theorem cell_has {sc : Scope} {n : Nat} {x : Str} (h : sc.names.lookup x = some .cell) : ∃ c, (cellsFrom n sc.names []).lookup x = some c := by
  have q := PySem.W.cellsFrom_some sc.names n [] (.inl h)
  exact Option.isSome_iff_exists.mp q
theorem inv_start {CX : CXT} {P : Program} {w : World} {K : PySem.W.Frag} {mg : Str → Option Value} {base : Heap} {N ps : List Str} {qual : Str} {scope : Scope} {f : Addr} {cd : Value} {A : Around} {outer : List Env} {s s1 : Shared} {H : Hp} {E : XK} {us : List Value} {vs : List V}
    (S : FnScope N ps scope) (hd : A.handled = none) (e0 : Env0 P w K mg base A outer s H) (hl : vs.length = ps.length) (r : Vals vs us)
    (x : InCallC s s.heap.objs.size (bindL (envOfC qual scope s.heap.objs.size f cd).kindOf (ps.zip us) fun _ => none) (cellsFrom (s.heap.objs.size + 1) scope.names []) (bindC (envOfC qual scope s.heap.objs.size f cd).kindOf (ps.zip us) fun _ => none) s1) :
    Inv (cxOf CX P w K mg base N qual scope f cd A outer s H E) [] (start N vs) H s1 := by
  have hpl : ps.length ≤ N.length := by have := congrArg List.length S.pre; rw [List.length_take] at this; omega
  obtain ⟨h1, tk, rfl, hk⟩ := x.done
  have noA : ∀ b : Addr, b ∉ (cxOf CX P w K mg base N qual scope f cd A outer s H E).ex := fun b z => absurd (show b ∈ ([] : List Addr) from z) (by simp)
  refine ⟨⟨e0.mod, S.kind, rfl, rfl, Nat.le_refl _, fun y z c h1 h2 => ?_, fun y hy => ?_, fun y c _ h => ?_, fun _ => hd, Around.frames_deeper e0.frames, .inr ⟨rfl, rfl⟩, fun b z => absurd z (noA b), e0.bs, e0.bsz, fun b _ _ => noA b, fun b z => absurd z (noA b), e0.funs, e0.frf⟩,
    rfl, e0.bare, Un.kept hk, ⟨_, x.toInCall.ns, fun i y v h1 h2 h3 => ?_⟩, fun y c h => ⟨_, x.cell y c h⟩, e0.hok.fresh (Nat.le_refl _), fun y c h => ?_, fun p hp => absurd (show p ∈ ([] : List (Addr × Obj)) from hp) (by simp), e0.hok.kept hk, ?_⟩
  · exact name_of_addr x.apart (PySem.mem_of_lookup h1) (PySem.mem_of_lookup h2)
  · have hy : scope.names.lookup y = some .cell ∨ scope.names.lookup y = some .free := hy
    rcases hy with hy | hy
    · exact cell_has hy
    · exact absurd rfl (S.nofree _ (PySem.mem_of_lookup hy))
  · exact Nat.le_of_lt (x.above y c (PySem.mem_of_lookup h))
  · have hi : i < vs.length := by
      unfold start at h2
      by_cases hi : i < vs.length
      · exact hi
      · rw [List.getElem?_append_right (by simpa using hi)] at h2
        rw [List.getElem?_replicate] at h2
        split at h2 <;> cases h2
    have ha : vs[i]? = some v := by
      unfold start at h2
      rw [List.getElem?_append_left (by simpa using hi), List.getElem?_map] at h2
      cases e : vs[i]? with
      | none => rw [e] at h2; cases h2
      | some a => rw [e] at h2; cases h2; rfl
    obtain ⟨u, hu, rv⟩ := r.get ha
    have hp : ps[i]? = some y := by
      rw [← S.pre, List.getElem?_take_of_lt (by omega)]; exact h1
    have ndP : ps.Nodup := by rw [← S.pre]; exact S.nd.sublist (List.take_sublist _ _)
    refine ⟨u, rv, ?_⟩
    rcases S.par y (List.mem_of_getElem? hp) with k | k
    · exact .inl ⟨k, bindL_get ndP hp hu k⟩
    · obtain ⟨c, e⟩ := cell_has (n := s.heap.objs.size + 1) k
      refine .inr ⟨.inl k, c, e, ?_⟩
      have q := x.cell y c e
      rw [bindC_get ndP hp hu (by show scope.names.lookup y ≠ _; rw [k]; decide)] at q
      exact q
  · exact e0.hok.fresh (Nat.le_of_lt (x.above y c (PySem.mem_of_lookup h)))
  · unfold start
    show _ = N.length
    rw [List.length_append, List.length_map, List.length_replicate]
    omega
theorem fn_of {CX : CXT} {P : Program} {w : World} {K : PySem.W.Frag} {mg : Str → Option Value} {base : Heap} {k : Nat} {f : Addr} {name qual : Str} {params : Arguments} {body : List Stmt} {scope : Scope} {dV kV doc pm cdv ct oc : Value} {an od : Option Addr}
    {osl : Array (Option Value)} {N ps : List Str} {sp : Sp} (lk : K.lookup f = some ⟨oc, od, .func (PySem.W.fnOf name qual params body scope dV kV doc pm an cdv ct), osl⟩) (hcd : PySem.W.codeIn K cdv qual = true) (S : FnScope N ps scope)
    (len : ∀ vs H Q E, sp vs H Q E → vs.length = ps.length)
    (hbody : ∀ (A : Around) (outer : List Env) (s : Shared) (H : Hp) (vs : List V) (Q : VK) (E : XK), Room k (A.deeper (envOfC qual scope s.heap.objs.size f cdv)) → sp vs H Q E →
      ∃ t, PSs (cxOf CX P w K mg base N qual scope f cdv A outer s H E) body t ∧ t { nx := fun _ H' => Q .non H', rt := Q } (start N vs) H) :
    FnOk P w K mg base CX (k + 1) f (PySem.W.fnOf name qual params body scope dV kV doc pm an cdv ct) ps sp := by
  refine ⟨len, fun A outer s H args us vs Q E hr e0 hb r hsp => ?_⟩
  have hl := len _ _ _ _ hsp
  have KX : K.In s.heap := e0.mod.kin.keeps fun b o e => (e0.bs b o e).1
  have lim : s.heap.NoLimit := e0.mod.nolimit.keeps fun b o e => (e0.bs b o e).1
  have hkind : ∀ y ∈ ps.zip us, scope.names.lookup y.1 = some .local ∨ (scope.names.lookup y.1 = some .cell ∧ ((cellsFrom (s.heap.objs.size + 1) scope.names []).lookup y.1).isSome = true) := fun ⟨n, v⟩ hy => by
    rcases S.par n (List.of_mem_zip hy).1 with q | q
    · exact .inl q
    · exact .inr ⟨q, PySem.W.cellsFrom_some _ _ _ (.inl q)⟩
  refine codeAny_call_function hr.depth (KX _ _ lk) rfl S.co S.gen rfl (PySem.W.codeRec_of KX hcd) (hb _ _ _ _ ?_)
  refine wpAny_newFunctionEnv_cells S.kind hkind fun env he s1 x => ?_
  subst he
  refine ⟨lim.keeps x.toInCall.keep, codeAny_func ?_⟩
  obtain ⟨t, ht, hq⟩ := hbody A outer s H vs Q E (hr.deeper _) hsp
  have I : Inv (cxOf CX P w K mg base N qual scope f cdv A outer s H E) [] (start N vs) H s1 := inv_start S hr.hd e0 hl r x
  refine wpAny_mono (ht [] s1 (start N vs) H _ I hq) (fun fl s' hs => ?_) fun e s' hs => hs
  have fin : ∀ {σ' : St} {H' : Hp} {v : V} {u : Value}, Inv (cxOf CX P w K mg base N qual scope f cdv A outer s H E) [] σ' H' s' → RelV v u → Q v H' → CE outer P w H s Q u s' :=
    fun {σ' H' v u} J rv q => ⟨v, H', J.os, J.bare, J.base, J.hok, rv, q⟩
  cases fl with
  | ret u =>
    obtain ⟨v, σ', H', J, rv, q⟩ := hs
    exact fin J rv q
  | next =>
    obtain ⟨σ', H', J, q⟩ := hs
    exact fin (v := V.non) (u := Value.none) J rfl q
  | brk =>
    obtain ⟨_, _, _, q⟩ := hs
    exact False.elim q
  | cont =>
    obtain ⟨_, _, _, q⟩ := hs
    exact False.elim q
end L2
namespace L2
open PySem PySem.Spec PyProof.Rows
section
variable {X : Cx} {x : Str} {p pos : Pos} {e : Expr} {es : List Expr} {t : TA} {id T : String} {r : List V → Hp → VK → Prop}
def tCB (r : List V → Hp → VK → Prop) (t : TA) : TE := fun σ H Q => t σ H fun vs H1 => r vs H1 Q
theorem pe_callB (hc : CallR X (.builtin id) r) (hg : Gl X x) (hm : X.mg x = none) (hv : bootBuiltins x = some (.builtin id)) (ha : PA X (e :: es) t) (hn : x ≠ "__name__" := by decide) (hdb : (x == ("__debug__" : Str)) = false := by decide)
    (he : starEach (e :: es) X.env = (false, eval e X.env) :: starEach es X.env := by rfl) (hpl : (backTo pos (starEach es X.env)).any (·.1) = false := by rfl) : PE X (.Call (.Name x p) (e :: es) [] pos) (tCB r t) := by
  intro pins s σ H Q I h
  refine wpAny_Call_Name_kw (ld_blt I hg hm hv ?_ hn hdb)
  exact PyProof.Rows.callWith_builtin1 (thn (ha pos pins s σ H _ I h) fun us s1 ⟨vs, H1, I1, r1, q1⟩ => hc pins s1 σ H1 vs us Q I1 r1 q1) he hpl
theorem pe_callTy (hc : CallR X (.type T) r) (hg : Gl X x) (hm : X.mg x = none) (hv : bootBuiltins x = some (.type T)) (ha : PA X (e :: es) t) (hn : x ≠ "__name__" := by decide) (hdb : (x == ("__debug__" : Str)) = false := by decide)
    (he : starEach (e :: es) X.env = (false, eval e X.env) :: starEach es X.env := by rfl) (hpl : (backTo pos (starEach es X.env)).any (·.1) = false := by rfl) : PE X (.Call (.Name x p) (e :: es) [] pos) (tCB r t) := by
  intro pins s σ H Q I h
  refine wpAny_Call_Name_kw (ld_blt I hg hm hv ?_ hn hdb)
  exact PyProof.Rows.callWith_type1 (thn (ha pos pins s σ H _ I h) fun us s1 ⟨vs, H1, I1, r1, q1⟩ => hc pins s1 σ H1 vs us Q I1 r1 q1) he hpl
end
end L2
namespace HT
open PySem PyProof.Rows
def lexLt : List Int → List Int → Bool
  | [], [] => false
  | [], _ :: _ => true
  | _ :: _, [] => false
  | x :: xs, y :: ys => if x = y then lexLt xs ys else decide (x < y)
theorem lexLt_cons (x y : Int) (xs ys : List Int) : lexLt (x :: xs) (y :: ys) = if x = y then lexLt xs ys else decide (x < y) := rfl
theorem lexLt_nil_nil : lexLt [] [] = false := rfl
section
open PySem.SeqAt
open PySem.AutoSeq1 (wpAny_loadPart')
open PySem.MeetsSeq PySem.MeetsSeq2 PySem.MeetsSeq3
end
section
variable {prog : Program} {w : World} {A : Around} {E : Value → Shared → Prop} {s : Shared}
theorem cat_tup {t b : Addr} {vs ws : List Value} {Q : Value → Shared → Prop} (ht : IsTup s.heap t vs.toArray) (hb : IsTup s.heap b ws.toArray) (hv : vs ≠ [])
    (h1 : ws = [] → Q (.ref t) s) (h2 : ws ≠ [] → Q (.ref s.heap.objs.size) { s with heap := s.heap.push { cls := .type "tuple", data := .seq (vs ++ ws).toArray } })
    (hsz : vs.length + ws.length ≤ sizeLine) : wpAny (model prog w) A (binaryOp .Add (.ref t) (.ref b)) Q E s := by
  obtain ⟨⟨cls, dd, data, sl⟩, ho, hc, n, hd⟩ := id ht
  obtain ⟨⟨cls2, dd2, data2, sl2⟩, ho2, hc2, n2, hd2⟩ := id hb
  simp only at hc hd hc2 hd2
  subst hc hd hc2 hd2
  have e : vs.toArray ++ ws.toArray = (vs ++ ws).toArray := by simp
  by_cases hw : ws = []
  · exact concat_meets ⟨_, ho, rfl⟩ ⟨_, ho2, rfl⟩ noFill_tuple_add seq_tuple_add PySem.F.slot_tuple_add PySem.F.entry_tuple_add (PySem.F.args_tuple_add_2 _ _)
      (tuple_addW1 t b vs.toArray ws.toArray n n2 dd dd2 sl sl2 (by simpa using hv) (by simp [hw])) ⟨ho, ho2, h1 hw⟩
  · refine concat_meets ⟨_, ho, rfl⟩ ⟨_, ho2, rfl⟩ noFill_tuple_add seq_tuple_add PySem.F.slot_tuple_add PySem.F.entry_tuple_add (PySem.F.args_tuple_add_2 _ _)
      (tuple_addW2 t b vs.toArray ws.toArray n n2 dd dd2 sl sl2 (by simpa using hv) (by simpa using hw) (by rw [List.size_toArray, List.size_toArray]; exact hsz)) ⟨ho, ho2, ?_⟩
    rw [e]
    exact h2 hw
def sIx (n d : Nat) : Option Int → Nat
  | none => d
  | some v => if v < 0 then (v + (n : Int)).toNat else min v.toNat n
theorem sIx_none (n d : Nat) : sIx n d none = d := rfl
theorem sIx_nat (n d k : Nat) : sIx n d (some (k : Int)) = min k n := by
  show (if (k : Int) < 0 then ((k : Int) + (n : Int)).toNat else min (k : Int).toNat n) = min k n
  rw [if_neg (by omega), Int.toNat_natCast]
theorem sIx_le (n d : Nat) (hd : d ≤ n) (o : Option Int) : sIx n d o ≤ n := by
  cases o with
  | none => exact hd
  | some v =>
    show (if v < 0 then (v + (n : Int)).toNat else min v.toNat n) ≤ n
    by_cases hv : v < 0
    · rw [if_pos hv]; omega
    · rw [if_neg hv]; exact Nat.min_le_right _ _
theorem clip_eq (v : Int) (n d : Nat) : (if v < 0 then max (v + (n : Int)) 0 else min v (n : Int)) = ((sIx n d (some v) : Nat) : Int) := by
  show (if v < 0 then max (v + (n : Int)) 0 else min v (n : Int)) = (((if v < 0 then (v + (n : Int)).toNat else min v.toNat n) : Nat) : Int)
  by_cases hv : v < 0
  · simp only [if_pos hv]; omega
  · simp only [if_neg hv]; omega
theorem adjust_gen (lo hi : Option Int) (n : Nat) : Builtin.Slice.sliceAdjust lo hi 1 (n : Int) = (((sIx n 0 lo : Nat) : Int), ((sIx n n hi : Nat) : Int)) := by
  have h1 : ¬ ((1 : Int) < 0) := by omega
  unfold Builtin.Slice.sliceAdjust
  simp only [h1, if_false]
  refine Prod.ext ?_ ?_
  · cases lo with
    | none => rfl
    | some v => exact clip_eq v n 0
  · cases hi with
    | none => rfl
    | some v => exact clip_eq v n n
theorem places_gen (i j : Nat) : Builtin.Slice.slicePlaces (i : Int) (j : Int) 1 = j - i := by
  unfold Builtin.Slice.slicePlaces
  have h1 : (1 : Int) > 0 := by omega
  simp only [h1, if_true, Int.ediv_one]
  split <;> omega
theorem slicePart_ {v : Value} {o : Option Int} {Q : Option Int → Shared → Prop} (p : IsPart v o) (h : Q o s) : wpAny (model prog w) A (Builtin.Slice.slicePartIndex v) Q E s := by
  cases p with
  | none => exact slicePart_none h
  | int i t => exact slicePart_int h
theorem sliceApplied_gen {sl : Addr} {vl vu : Value} {lo hi : Option Int} {n : Nat} {Q : Int × Int × Nat → Shared → Prop} (hs : s.heap.IsSliceOf sl vl vu .none) (pl : IsPart vl lo) (pu : IsPart vu hi)
    (h : Q (((sIx n 0 lo : Nat) : Int), 1, sIx n n hi - sIx n 0 lo) s) : wpAny (model prog w) A (Builtin.Slice.sliceApplied (.ref sl) (pure (n : Int))) Q E s := by
  obtain ⟨os, hos, hcs, hds⟩ := id hs
  unfold Builtin.Slice.sliceApplied Builtin.Slice.sliceFields
  refine wpAny_bind (wpAny_bind (wpAny_field hos hds (x := vl) rfl (wpAny_bind (wpAny_field hos hds (x := vu) rfl (wpAny_bind (wpAny_field hos hds (x := .none) rfl (wpAny_pure ?_)))))))
  refine wpAny_bind (slicePart_none ?_)
  show wpAny _ _ (if ((1 : Int) == 0) = true then _ else _) _ _ s
  rw [if_neg (by decide)]
  refine wpAny_bind (slicePart_ pl (wpAny_bind (slicePart_ pu (wpAny_bind (wpAny_pure ?_)))))
  show wpAny _ _ (match Builtin.Slice.sliceAdjust lo hi 1 (n : Int) with | (lo, hi) => pure (lo, (1 : Int), Builtin.Slice.slicePlaces lo hi 1)) _ _ s
  rw [adjust_gen lo hi n]
  show wpAny _ _ (pure (((sIx n 0 lo : Nat) : Int), (1 : Int), Builtin.Slice.slicePlaces ((sIx n 0 lo : Nat) : Int) ((sIx n n hi : Nat) : Int) 1)) _ _ s
  rw [places_gen]
  exact wpAny_pure h
theorem pick_gen (xs : Array Value) (i k : Nat) : ((List.range k).filterMap fun (m : Nat) => xs[((i : Int) + (m : Int) * 1).toNat]?).toArray = ((xs.toList.drop i).take k).toArray := by
  have e : (fun (m : Nat) => xs[((i : Int) + (m : Int) * 1).toNat]?) = fun m => xs[i + m]? := by
    funext m
    have : ((i : Int) + (m : Int) * 1).toNat = i + m := by omega
    rw [this]
  rw [e]
  have := pick_run xs i k
  rw [List.filterMap_map] at this
  have e2 : ((fun x => xs[x]?) ∘ fun x => i + x) = fun m => xs[i + m]? := rfl
  rw [e2] at this
  rw [this]
theorem getItem_tuple_cut {t sl : Addr} {items : Array Value} {vl vu : Value} {lo hi : Option Int} {Q : Value → Shared → Prop} (ht : IsTup s.heap t items) (hs : s.heap.IsSliceOf sl vl vu .none) (pl : IsPart vl lo) (pu : IsPart vu hi)
    (hw : ¬ (sIx items.size 0 lo = 0 ∧ sIx items.size items.size hi = items.size))
    (h : Q (.ref s.heap.objs.size) { s with heap := s.heap.push { cls := .type "tuple", data := .seq ((items.toList.drop (sIx items.size 0 lo)).take (sIx items.size items.size hi - sIx items.size 0 lo)).toArray } })
    (hsz : items.size ≤ sizeLine) : wpAny (model prog w) A (getItem (.ref t) (.ref sl)) Q E s := by
  have htake : sizeOk (.seq ((items.toList.drop (sIx items.size 0 lo)).take (sIx items.size items.size hi - sIx items.size 0 lo)).toArray) := by
    show ((items.toList.drop (sIx items.size 0 lo)).take (sIx items.size items.size hi - sIx items.size 0 lo)).toArray.size ≤ sizeLine
    rw [List.size_toArray, List.length_take, List.length_drop, Array.length_toList]
    omega
  have hj : sIx items.size items.size hi ≤ items.size := sIx_le _ _ (Nat.le_refl _) hi
  obtain ⟨os, hos, hcs, hds⟩ := id hs
  have hTs : s.TypeIs (.ref sl) "slice" := ⟨os, hos, hcs⟩
  unfold getItem
  try with_reducible refine wpAny_holding ?_
  first | refine wpAny_bind (wpAny_pure ?_) | skip
  refine wpAny_bind (wpAny_sequenceKey ht.typeIs (by decide) ?_)
  refine wpAny_bind (wpAny_callSpecial?_slot (name := Str.ofString "__getitem__") ht.typeIs PyProof.Rows.slot_tuple_getitem
    (wpAny_call_entry PyProof.Rows.slot_tuple_getitem ht.typeIs entry_tuple_getitem ?_ (args_tuple_getitem _ _)))
  show wpAny _ _ (Builtin.Tuple.tupleItemsOf (.ref t) >>= _) _ _ s
  refine wpAny_bind (tupleItemsOf_ ht ?_)
  refine wpAny_bind (wpAny_typeOf hTs ?_)
  rw [if_pos (by decide)]
  refine wpAny_bind (sliceApplied_gen hs pl pu ?_)
  have hno : ¬ ((((sIx items.size 0 lo : Nat) : Int) == 0 && (1 : Int) == 1 && (sIx items.size items.size hi - sIx items.size 0 lo) == items.size) = true) := by
    intro q
    rw [Bool.and_eq_true, Bool.and_eq_true] at q
    have q1 : ((sIx items.size 0 lo : Nat) : Int) = 0 := eq_of_beq q.1.1
    have q2 : sIx items.size items.size hi - sIx items.size 0 lo = items.size := eq_of_beq q.2
    exact hw ⟨by omega, by omega⟩
  show wpAny _ _ (if (((sIx items.size 0 lo : Nat) : Int) == 0 && (1 : Int) == 1 && (sIx items.size items.size hi - sIx items.size 0 lo) == items.size) = true then _ else _) _ _ s
  rw [if_neg hno, pick_gen]
  first
    | exact wpAny_bind (m := Builtin.Tuple.tupleExact _) (wpAny_newObj_type (wpAny_pure ⟨_, rfl, wpAny_pure h⟩) htake)
    | exact wpAny_bind (m := Builtin.Tuple.tupleExact _) (wpAny_newObj_type (wpAny_bind (wpAny_pure (wpAny_pure ⟨_, rfl, wpAny_pure h⟩))) htake)
    | exact wpAny_bind (wpAny_bind (m := Builtin.Tuple.tupleExact _) (wpAny_newObj_type (wpAny_pure (wpAny_pure ⟨_, rfl, wpAny_pure h⟩)) htake))
    | exact wpAny_bind (wpAny_bind (m := Builtin.Tuple.tupleExact _) (wpAny_newObj_type (wpAny_pure ⟨_, rfl, wpAny_pure h⟩) htake))
end
end HT
namespace L2
open PySem PySem.Spec PyProof.Rows
abbrev TO := St → Hp → (Option Int → Hp → Prop) → Prop
def PO (X : Cx) (e : Option Expr) (t : TO) : Prop :=
  ∀ (pins : List (Addr × Obj)) (s : Shared) (σ : St) (H : Hp) (Q : Option Int → Hp → Prop), Inv X pins σ H s → t σ H Q →
    wpAny (model X.prog X.w) X.A (evalPart e X.env) (fun u s' => ∃ o H', Inv X pins σ H' s' ∧ IsPart u o ∧ Q o H') X.xe s
def tNoPart : TO := fun _ H Q => Q none H
def tPart (t : TE) : TO := fun σ H Q => t σ H fun x H1 => ∃ i, x = .int i ∧ Q (some i) H1
section
variable {X : Cx} {e : Expr} {te : TE} {lo hi : Option Expr} {tl th : TO} {pos p2 : Pos}
theorem po_none : PO X none tNoPart := by
  intro pins s σ H Q I h
  rw [evalPart_none]
  exact wpAny_pure ⟨none, H, I, .none, h⟩
theorem po_some (h : PE X e te) : PO X (some e) (tPart te) := by
  intro pins s σ H Q I hw
  rw [evalPart_some]
  refine thn (h pins s σ H _ I hw) fun u s1 ⟨x, H1, I1, r1, q1⟩ => ?_
  obtain ⟨i, rfl, q⟩ := q1
  obtain ⟨t, rfl⟩ := r1
  exact ⟨some i, H1, I1, .int i t, q⟩
def SlR (X : Cx) (r : V → Option Int → Option Int → Hp → VK → Prop) : Prop :=
  ∀ (pins : List (Addr × Obj)) (s : Shared) (σ : St) (H : Hp) (x : V) (v vl vu : Value) (lo hi : Option Int) (sl : Addr) (Q : VK), Inv X pins σ H s → RelV x v → s.heap.IsSliceOf sl vl vu .none → IsPart vl lo → IsPart vu hi → r x lo hi H Q →
    ∃ T id, typeLookup (.type T) "__getitem__" = pure (some (.builtin id)) ∧ s.TypeIs v T ∧ wpAny (model X.prog X.w) X.A (getItem v (.ref sl)) (EP X pins σ Q) X.xe s
def tSl (r : V → Option Int → Option Int → Hp → VK → Prop) (te : TE) (tl th : TO) : TE := fun σ H Q => te σ H fun x H1 => tl σ H1 fun l H2 => th σ H2 fun u H3 => r x l u H3 Q
theorem pe_slice {r : V → Option Int → Option Int → Hp → VK → Prop} (hr : SlR X r) (he : PE X e te) (hl : PO X lo tl) (hu : PO X hi th) : PE X (.Subscript e (.Slice lo hi none p2) pos) (tSl r te tl th) := by
  intro pins s σ H Q I h
  refine Subscript_ (thn (he pins s σ H _ I h) fun v s1 ⟨x, H1, I1, r1, q1⟩ => ?_)
  refine wpAny_Slice (thn (hl pins s1 σ H1 _ I1 q1) fun vl s2 ⟨l, H2, I2, pl, q2⟩ => thn (hu pins s2 σ H2 _ I2 q2) fun vu s3 ⟨u, H3, I3, pu, q3⟩ => ?_)
  rw [evalPart_none]
  refine wpAny_pure ?_
  have I4 : Inv X pins σ H3 { s3 with heap := s3.heap.push { cls := .type "slice", data := .fields #[vl, vu, .none] } } := I3.kept (t' := s3.toks) fun b ob q => Heap.get?_push_of_some _ q
  obtain ⟨T, id, hT, ht, hg⟩ := hr pins { s3 with heap := s3.heap.push { cls := .type "slice", data := .fields #[vl, vu, .none] } } σ H3 x v vl vu l u s3.heap.objs.size Q I4 r1 (Heap.IsSliceOf.new ..) pl pu q3
  show wpAny (model X.prog X.w) X.A (subscriptTail e (.Slice lo hi none p2) v (.ref s3.heap.objs.size)) (EP X pins σ Q) X.xe { s3 with heap := s3.heap.push { cls := .type "slice", data := .fields #[vl, vu, .none] } }
  exact tail_any (ops := [.ref s3.heap.objs.size, v]) ht hT hg (by with_unfolding_all rfl)
def cutV (xs : List V) (lo hi : Option Int) : List V := (xs.drop (HT.sIx xs.length 0 lo)).take (HT.sIx xs.length xs.length hi - HT.sIx xs.length 0 lo)
theorem cutV_length (xs : List V) (lo hi : Option Int) : (cutV xs lo hi).length ≤ xs.length := by
  unfold cutV
  rw [List.length_take, List.length_drop]
  omega
def rSlT (K : PySem.W.Frag) : V → Option Int → Option Int → Hp → VK → Prop := fun x lo hi H Q => ∃ a xs, x = .ref a ∧ SqT K H a xs ∧
  ¬ (HT.sIx xs.length 0 lo = 0 ∧ HT.sIx xs.length xs.length hi = xs.length) ∧ ∀ p, H p = none → Q (.ref p) (upd H p (.tup (cutV xs lo hi)))
theorem sl_tup : SlR X (rSlT X.K) := by
  intro pins s σ H x v vl vu lo hi sl Q I rx hs pl pu h
  obtain ⟨a, xs, rfl, hx, hw, q⟩ := h
  cases rx
  obtain ⟨its, r, ht, hz⟩ := I.tuple hx
  have hlen : its.toArray.size = xs.length := by rw [List.size_toArray]; exact r.length.symm
  refine ⟨"tuple", _, PyProof.Rows.slot_tuple_getitem.lookup, ht.typeIs, ?_⟩
  refine HT.getItem_tuple_cut ht hs pl pu (by rw [hlen]; exact hw) ?_ (by rw [hlen]; exact hz)
  rw [hlen]
  refine ⟨.ref s.heap.objs.size, _, I.laid (t' := s.toks) (o := .tup (cutV xs lo hi)) (fun b ob q => Heap.get?_push_of_some _ q) (Nat.le_refl _) ?_, rfl, q _ (I.hok.fresh (Nat.le_refl _))⟩
  exact ⟨Nat.le_trans (cutV_length xs lo hi) hz, _, (r.drop (HT.sIx xs.length 0 lo)).take (HT.sIx xs.length xs.length hi - HT.sIx xs.length 0 lo), IsTup.new _ _⟩
def rCatT (K : PySem.W.Frag) : R2 := fun x y H Q => ∃ a b xs ys, x = .ref a ∧ y = .ref b ∧ SqT K H a xs ∧ SqT K H b ys ∧ xs ≠ [] ∧ xs.length + ys.length ≤ sizeLine ∧
  (ys = [] → Q (.ref a) H) ∧ (ys ≠ [] → ∀ p, H p = none → Q (.ref p) (upd H p (.tup (xs ++ ys))))
theorem Vals.nil_iff {xs : List V} {us : List Value} (r : Vals xs us) : us = [] ↔ xs = [] := by
  cases r with
  | nil => simp
  | cons _ _ => simp
theorem op_catT : OpR X (binaryOp .Add) (rCatT X.K) := by
  intro pins s σ H x y v u Q I rx ry h
  obtain ⟨a, b, xs, ys, rfl, rfl, ha, hb, hx, hz, q1, q2⟩ := h
  cases rx
  cases ry
  obtain ⟨its, r1, p1, _⟩ := I.tuple ha
  obtain ⟨its2, r2, p2, _⟩ := I.tuple hb
  refine HT.cat_tup p1 p2 (fun z => hx (r1.nil_iff.mp z)) (fun z => ⟨.ref a, H, I, rfl, q1 (r2.nil_iff.mp z)⟩) (fun z => ?_) (by rw [← r1.length, ← r2.length]; exact hz)
  refine ⟨.ref s.heap.objs.size, _, I.laid (t' := s.toks) (o := .tup (xs ++ ys)) (fun b ob q => Heap.get?_push_of_some _ q) (Nat.le_refl _) ?_, rfl, q2 (fun w => z (r2.nil_iff.mpr w)) _ (I.hok.fresh (Nat.le_refl _))⟩
  exact ⟨by rw [List.length_append]; exact hz, _, r1.append r2, IsTup.new _ _⟩
end
end L2
namespace L2
open PySem PySem.Spec PyProof.Rows
def ixN (n : Nat) (i : Int) : Option Nat := if 0 ≤ i then (if i < n then some i.toNat else none) else if -(n : Int) ≤ i then some (i + n).toNat else none
def atI {α : Type} (xs : List α) (i : Int) : Option α := (ixN xs.length i).bind fun j => xs[j]?
theorem ixN_seq {n : Nat} {i : Int} {j : Nat} (h : ixN n i = some j) : seqIndex? i n = some j ∧ j < n ∧ -(n : Int) ≤ i ∧ i < n := by
  unfold ixN at h
  by_cases h0 : 0 ≤ i
  · rw [if_pos h0] at h
    by_cases h1 : i < n
    · rw [if_pos h1] at h
      have e : i.toNat = j := Option.some.inj h
      exact ⟨by rw [seqIndex_of h0 h1, e], by omega, by omega, h1⟩
    · rw [if_neg h1] at h; cases h
  · rw [if_neg h0] at h
    by_cases h1 : -(n : Int) ≤ i
    · rw [if_pos h1] at h
      have e : (i + n).toNat = j := Option.some.inj h
      exact ⟨by rw [seqIndex_neg (by omega) h1, e], by omega, h1, by omega⟩
    · rw [if_neg h1] at h; cases h
theorem atI_get {α : Type} {xs : List α} {i : Int} {v : α} (h : atI xs i = some v) : ∃ j, seqIndex? i xs.length = some j ∧ xs[j]? = some v ∧ j < xs.length ∧ -(xs.length : Int) ≤ i ∧ i < xs.length := by
  unfold atI at h
  cases e : ixN xs.length i with
  | none => rw [e] at h; cases h
  | some j =>
    rw [e] at h
    obtain ⟨h1, h2, h3, h4⟩ := ixN_seq e
    exact ⟨j, h1, h, h2, h3, h4⟩
theorem atI_nat {α : Type} {xs : List α} {j : Nat} {v : α} (h : xs[j]? = some v) : atI xs (j : Int) = some v := by
  have hj : j < xs.length := (List.getElem?_eq_some_iff.mp h).1
  have e : ixN xs.length (j : Int) = some j := by
    unfold ixN
    rw [if_pos (by omega), if_pos (by omega)]; simp
  unfold atI; rw [e]; exact h
def PlainIx (b : Expr) : Prop := ∀ o i, subscripted b false o i = operate [o, i] (getItem o i)
def IxR (X : Cx) (r : R2) : Prop :=
  ∀ (value slice : Expr) (pins : List (Addr × Obj)) (s : Shared) (σ : St) (H : Hp) (x y : V) (v u : Value) (Q : VK), Inv X pins σ H s → RelV x v → RelV y u → r x y H Q →
    subscripted slice false v u = operate [v, u] (getItem v u) → wpAny (model X.prog X.w) X.A (subscriptTail value slice v u) (EP X pins σ Q) X.xe s
def MtR (X : Cx) (id : String) (r : V → List V → Hp → VK → Prop) : Prop :=
  ∀ (pins : List (Addr × Obj)) (s : Shared) (σ : St) (H : Hp) (x : V) (xs : List V) (v : Value) (us : List Value) (Q : VK), Inv X pins σ H s → RelV x v → Vals xs us → r x xs H Q →
    wpAny (model X.prog X.w) X.A (call (.builtin id) (v :: us)) (EP X pins σ Q) X.xe s
section
variable {X : Cx} {a b : Expr} {ta tb : TE} {pos : Pos}
theorem pe_ix {r : R2} (hr : IxR X r) (ha : PE X a ta) (hb : PE X b tb) (hs : PlainIx b) : PE X (.Subscript a b pos) (tOp r ta tb) := by
  intro pins s σ H Q I h
  exact Subscript_ (binT ha hb I h fun v u s2 x y H2 I2 rx ry q => hr a b pins s2 σ H2 x y v u Q I2 rx ry q (hs _ _))
def rIxL (K : PySem.W.Frag) : R2 := fun x y H Q => ∃ p xs i v, x = .ref p ∧ y = .int i ∧ SqL K H p xs ∧ atI xs i = some v ∧ Q v H
def rIxT (K : PySem.W.Frag) : R2 := fun x y H Q => ∃ p xs i v, x = .ref p ∧ y = .int i ∧ SqT K H p xs ∧ atI xs i = some v ∧ Q v H
theorem ix_list : IxR X (rIxL X.K) := by
  intro value slice pins s σ H x y v u Q I rx ry h hs
  obtain ⟨p, xs, i, z, rfl, rfl, hq, he, q⟩ := h
  cases rx
  obtain ⟨t, rfl⟩ := ry
  obtain ⟨its, r, pl, hz⟩ := I.list hq
  obtain ⟨j, h1, h2, h3, h4, h5⟩ := atI_get he
  obtain ⟨w, ew, rw'⟩ := r.get h2
  have hl := r.length
  have hn := line63
  have fin : EP X pins σ Q w s := ⟨z, H, I, rw', q⟩
  by_cases h0 : 0 ≤ i
  · have hj : i.toNat = j := by
      rw [seqIndex_of h0 h5] at h1
      exact Option.some.inj h1
    exact item_listR pl.isList h0 (by omega) (by rw [hj]; simpa using ew) fin hs
  · have hj : (i + (its.toArray.size : Int)).toNat = j := by
      rw [seqIndex_neg (by omega) h4] at h1
      rw [List.size_toArray, ← hl]
      exact Option.some.inj h1
    exact subscriptTail_builtinR (x := w) pl.isList.typeIs slot_list_getitem.lookup
      (wpAny_getItem_list_neg (Q := fun r s' => r = w ∧ EP X pins σ Q r s') pl.isList (by omega) (by rw [List.size_toArray] <;> omega) (by omega) (by rw [hj]; simpa using ew) ⟨rfl, fin⟩) hs
theorem ix_tup : IxR X (rIxT X.K) := by
  intro value slice pins s σ H x y v u Q I rx ry h hs
  obtain ⟨p, xs, i, z, rfl, rfl, hq, he, q⟩ := h
  cases rx
  obtain ⟨t, rfl⟩ := ry
  obtain ⟨its, r, pl, hz⟩ := I.tuple hq
  obtain ⟨j, h1, h2, h3, h4, h5⟩ := atI_get he
  obtain ⟨w, ew, rw'⟩ := r.get h2
  have hl := r.length
  have hn := line63
  have fin : EP X pins σ Q w s := ⟨z, H, I, rw', q⟩
  exact subscriptTail_builtinR (x := w) pl.typeIs slot_tuple_getitem.lookup
    (getItem_tuple (j := j) (Q := fun r s' => r = w ∧ EP X pins σ Q r s') pl (by omega) (by omega) (by rw [List.size_toArray, ← hl]; exact h1) (by simpa using ew) ⟨rfl, fin⟩) hs
theorem Inv.lst {pins : List (Addr × Obj)} {σ : St} {H : Hp} {s : Shared} {p : Addr} {xs : List V} (I : Inv X pins σ H s) (h : H p = some (.lst xs)) :
    ∃ (its : List Value) (n : Nat), Vals xs its ∧ s.heap.get? p = some { cls := .type "list", data := .seq its.toArray n } ∧ xs.length ≤ sizeLine := by
  obtain ⟨z, its, n, r, e⟩ := I.hok p _ h
  exact ⟨its, n, r, e, z⟩
def rSetL : V → V → V → Hp → (Hp → Prop) → Prop := fun o i v H Q => ∃ p xs k j, o = .ref p ∧ i = .int k ∧ H p = some (.lst xs) ∧ ixN xs.length k = some j ∧ Q (upd H p (.lst (xs.set j v)))
def flatV : V → Bool
  | .non => true
  | .bl _ => true
  | .int _ => true
  | .str _ => true
  | _ => false
def eqV : V → V → Bool
  | .non, .non => true
  | .bl a, .bl b => a == b
  | .bl a, .int b => (if a then 1 else 0) == b
  | .int a, .bl b => a == (if b then 1 else 0)
  | .int a, .int b => a == b
  | .str a, .str b => a == b
  | _, _ => false
theorem eqAt_V {A : Around} {s : Shared} {y x : V} {u v : Value} (ry : RelV y u) (rx : RelV x v) (fy : flatV y = true) (fx : flatV x = true) : SeqAt.EqAt A s u v (eqV y x) := by
  cases y with
  | non =>
    cases ry
    cases x with
    | non => cases rx; exact SeqAt.EqAt.same _
    | bl b => cases rx; exact SeqAt.EqAt.none_bool b
    | int b => obtain ⟨t, rfl⟩ := rx; exact SeqAt.EqAt.none_int b t
    | str b => obtain ⟨t, rfl⟩ := rx; exact SeqAt.EqAt.none_str b t
    | _ => exact absurd (show false = true from fx) Bool.false_ne_true
  | bl a =>
    cases ry
    cases x with
    | non => cases rx; exact SeqAt.EqAt.bool_none a
    | bl b => cases rx; exact SeqAt.EqAt.bool_bool a b
    | int b => obtain ⟨t, rfl⟩ := rx; exact SeqAt.EqAt.bool_int a b t
    | str b => obtain ⟨t, rfl⟩ := rx; exact SeqAt.EqAt.bool_str a b t
    | _ => exact absurd (show false = true from fx) Bool.false_ne_true
  | int a =>
    obtain ⟨t', rfl⟩ := ry
    cases x with
    | non => cases rx; exact SeqAt.EqAt.int_none a t'
    | bl b => cases rx; exact SeqAt.EqAt.int_bool a t' b
    | int b => obtain ⟨t, rfl⟩ := rx; exact SeqAt.EqAt.int_int a t' b t
    | str b => obtain ⟨t, rfl⟩ := rx; exact SeqAt.EqAt.int_str a t' b t
    | _ => exact absurd (show false = true from fx) Bool.false_ne_true
  | str a =>
    obtain ⟨t', rfl⟩ := ry
    cases x with
    | non => cases rx; exact SeqAt.EqAt.str_none a t'
    | bl b => cases rx; exact SeqAt.EqAt.str_bool a t' b
    | int b => obtain ⟨t, rfl⟩ := rx; exact SeqAt.EqAt.str_int a t' b t
    | str b => obtain ⟨t, rfl⟩ := rx; exact SeqAt.EqAt.str_str a t' b t
    | _ => exact absurd (show false = true from fx) Bool.false_ne_true
  | _ => exact absurd (show false = true from fy) Bool.false_ne_true
def eqU (x : V) (u : Value) : Bool := match u with
  | .none => eqV .non x
  | .bool b => eqV (.bl b) x
  | .int i _ => eqV (.int i) x
  | .str z _ => eqV (.str z) x
  | _ => false
theorem eqU_of {x y : V} {u : Value} (r : RelV y u) (f : flatV y = true) : eqU x u = eqV y x := by
  cases y with
  | non => cases r; rfl
  | bl b => cases r; rfl
  | int i => obtain ⟨t, rfl⟩ := r; rfl
  | str z => obtain ⟨t, rfl⟩ := r; rfl
  | _ => exact absurd (show false = true from f) Bool.false_ne_true
theorem any_eqU {x : V} : ∀ {xs : List V} {us : List Value}, Vals xs us → xs.all flatV = true → us.any (eqU x) = xs.any fun y => eqV y x
  | _, _, .nil, _ => rfl
  | y :: xs, u :: us, .cons r t, f => by
    rw [List.all_cons, Bool.and_eq_true] at f
    rw [List.any_cons, List.any_cons, eqU_of r f.1, any_eqU t f.2]
theorem mem_eqAt {A : Around} {s : Shared} {x : V} {v : Value} (rx : RelV x v) (fx : flatV x = true) : ∀ {xs : List V} {us : List Value}, Vals xs us → xs.all flatV = true → ∀ u ∈ us, SeqAt.EqAt A s u v (eqU x u)
  | _, _, .nil, _ => fun u hu => by cases hu
  | y :: xs, u :: us, .cons r t, f => fun u' hu => by
    rw [List.all_cons, Bool.and_eq_true] at f
    rcases List.mem_cons.mp hu with rfl | hu
    · rw [eqU_of r f.1]; exact eqAt_V r rx f.1 fx
    · exact mem_eqAt rx fx t f.2 u' hu
def inV (x : V) (xs : List V) : Bool := xs.any fun y => eqV y x
def rIn (K : PySem.W.Frag) (neg : Bool) : R2 := fun x y H Q => ∃ p xs, y = .ref p ∧ (SqL K H p xs ∨ SqT K H p xs) ∧ flatV x = true ∧ xs.all flatV = true ∧ Q (.bl (if neg then !inV x xs else inV x xs)) H
theorem op_in_seq : OpR X (compareOp .In) (rIn X.K false) := by
  intro pins s σ H x y v u Q I rx ry h
  obtain ⟨p, xs, rfl, hq, fx, fs, q⟩ := h
  cases ry
  rcases hq with hq | hq
  · obtain ⟨its, r, pl, hz⟩ := I.list hq
    refine SeqAt.in_listAt (eqU x) pl.isList (fun w hw => mem_eqAt rx fx r fs w (by simpa using hw)) ⟨.bl _, H, I, rfl, ?_⟩
    rw [show its.toArray.any (eqU x) = its.any (eqU x) by simp, any_eqU r fs]
    exact q
  · obtain ⟨its, r, pl, hz⟩ := I.tuple hq
    refine SeqAt.in_tupleAt (eqU x) pl (fun w hw => mem_eqAt rx fx r fs w (by simpa using hw)) ⟨.bl _, H, I, rfl, ?_⟩
    rw [show its.toArray.any (eqU x) = its.any (eqU x) by simp, any_eqU r fs]
    exact q
theorem call_len_seq : CallR X (.builtin "len") (fun xs H Q => ∃ p ys, xs = [.ref p] ∧ (SqL X.K H p ys ∨ SqT X.K H p ys) ∧ Q (.int ys.length) H) := by
  intro pins s σ H xs us Q I r h
  obtain ⟨p, ys, rfl, hq, q⟩ := h
  obtain ⟨u, rfl, rx⟩ := vals1 r
  cases rx
  have hn := line63
  rcases hq with hq | hq
  · obtain ⟨its, r', pl, hz⟩ := I.list hq
    have hlen := r'.length
    exact Calls.call_len_list pl.isList (by simp only [List.size_toArray] <;> omega) ⟨.int ys.length, H, I.tok _, ⟨s.toks + 1, by rw [List.size_toArray, hlen]⟩, q⟩
  · obtain ⟨its, r', pl, hz⟩ := I.tuple hq
    have hlen := r'.length
    exact len_tuple pl (by simp only [List.size_toArray] <;> omega) ⟨.int ys.length, H, I.tok _, ⟨s.toks + 1, by rw [List.size_toArray, hlen]⟩, q⟩
theorem call_list_of : CallR X (.type "list") (fun xs H Q => ∃ p ys, xs = [.ref p] ∧ (SqL X.K H p ys ∨ SqT X.K H p ys) ∧ ∀ l, H l = none → Q (.ref l) (upd H l (.lst ys))) := by
  intro pins s σ H xs us Q I r h
  obtain ⟨p, ys, rfl, hq, q⟩ := h
  obtain ⟨u, rfl, rx⟩ := vals1 r
  cases rx
  have fin : ∀ (its : List Value), Vals ys its → ys.length ≤ sizeLine → ∀ (h' : Heap) (c' : Nat), (∀ b o', s.heap.get? b = some o' → h'.get? b = some o') →
      h'.get? s.heap.objs.size = some { cls := .type "list", dict := none, data := .seq its.toArray c', slots := #[] } → EP X pins σ Q (.ref s.heap.objs.size) { s with heap := h' } := fun its r' hz h' c' kp e =>
    ⟨.ref s.heap.objs.size, _, I.laid (t' := s.toks) kp (Nat.le_refl _) (show ObjOk X.prog X.w _ h' _ (.lst ys) from ⟨hz, its, c', r', e⟩), rfl, q _ (I.hok.fresh (Nat.le_refl _))⟩
  rcases hq with hq | hq
  · obtain ⟨its, r', pl, hz⟩ := I.list hq
    have hlen := r'.length
    obtain ⟨o, ho, hc, n, hd⟩ := pl.isList
    exact call_list_seq p (.inl rfl) ho hc hd (fun h' c' kp e => fin its r' hz h' c' kp e) (by simp only [List.size_toArray] <;> omega)
  · obtain ⟨its, r', pl, hz⟩ := I.tuple hq
    have hlen := r'.length
    obtain ⟨o, ho, hc, n, hd⟩ := pl
    exact call_list_seq p (.inr rfl) ho hc hd (fun h' c' kp e => fin its r' hz h' c' kp e) (by simp only [List.size_toArray] <;> omega)
theorem call_tuple_of : CallR X (.type "tuple") (fun xs H Q => ∃ p ys, xs = [.ref p] ∧ ((SqL X.K H p ys ∧ ∀ l, H l = none → Q (.ref l) (upd H l (.tup ys))) ∨ (SqT X.K H p ys ∧ Q (.ref p) H))) := by
  intro pins s σ H xs us Q I r h
  obtain ⟨p, ys, rfl, h⟩ := h
  obtain ⟨u, rfl, rx⟩ := vals1 r
  cases rx
  rcases h with ⟨hq, q⟩ | ⟨hq, q⟩
  · obtain ⟨its, r', pl, hz⟩ := I.list hq
    have hlen := r'.length
    refine call_tuple_list pl.isList (fun h' kp => ?_) (by simp only [List.size_toArray] <;> omega)
    have I1 : Inv X pins σ H { s with heap := h' } := I.kept (t' := s.toks) kp
    have I2 : Inv X pins σ (upd H h'.objs.size (.tup ys)) { s with heap := h'.push { cls := .type "tuple", data := .seq its.toArray } } :=
      I1.laid (t' := s.toks) (fun b o e => Heap.get?_push_of_some _ e) (Nat.le_refl _) (show ObjOk X.prog X.w _ _ _ (.tup ys) from ⟨hz, its, r', IsTup.new _ _⟩)
    exact ⟨.ref h'.objs.size, _, I2, rfl, q _ (I1.hok.fresh (Nat.le_refl _))⟩
  · obtain ⟨its, r', pl, hz⟩ := I.tuple hq
    exact call_tuple_same pl ⟨.ref p, H, I, rfl, q⟩
def tyV (K : PySem.W.Frag) (T : String) (x : V) (H : Hp) : Prop := match x with
  | .str _ => T = "str"
  | .int _ => T = "int"
  | .ref p => (T = "list" ∧ ∃ xs, SqL K H p xs) ∨ (T = "tuple" ∧ ∃ o, K.lookup p = some o ∧ o.cls = .type "tuple" ∧ o.dict = none) ∨
      (T = "dict" ∧ ((∃ kvs, H p = some (.dK kvs)) ∨ ∃ kvs, H p = some (.dT kvs))) ∨ (T = "set" ∧ ∃ S n, H p = some (.set S n))
  | _ => False
theorem tyV_is {pins : List (Addr × Obj)} {σ : St} {H : Hp} {s : Shared} {T : String} {x : V} {v : Value} (I : Inv X pins σ H s) (r : RelV x v) (ty : tyV X.K T x H) :
    s.TypeIs v T ∧ ∀ a, v = .ref a → ∃ ob, s.heap.get? a = some ob ∧ ob.dict = none := by
  cases x with
  | str z =>
    obtain ⟨t, rfl⟩ := r
    cases (show T = "str" from ty)
    exact ⟨typeIs_str s z t, fun _ e => nomatch e⟩
  | int i =>
    obtain ⟨t, rfl⟩ := r
    cases (show T = "int" from ty)
    exact ⟨typeIs_int s i t, fun _ e => nomatch e⟩
  | ref p =>
    cases r
    rcases ty with ⟨rfl, xs, hq⟩ | ⟨rfl, o, hk, hc, hd⟩ | ⟨rfl, hk⟩ | ⟨rfl, S, n, hk⟩
    · obtain ⟨its, _, pl, _⟩ := I.list hq
      refine ⟨pl.isList.typeIs, fun a e => ?_⟩
      cases e
      obtain ⟨o, n, e, c, hd, _⟩ := pl
      exact ⟨o, e, hd⟩
    · refine ⟨⟨o, I.kIn p o hk, hc⟩, fun a e => ?_⟩
      cases e
      exact ⟨o, I.kIn _ o hk, hd⟩
    · have z : ∃ o, s.heap.get? p = some o ∧ o.ExactDict := by
        rcases hk with ⟨kvs, hk⟩ | ⟨kvs, hk⟩
        · obtain ⟨_, _, _, _, o, _, _, e, ex, _⟩ := I.hok p _ hk
          exact ⟨o, e, ex⟩
        · obtain ⟨_, _, _, _, o, _, _, e, ex, _⟩ := I.hok p _ hk
          exact ⟨o, e, ex⟩
      obtain ⟨o, e, ex⟩ := z
      refine ⟨⟨o, e, ex.1⟩, fun a e2 => ?_⟩
      cases e2
      exact ⟨o, e, ex.2.1⟩
    · obtain ⟨o, _, _, _, e, ex, _⟩ := I.hok p _ hk
      refine ⟨⟨o, e, ex.1⟩, fun a e2 => ?_⟩
      cases e2
      exact ⟨o, e, ex.2.1⟩
  | _ => exact False.elim ty
def tBM0 (K : PySem.W.Frag) (T : String) (r : V → List V → Hp → VK → Prop) (to : TE) : TE := fun σ H Q => to σ H fun x H1 => tyV K T x H1 ∧ r x [] H1 Q
variable {o e : Expr} {es : List Expr} {to : TE} {t : TA} {name : Str} {apos cpos : Pos} {T id : String} {r : V → List V → Hp → VK → Prop}
theorem pe_bm0 (pa : PlainAttrs T) (slot : Slot T name id) (hty : typeOf (.builtin id) = pure (.type "method_descriptor")) (hm : MtR X id r) (ho : PE X o to)
    (hbase : attributeBase o name X.env (eval o X.env) = eval o X.env := by rfl) (hline : (apos.endLine == cpos.line) = true := by rfl) : PE X (.Call (.Attribute o name apos) [] [] cpos) (tBM0 X.K T r to) := by
  intro pins s σ H Q I h
  refine wpAny_Call_method0_late hbase hline (thn (ho pins s σ H _ I h) fun v s1 ⟨x, H1, I1, r1, ty, q1⟩ => ?_)
  obtain ⟨h1, h2⟩ := tyV_is I1 r1 ty
  exact ⟨T, id, pa, slot, hty, h1, h2, Calls.callWith_builtin rfl (PySem.evalArgs_none (hm pins s1 σ H1 x [] v [] Q I1 r1 .nil q1))⟩
end
end L2
namespace L2
open PySem PySem.Spec PyProof.Rows
def MtM (X : Cx) (id : String) (r : V → List V → Hp → VK → Prop) : Prop :=
  ∀ (pins : List (Addr × Obj)) (s : Shared) (σ : St) (H : Hp) (x : V) (xs : List V) (v : Value) (us : List Value) (Q : VK), Inv X pins σ H s → RelV x v → Vals xs us → r x xs H Q →
    wpAny (model X.prog X.w) X.A (call (.builtin id) (v :: us)) (EP X pins σ Q) X.xe s
theorem Vals.one : ∀ {x : V} {us : List Value}, Vals [x] us → ∃ u, us = [u] ∧ RelV x u
  | _, _, .cons r .nil => ⟨_, rfl, r⟩
theorem Vals.two : ∀ {x y : V} {us : List Value}, Vals [x, y] us → ∃ u v, us = [u, v] ∧ RelV x u ∧ RelV y v
  | _, _, _, .cons r (.cons q .nil) => ⟨_, _, rfl, r, q⟩
theorem Vals.zero : ∀ {us : List Value}, Vals [] us → us = []
  | _, .nil => rfl
theorem Vals.dropLast {xs : List V} {us : List Value} (h : Vals xs us) : Vals xs.dropLast us.dropLast := by
  induction h with
  | nil => exact .nil
  | cons r t ih =>
    cases t with
    | nil => exact .nil
    | cons q t' => exact .cons r ih
theorem Vals.reverse {xs : List V} {us : List Value} (h : Vals xs us) : Vals xs.reverse us.reverse := by
  induction h with
  | nil => exact .nil
  | cons r t ih => rw [List.reverse_cons, List.reverse_cons]; exact Vals.append ih (.cons r .nil)
section
variable {X : Cx} {pins : List (Addr × Obj)} {σ : St} {H : Hp} {s : Shared} {l b : Addr} {xs ys zs : List V}
theorem Inv.lset {its its' : List Value} {n : Nat} {f : Array Value → Array Value} {t' : Nat} (I : Inv X pins σ H s) (hH : H l = some (.lst xs))
    (e : s.heap.get? l = some { cls := .type "list", data := .seq its.toArray n }) (hf : f its.toArray = its'.toArray) (hv : Vals ys its') (hz : ys.length ≤ sizeLine) :
    Inv X pins σ (upd H l (.lst ys)) { s with heap := s.heap.update l (Obj.mapSeq f), toks := t' } := by
  have q := PySem.IsL.update e f
  rw [hf] at q
  refine I.write (x := l) (e := l) (by rw [hH]; exact trivial) (.inl rfl) (fun b' u hb hu => (Heap.get?_update_other s.heap (Obj.mapSeq f) (Ne.symm hb)).trans hu) ⟨_, q⟩ ?_
  exact ⟨hz, its', _, hv, q⟩
theorem Inv.lnew {its : List Value} {t' : Nat} (I : Inv X pins σ H s) (hv : Vals ys its) (hz : ys.length ≤ sizeLine) :
    Inv X pins σ (upd H s.heap.objs.size (.lst ys)) { s with heap := s.heap.push { cls := .type "list", data := .seq its.toArray }, toks := t' } :=
  I.laid (fun _ _ q => Heap.get?_push_of_some _ q) (Nat.le_refl _) ⟨hz, its, 0, hv, Heap.get?_push_size _ rfl⟩
theorem Inv.fresh (I : Inv X pins σ H s) : H s.heap.objs.size = none := I.hok.fresh (Nat.le_refl _)
theorem Inv.lstM (I : Inv X pins σ H s) (hH : H l = some (.lst xs)) : xs.length ≤ sizeLine ∧ ∃ (its : List Value) (n : Nat), Vals xs its ∧ xs.length = its.length ∧ s.heap.get? l = some { cls := .type "list", data := .seq its.toArray n } := by
  obtain ⟨z, its, n, r, e⟩ := I.hok l _ hH
  exact ⟨z, its, n, r, r.length, e⟩
end
section
variable {X : Cx}
def rAppend : V → List V → Hp → VK → Prop := fun x vs H Q => ∃ l xs y, x = .ref l ∧ vs = [y] ∧ H l = some (.lst xs) ∧ xs.length < sizeLine ∧ Q .non (upd H l (.lst (xs ++ [y])))
theorem mt_append : MtM X "list.append" rAppend := by
  intro pins s σ H x vs v us Q I rx rv h
  obtain ⟨l, xs, y, rfl, rfl, hH, hz, q⟩ := h
  cases rx
  obtain ⟨u, rfl, ru⟩ := rv.one
  obtain ⟨z, its, n, r, hl, e⟩ := I.lstM hH
  refine call_meets F.slot_list_append ⟨_, e, rfl⟩ F.entry_list_append (F.args_list_append_2 _ _) (PySem.list_append l its.toArray n u (by rw [List.size_toArray]; omega)) ⟨e, ?_⟩
  refine ⟨.non, _, I.lset (its' := its ++ [u]) hH e (by simp) (r.append (.cons ru .nil)) ?_, rfl, q⟩
  rw [List.length_append, List.length_singleton]
  omega
def rCat : R2 := fun x y H Q => ∃ l b xs zs, x = .ref l ∧ y = .ref b ∧ H l = some (.lst xs) ∧ H b = some (.lst zs) ∧ xs.length + zs.length ≤ sizeLine ∧ ∀ p, H p = none → Q (.ref p) (upd H p (.lst (xs ++ zs)))
theorem op_cat : OpR X (binaryOp .Add) rCat := by
  intro pins s σ H x y v u Q I rx ry h
  obtain ⟨l, b, xs, zs, rfl, rfl, hH, hB, hz, q⟩ := h
  cases rx
  cases ry
  obtain ⟨z, its, n, r, hl, e⟩ := I.lstM hH
  obtain ⟨z2, its2, n2, r2, hl2, e2⟩ := I.lstM hB
  refine PySem.P.add_list e e2 ?_ (by rw [List.size_toArray, List.size_toArray]; omega)
  have ea : its.toArray ++ its2.toArray = (its ++ its2).toArray := by simp
  rw [ea]
  exact ⟨.ref _, _, I.lnew (t' := s.toks) (r.append r2) (by rw [List.length_append]; omega), rfl, q _ I.fresh⟩
end
section
variable {prog : Program} {w : World} {A : Around} {E : Value → Shared → Prop} {s : Shared}
end
section
variable {X : Cx}
end
end L2
namespace Att
open PySem PySem.W PySem.Calls PyProof.Rows
theorem ints_of_wellAll {P : Params} {h : Heap} : ∀ (ns : List Int) (vs : List Value), WellAll P h vs (ns.map WData.int) → IntsAre vs ns := by
  intro ns
  induction ns with
  | nil =>
    intro vs w
    rw [List.map_nil] at w
    cases w
    exact .nil
  | cons n ns ih =>
    intro vs w
    rw [List.map_cons] at w
    cases w with
    | cons a b =>
      cases a
      exact .cons _ _ (ih _ b)
theorem script_of {l : OpenLaw} {n : Nat} (hn : l.most = some n) {P : Params} {h : Heap} {args : List WData} {vals : List Value}
    (hpre : l.row.toRowW.claim.pre args = true) (hwl : WellAll P h vals args) :
    ∃ a vs ns, vals = [Value.ref a] ∧ args = [WData.list (ns.map WData.int)] ∧ h.get? a = some { cls := .type "list", data := .seq vs.toArray } ∧ IntsAre vs ns ∧ ns.length ≤ n := by
  have hsh : WShape.hasAll [] args [.list .int] = true := (pre_splitW hpre).1
  have hc : l.pre.holds [] { args := args } = true := (pre_splitW hpre).2
  obtain ⟨d, r, rfl, h1, h2⟩ := hasAllW_cons hsh
  obtain rfl := hasAllW_nil h2
  obtain ⟨xs, rfl, h3⟩ := hasW_list h1
  obtain ⟨ns, rfl⟩ := items_int h3
  have hlen : ns.length ≤ n := by
    unfold OpenLaw.pre at hc
    have h4 : (WTm.not (.lt (.lit (.int (n : Int))) (.len (.arg 0)))).holds [] { args := [.list (ns.map .int)] } = true := by
      have h4 := (holds_andW hc).1
      rw [hn] at h4
      exact h4
    have h5 := condW_of h4 (w_not (w_lt w_lit (w_len_list (w_arg rfl))))
    rw [List.length_map] at h5
    refine Nat.le_of_not_lt fun q => ?_
    have q' : (n : Int) < ((ns.length : Nat) : Int) := by omega
    first
      | (rw [decide_eq_true q'] at h5; exact absurd h5 (by decide))
      | (simp at h5; omega)
  cases hwl with
  | cons w1 w2 =>
    cases w2
    cases w1 with
    | list ho hall => exact ⟨_, _, ns, rfl, rfl, ho, ints_of_wellAll ns _ hall, hlen⟩
theorem post_true (l : OpenLaw) (args : List WData) : l.row.toRowW.claim.post args (.bool true) args = true :=
  postW_of (r := l.row.toRowW) (X := (true == true))
    (show WShape.has [] (.bool true) .bool = true by first | rfl | decide | simp [WShape.has, WShape.arms, WShape.armsAll])
    (show (WTm.eq .res (.lit (.bool true))).value [] { args := args, res := some (.bool true), after := args } = some (.bool (true == true)) from w_eq_bool (w_res rfl) w_lit) rfl
theorem attach_call {l : OpenLaw} {n : Nat} {q : Program} {loose : List Str} {XP : (Str → Option Value) → Heap → Prop} {YP : World → Heap → Prop} {d : DefRec}
    (hn : l.most = some n) (hdf : d.params.defaults = [])
    (call : ∀ (w : World) (s₀ s₁ : Shared) (mg mb : Str → Option Value) (fa : Addr) (o : Obj) (pm cd doc : Value) (a : Addr) (vs : List Value) (ns : List Int),
      Ground q loose [] XP w s₀ mg mb s₁.heap → YP w s₁.heap →
      s₁.heap.get? fa = some o → o.data = .func (docDef d.name d.params d.body d.scope pm cd doc) → s₁.heap.CodeRec cd d.name → mg d.name = some (.ref fa) →
      s₁.heap.get? a = some { cls := .type "list", data := .seq vs.toArray } → IntsAre vs ns → ns.length ≤ n → s₁.gens = #[] →
      codeAny (model l.prog w) callerA (.call (.ref fa) ⟨[.ref a], []⟩) (fun r s' => r = .ok (.ret (.bool true)) ∧ OldK s₁.heap s'.heap ∧ s'.os = s₁.os ∧ AllBare s'.gens) s₁) :
    WalkO q loose XP YP l.row.toRowW d [] (fun f vs => PySem.call f vs) := by
  intro w s₀ s₁ mg mb G Y fa o pm cd doc dV kV ho hd hcd hD hmg hg args vals as hpre hlay hrd hwl hlo
  obtain rfl : dV = .none := Dflts.none hD hdf
  obtain rfl : kV = .none := Dflts.noKw hD
  obtain ⟨a, vs, ns, rfl, rfl, hobj, hints, hlen⟩ := script_of hn hpre hwl
  refine enter_call (codeAny_mono (call w s₀ s₁ mg mb fa o pm cd doc a vs ns G Y ho (fd_plain hd) hcd hmg hobj hints hlen hg) fun r s' hq => ?_)
  obtain ⟨rfl, h2, h3, h4⟩ := hq
  exact ⟨.inl ⟨.bool true, .bool true, [], rfl, fun _ => rfl, .bool true, post_true l _, fun _ => ⟨List.Pairwise.nil, fun _ hm => (nomatch hm)⟩⟩, h2, h3, h4⟩
section
variable {prog : Program} {w : World} {A : Around} {E : Value → Shared → Prop} {s : Shared} {K : Frag}
end
end Att
namespace L2
open PySem PySem.Spec PyProof.Rows
theorem vals_ints : ∀ {vs : List Value} {ns : List Int}, IntsAre vs ns → Vals (ns.map V.int) vs
  | _, _, .nil => .nil
  | _, _, .cons n t h => .cons ⟨t, rfl⟩ (vals_ints h)
def Only (H : Hp) : Prop := ∀ b, H b = none ∨ ∃ o xs, H b = some (.frz o (.lst xs))
theorem law_call {P : Program} {w : World} {K : PySem.W.Frag} {mg mb : Str → Option Value} {CX : CXT} {k : Nat} {fa a : Addr} {fd : FuncData} {x : Str} {sp : Sp} {s₁ : Shared} {vs : List Value} {ns : List Int}
    (KX : K.In s₁.heap) (hns : s₁.heap.Ns mainGlobals mg) (hb : s₁.heap.Ns builtinsNs mb) (hbb : ∀ x : Str, x ≠ "__name__" → mb x = bootBuiltins x) (hlim : s₁.heap.NoLimit) (hg : s₁.gens = #[])
    (ha : s₁.heap.get? a = some { cls := .type "list", data := .seq vs.toArray }) (hi : IntsAre vs ns) (hl : ns.length ≤ sizeLine) (hr : Room k callerA)
    (F : ∀ base : Heap, K.In base → base.Ns mainGlobals mg → FnOk P w K mg base CX k fa fd [x] sp) (hbind : ∀ (s : Shared) (u : Value), BindsTo s fd ⟨[u], []⟩ [(x, u)])
    (hsp : ∀ H : Hp, Only H → SqL K H a (ns.map V.int) → sp [.ref a] H (fun v _ => v = .bl true) fun _ _ _ => False)
    (hCX : ∀ H e s', CX [] H s₁ (fun _ _ _ => False) e s' → False) :
    codeAny (model P w) callerA (.call (.ref fa) ⟨[.ref a], []⟩) (fun r s' => r = .ok (.ret (.bool true)) ∧ OldK s₁.heap s'.heap ∧ s'.os = s₁.os ∧ AllBare s'.gens) s₁ := by
  have rv := vals_ints hi
  have lenV := hi.length
  have core : ∀ H : Hp, Only H → SqL K H a (ns.map V.int) → HOk P w H s₁.heap → (∀ b, H b ≠ none → b = a) → (H a ≠ none → K.lookup a = none) →
      codeAny (model P w) callerA (.call (.ref fa) ⟨[.ref a], []⟩) (fun r s' => r = .ok (.ret (.bool true)) ∧ OldK s₁.heap s'.heap ∧ s'.os = s₁.os ∧ AllBare s'.gens) s₁ := by
    intro H hO hS hok hA hK
    have base_of : ∀ {b : Addr} {o : Obj}, s₁.heap.get? b = some o → H b = none → (hidT s₁.heap H).get? b = some o := fun e n => hidT_get e n
    have noA : ∀ {b : Addr} {o : Obj} {es : Array DictEntry} {ep : Nat}, s₁.heap.get? b = some o → o.data = .dict es ep → H b = none := fun {b o es ep} e d => by
      cases q : H b with
      | none => rfl
      | some u =>
        have e' : b = a := hA b (by rw [q]; simp)
        subst e'
        rw [ha] at e; cases e
        have d' : Data.seq vs.toArray _ = Data.dict es ep := d
        cases d'
    have nsK : ∀ {b : Addr} {m : Str → Option Value}, s₁.heap.Ns b m → (hidT s₁.heap H).Ns b m := fun {b m} ⟨o, es, ep, e, d, r⟩ => ⟨o, es, ep, base_of e (noA e d), d, r⟩
    have hKb : K.In (hidT s₁.heap H) := fun b o e => base_of (KX b o e) (by
      cases q : H b with
      | none => rfl
      | some u =>
        have e' : b = a := hA b (by rw [q]; simp)
        subst e'
        rw [hK (by rw [q]; simp)] at e; cases e)
    have hM : Mod K mg (hidT s₁.heap H) := ⟨hKb, nsK hns, ⟨mb, nsK hb, hbb⟩, let ⟨mc, h1, h2⟩ := hlim; ⟨mc, nsK h1, h2⟩⟩
    have e0 : Env0 P w K mg (hidT s₁.heap H) callerA [] s₁ H := ⟨rfl, hM, fun b o e => of_hidT e, Nat.le_of_eq (hidT_size _ _), trivial, fun b hb => absurd (show b ∈ ([] : List Addr) from hb) (by simp), hok, .of_eq hg⟩
    refine codeAny_mono ((F _ hKb (nsK hns)).run callerA [] s₁ H ⟨[.ref a], []⟩ [.ref a] [.ref a] _ _ hr e0 (hbind s₁ (.ref a)) (.cons rfl .nil) (hsp H hO hS)) fun r s' h => ?_
    cases r with
    | error e => exact (hCX H e s' h).elim
    | ok fl =>
      cases fl with
      | next => exact False.elim h
      | brk => exact False.elim h
      | cont => exact False.elim h
      | ret u =>
        obtain ⟨v, H', os, bare, un, hok', r', q⟩ := h
        have q' : v = .bl true := q
        subst q'
        obtain rfl : u = Value.bool true := r'
        refine ⟨rfl, OldK.of_keep fun b o e => ?_, os, bare⟩
        cases q : H b with
        | none => exact un.keep b o e q (by intro z; exact absurd (show b ∈ ([] : List Addr) from z) (by simp)) (by simp)
        | some u =>
          rcases hO b with z | ⟨ob, xs, z⟩
          · rw [q] at z; cases z
          · have z2 := un.frzs b ob _ z
            obtain ⟨e1, _⟩ := hok b _ z
            obtain ⟨e2, _⟩ := hok' b _ z2
            rw [e] at e1; cases e1
            exact e2
  cases hk : K.lookup a with
  | some o =>
    have e := KX a o hk
    rw [ha] at e
    cases e
    refine core (fun _ => none) (fun _ => .inl rfl) (.inr ⟨_, vs.toArray, _, hk, rfl, rfl, rfl, by rw [List.size_toArray, lenV]; exact hl, by simpa using rv⟩) (fun b u z => by have z' : (none : Option HO) = some u := z; cases z') (fun b z => absurd rfl z) fun z => absurd rfl z
  | none =>
    refine core (fun b => if b = a then some (.frz { cls := .type "list", data := .seq vs.toArray } (.lst (ns.map V.int))) else none) (fun b => ?_) (.inl (.inr ⟨{ cls := .type "list", data := .seq vs.toArray }, if_pos rfl⟩)) (fun b u z => ?_) (fun b z => ?_) fun _ => hk
    · by_cases hb : b = a
      · exact .inr ⟨_, _, if_pos hb⟩
      · exact .inl (if_neg hb)
    · by_cases hb : b = a
      · have z' := (if_pos hb).symm.trans z
        cases z'
        subst hb
        exact ⟨ha, by rw [List.length_map]; exact hl, vs, _, rv, ha⟩
      · have z' := (if_neg hb).symm.trans z
        cases z'
    · by_cases hb : b = a
      · exact hb
      · exact absurd (if_neg hb) z
end L2
namespace L2
open PySem PySem.Spec PyProof.Rows
theorem walk_of {l : PySem.W.OpenLaw} {n k : Nat} {q : Program} {loose : List Str} {XP : (Str → Option Value) → Heap → Prop} {YP : World → Heap → Prop} {d : DefRec} {K : Params → PySem.W.Frag} {CX : World → CXT} {sp : World → Sp} {x : Str}
    (hn : l.most = some n) (hn2 : n ≤ sizeLine) (hdf : d.params.defaults = []) (hr : Room k callerA)
    (hY : ∀ (w : World) (h : Heap), YP w h → (K w.params).In h)
    (F : ∀ (w : World) (mg : Str → Option Value) (fa : Addr) (h : Heap), (K w.params).In h → h.Ns mainGlobals mg → mg d.name = some (.ref fa) →
      ∃ fd : FuncData, (∀ (s : Shared) (u : Value), BindsTo s fd ⟨[u], []⟩ [(x, u)]) ∧
        ∀ base : Heap, (K w.params).In base → base.Ns mainGlobals mg → FnOk l.prog w (K w.params) mg base (CX w) k fa fd [x] (sp w))
    (hsp : ∀ (w : World) (H : Hp) (a : Addr) (ns : List Int), ns.length ≤ n → Only H → SqL (K w.params) H a (ns.map V.int) → sp w [.ref a] H (fun v _ => v = .bl true) fun _ _ _ => False)
    (hCX : ∀ (w : World) (H : Hp) (s : Shared) (e : Value) (s' : Shared), CX w [] H s (fun _ _ _ => False) e s' → False) :
    PySem.W.WalkO q loose XP YP l.row.toRowW d [] (fun f vs => PySem.call f vs) := by
  refine Att.attach_call hn hdf fun w s₀ s₁ mg mb fa o pm cd doc a vs ns G Y ho hd hcd hmg hobj hints hlen hg => ?_
  have KX := hY w _ Y
  obtain ⟨fd, hb, hF⟩ := F w mg fa _ KX G.T.g hmg
  exact law_call KX G.T.g G.T.b G.T.builtins G.T.nolimit hg hobj hints (Nat.le_trans hlen hn2) hr hF hb (fun H hO hS => hsp w H a ns hlen hO hS) fun H e s' => hCX w H s₁ e s'
end L2
namespace L2
open PySem PySem.Spec PyProof.Rows
def defArgs (s : Stmt) : Arguments := match s with
  | .FunctionDef _ a _ _ _ _ _ _ _ _ => a
  | _ => { posonlyargs := [], args := [], vararg := none, kwonlyargs := [], kw_defaults := [], kwarg := none, defaults := [] }
def defBody (s : Stmt) : List Stmt := match s with
  | .FunctionDef _ _ b _ _ _ _ _ _ _ => b
  | _ => []
def defScope (s : Stmt) : Scope := match s with
  | .FunctionDef _ _ _ _ _ _ sc _ _ _ => sc
  | _ => { kind := .function, names := [], isGenerator := false, isCoroutine := false }
abbrev CX0 : CXT := fun _ _ _ _ _ _ => False
abbrev E0 : XK := fun _ _ _ => False
theorem pass0 {X : Cx} : Passes CX0 X E0 := fun _ _ _ _ _ _ _ h => h.elim
structure Fun (K : PySem.W.Frag) (x qual : Str) (st : Stmt) (f : Addr) (fd : FuncData) : Prop where
  ex : ∃ (oc : Value) (od : Option Addr) (kV doc pm : Value) (an : Option Addr) (cdv ct : Value) (osl : Array (Option Value)),
    fd = PySem.W.fnOf x qual (defArgs st) (defBody st) (defScope st) .none kV doc pm an cdv ct ∧ K.lookup f = some ⟨oc, od, .func fd, osl⟩ ∧ PySem.W.codeIn K cdv qual = true
  kp : PySem.W.keepIn K (.ref f) = true
section
variable {P : Program} {w : World} {K : PySem.W.Frag} {mg : Str → Option Value} {base : Heap}
theorem Fun.ok {x qual : Str} {st : Stmt} {f : Addr} {fd : FuncData} {N ps : List Str} {k : Nat} {sp : Sp} (F : Fun K x qual st f fd) (S : FnScope N ps (defScope st)) (len : ∀ vs H Q E, sp vs H Q E → vs.length = ps.length)
    (hbody : ∀ (cdv : Value) (A : Around) (outer : List Env) (s : Shared) (H : Hp) (vs : List V) (Q : VK) (E : XK), Room k (A.deeper (envOfC qual (defScope st) s.heap.objs.size f cdv)) → sp vs H Q E →
      ∃ t, PSs (cxOf CX0 P w K mg base N qual (defScope st) f cdv A outer s H E).nox (defBody st) t ∧ t { nx := fun _ H' => Q .non H', rt := Q } (start N vs) H) : FnOk P w K mg base CX0 (k + 1) f fd ps sp := by
  obtain ⟨oc, od, kV, doc, pm, an, cdv, ct, osl, rfl, lk, hcd⟩ := F.ex
  refine fn_of lk hcd S len fun A outer s H vs Q E hr hsp => ?_
  obtain ⟨t, h, q⟩ := hbody cdv A outer s H vs Q E hr hsp
  exact ⟨t, h.nox, q⟩
theorem Fun.binds {x qual : Str} {st : Stmt} {f : Addr} {fd : FuncData} {ps : List Str} (F : Fun K x qual st f fd)
    (h : ∀ (kV doc pm : Value) (an : Option Addr) (cdv ct : Value) (us : List Value), us.length = ps.length → bindArgs (PySem.W.fnOf x qual (defArgs st) (defBody st) (defScope st) .none kV doc pm an cdv ct) ⟨us, []⟩ = pure (ps.zip us)) : Binds K fd ps [] := by
  obtain ⟨oc, od, kV, doc, pm, an, cdv, ct, osl, rfl, lk, hcd⟩ := F.ex
  exact .all (h kV doc pm an cdv ct)
theorem fun_mk {x qual : Str} {st : Stmt} {f : Addr} {oc : Value} {od an : Option Addr} {osl : Array (Option Value)} {kV doc pm cdv ct : Value} (l : K.lookup f = some ⟨oc, od, .func (PySem.W.fnOf x qual (defArgs st) (defBody st) (defScope st) .none kV doc pm an cdv ct), osl⟩)
    (c : PySem.W.codeIn K cdv qual = true) (k : PySem.W.keepIn K (.ref f) = true) : Fun K x qual st f (PySem.W.fnOf x qual (defArgs st) (defBody st) (defScope st) .none kV doc pm an cdv ct) := ⟨⟨oc, od, kV, doc, pm, an, cdv, ct, osl, rfl, l, c⟩, k⟩
end
theorem hu_of {A : Around} {k : Nat} (hr : Room k A) : A.units + 1 < cLine := Nat.lt_of_le_of_lt (Nat.add_le_add_left (by decide : 1 ≤ 64) _) hr.units
theorem small1000 {n : Nat} (h : n ≤ 1000) : n < sizeLine := Nat.lt_of_le_of_lt h (by decide)
section
variable {X : Cx}
theorem pv (i : Nat) {x : Str} {pos : Pos} (hN : X.N[i]? = some x := by rfl) (hv : Vis X.env.scope x := by first | exact Or.inl rfl | exact Or.inr (Or.inl rfl) | exact Or.inr (Or.inr rfl)) (hd : (x == ("__debug__" : Str)) = false := by decide)
    (hcd : (x == ("__classdict__" : Str)) = false := by decide) : PE X (.Name x pos) (tVar i) := pe_var hN hv hd hcd
end
def Same (H H' : Hp) : Prop := ∀ b o, H b = some o → H' b = some o
theorem Same.refl (H : Hp) : Same H H := fun _ _ h => h
theorem Same.trans {H H1 H2 : Hp} (a : Same H H1) (b : Same H1 H2) : Same H H2 := fun c o h => b c o (a c o h)
theorem Same.free {H H' : Hp} (e : Same H H') {l : Addr} (h : H' l = Option.none) : H l = Option.none := by
  cases q : H l with
  | none => rfl
  | some o =>
    rw [e l o q] at h
    cases h
theorem Same.seq {K : PySem.W.Frag} {H H' : Hp} {a : Addr} {xs : List V} (e : Same H H') (h : SqL K H a xs) : SqL K H' a xs := by
  rcases h with (h | ⟨o, h⟩) | h
  · exact .inl (.inl (e _ _ h))
  · exact .inl (.inr ⟨o, e _ _ h⟩)
  · exact .inr h
end L2
end
section
set_option Elab.async false
set_option linter.all false
set_option maxRecDepth 100000
namespace L2
open PySem PySem.Spec PyProof.Rows
def clos : List (Str × NameKind) → List (Str × Addr) → List (Str × Addr) → Option (List (Str × Addr))
  | [], _, acc => some acc
  | (n, k) :: r, cs, acc => if k == .free then (match cs.lookup n with | some c => clos r cs ((n, c) :: acc) | none => none) else clos r cs acc
theorem clos_run {env : Env} : ∀ (names : List (Str × NameKind)) (acc cl : List (Str × Addr)), clos names env.cells acc = some cl →
    (forIn names acc fun (x : Str × NameKind) (cs : List (Str × Addr)) => (if (x.2 == NameKind.free) = true then (do let c ← cellOf env x.1; pure (ForInStep.yield ((x.1, c) :: cs))) else pure (ForInStep.yield cs) : Sem (ForInStep (List (Str × Addr))))) = (pure cl : Sem _)
  | [], acc, cl, h => by
    have e : acc = cl := Option.some.inj h
    subst e; rfl
  | (n, k) :: r, acc, cl, h => by
    unfold clos at h
    rw [List.forIn_cons]
    cases hk : k == NameKind.free with
    | false =>
      rw [hk] at h
      have ih := clos_run (env := env) r acc cl (by simpa using h)
      simp only [hk, Bool.false_eq_true, if_false, pure_bind]
      exact ih
    | true =>
      rw [hk] at h
      simp only [if_true] at h
      cases hc : env.cells.lookup n with
      | none => rw [hc] at h; cases h
      | some c =>
        rw [hc] at h
        have ih := clos_run (env := env) r ((n, c) :: acc) cl h
        have e : cellOf env n = pure c := by unfold cellOf; rw [hc]
        simp only [hk, if_true, e, pure_bind]
        exact ih
theorem closureFor_clos {scope : Scope} {env : Env} {cl : List (Str × Addr)} (h : clos scope.names env.cells [] = some cl) : closureFor scope env = pure cl := by
  have q := clos_run scope.names [] cl h
  unfold closureFor
  show (do let r ← _; pure r) = _
  refine Eq.trans ?_ (congrArg (fun z => z >>= fun r => pure r) q) |>.trans ?_
  · rfl
  · rfl
theorem clos_sub {cs : List (Str × Addr)} : ∀ (names : List (Str × NameKind)) (acc cl : List (Str × Addr)), clos names cs acc = some cl → (∀ n c, (n, c) ∈ acc → cs.lookup n = some c) → ∀ n c, (n, c) ∈ cl → cs.lookup n = some c
  | [], acc, cl, h, ha, n, c, hm => by
    have e : acc = cl := Option.some.inj h
    subst e; exact ha n c hm
  | (n0, k) :: r, acc, cl, h, ha, n, c, hm => by
    unfold clos at h
    split at h
    · split at h
      · rename_i c0 hc
        refine clos_sub r _ cl h (fun n' c' h' => ?_) n c hm
        rcases List.mem_cons.mp h' with e | h'
        · cases e; exact hc
        · exact ha n' c' h'
      · cases h
    · exact clos_sub r acc cl h ha n c hm
theorem clos_mono {cs : List (Str × Addr)} : ∀ (names : List (Str × NameKind)) (acc cl : List (Str × Addr)), clos names cs acc = some cl → ∀ p ∈ acc, p ∈ cl
  | [], acc, cl, h, p, hp => by
    have e : acc = cl := Option.some.inj h
    subst e; exact hp
  | (n0, k) :: r, acc, cl, h, p, hp => by
    unfold clos at h
    split at h
    · split at h
      · exact clos_mono r _ cl h p (List.mem_cons_of_mem _ hp)
      · cases h
    · exact clos_mono r acc cl h p hp
theorem clos_has {cs : List (Str × Addr)} : ∀ (names : List (Str × NameKind)) (acc cl : List (Str × Addr)), clos names cs acc = some cl → ∀ n, (n, NameKind.free) ∈ names → ∃ c, (n, c) ∈ cl
  | (n0, k) :: r, acc, cl, h, n, hn => by
    unfold clos at h
    rcases List.mem_cons.mp hn with e | hn
    · cases e
      simp only [beq_self_eq_true, if_true] at h
      split at h
      · rename_i c0 hc
        exact ⟨c0, clos_mono r _ cl h _ List.mem_cons_self⟩
      · cases h
    · split at h
      · split at h
        · exact clos_has r _ cl h n hn
        · cases h
      · exact clos_has r acc cl h n hn
theorem lookup_of_mem {β : Type} : ∀ {l : List (Str × β)} {n : Str} {c : β}, (n, c) ∈ l → ∃ c', l.lookup n = some c'
  | (m, d) :: r, n, c, h => by
    rw [List.lookup_cons]
    cases e : n == m with
    | true => exact ⟨d, rfl⟩
    | false =>
      rcases List.mem_cons.mp h with q | q
      · cases q; simp at e
      · exact lookup_of_mem q
theorem clos_lookup {cs cl : List (Str × Addr)} {names : List (Str × NameKind)} (h : clos names cs [] = some cl) {x : Str} {c : Addr} (q : cl.lookup x = some c) : cs.lookup x = some c :=
  clos_sub names [] cl h (fun _ _ z => absurd z (by simp)) x c (PySem.mem_of_lookup q)
theorem relabel_free {env : Env} : ∀ {names : List (Str × NameKind)} {x : Str}, (∀ y ∈ names, y.2 ≠ NameKind.cell) →
    ((names.map fun (n, k) => if (k == NameKind.free && env.scope.kind == .function && env.kindOf n == some .cell) then (n, NameKind.cell) else (n, k)).lookup x = some .cell ∨
     (names.map fun (n, k) => if (k == NameKind.free && env.scope.kind == .function && env.kindOf n == some .cell) then (n, NameKind.cell) else (n, k)).lookup x = some .free) → (x, NameKind.free) ∈ names
  | [], x, _, h => by simp at h
  | (n, k) :: r, x, hc, h => by
    have ih := @relabel_free env r x (fun y hy => hc y (List.mem_cons_of_mem _ hy))
    rw [List.map_cons] at h
    cases hx : x == n with
    | true =>
      have e : x = n := by simpa using hx
      subst e
      by_cases hk : k = NameKind.free
      · subst hk; exact List.mem_cons_self
      · have hb : (k == NameKind.free) = false := by simpa using hk
        simp only [hb, Bool.false_and, Bool.false_eq_true, if_false, List.lookup_cons, beq_self_eq_true] at h
        rcases h with h | h
        · exact absurd (Option.some.inj h) (hc (x, k) List.mem_cons_self)
        · exact absurd (Option.some.inj h) hk
    | false =>
      refine List.mem_cons_of_mem _ (ih ?_)
      by_cases hcnd : (k == NameKind.free && env.scope.kind == .function && env.kindOf n == some .cell) = true
      · simp only [hcnd, if_true, List.lookup_cons, hx] at h; exact h
      · simp only [hcnd, if_false, List.lookup_cons, hx, Bool.false_eq_true] at h; exact h
theorem relabel_free' {sc : Scope} {env : Env} {x : Str} (hc : ∀ y ∈ sc.names, y.2 ≠ NameKind.cell) (h : (relabel sc env).names.lookup x = some .cell ∨ (relabel sc env).names.lookup x = some .free) : (x, NameKind.free) ∈ sc.names := relabel_free hc h
def cxc (X : Cx) (N : List Str) (sc : Scope) (cl : List (Str × Addr)) (s : Shared) (H : Hp) (ex : List Addr) : Cx where
  prog := X.prog
  w := X.w
  K := X.K
  mg := X.mg
  base := X.base
  A := X.A
  N := N
  s₀ := s
  H₀ := H
  env := compEnvC sc cl s.heap.objs.size X.env
  outer := X.stack
  stack := X.stack
  ex := ex
  fn := fun _ => false
  calm := X.calm
  pn := []
  xe := fun _ _ => False
def frS (fr : List (Option Nat)) (σ : St) : St := fr.map fun o => o.bind fun j => (σ[j]?).bind id
def PIfs (X : Cx) (ifs : List Expr) (t : TT) : Prop :=
  ∀ (pins : List (Addr × Obj)) (s : Shared) (σ : St) (H : Hp) (Q : Bool → Hp → Prop), Inv X pins σ H s → t σ H Q →
    wpAny (model X.prog X.w) X.A (forIn ifs true fun c r => if r = true then do let ok ← isTrue c X.env (eval c X.env); pure (ForInStep.yield ok) else pure (ForInStep.yield r)) (TP X pins σ Q) X.xe s
def tTrue : TT := fun _ H Q => Q true H
theorem pif_nil {X : Cx} : PIfs X [] tTrue := fun _ _ _ _ _ I h => wpAny_tests_nil ⟨_, I, h⟩
theorem pif_one {X : Cx} {c : Expr} {t : TT} (h : PT X c t) : PIfs X [c] t := fun pins s σ H Q I q => wpAny_tests_one (h pins s σ H Q I q)
abbrev TB := St → Hp → (St → Hp → Prop) → Prop
def PB (X : Cx) (body : Sem Unit) (t : TB) : Prop :=
  ∀ (pins : List (Addr × Obj)) (s : Shared) (σ : St) (H : Hp) (N : St → Hp → Prop), Inv X pins σ H s → t σ H N →
    wpAny (model X.prog X.w) X.A body (fun _ s' => ∃ σ' H', Inv X pins σ' H' s' ∧ N σ' H') X.xe s
def tEmit (p : Addr) (te : TE) : TB := fun σ H N => te σ H fun y H1 => ∃ ys, H1 p = some (.lst ys) ∧ ys.length < sizeLine ∧ N σ (upd H1 p (.lst (ys ++ [y])))
theorem pb_emit {X : Cx} {elt : Expr} {te : TE} {p : Addr} (h : PE X elt te) : PB X (do let _ ← call (.builtin "list.append") [.ref p, ← eval elt X.env]) (tEmit p te) := by
  intro pins s σ H N I q
  refine wpAny_bind (thn (h pins s σ H _ I q) fun u s1 ⟨y, H1, I1, r, ys, hp, hz, n⟩ => ?_)
  refine wpAny_bind (thn (mt_append (X := X) pins s1 σ H1 (.ref p) [y] (.ref p) [u] (fun _ H2 => N σ H2) I1 rfl (.cons r .nil) ⟨p, ys, y, rfl, rfl, hp, hz, n⟩) fun _ s2 ⟨_, H2, I2, _, n2⟩ => wpAny_pure ⟨σ, H2, I2, n2⟩)
def tCL (J : It) (g : TG) (tc : TT) (tb : TB) : (St → Hp → Prop) → St → Hp → Prop := fun D σ H => ∃ W : Nat → Nat → St → Hp → Prop, (∃ m, W 0 m σ H) ∧ ∀ i m σ H, W i m σ H →
  (J.stop i H ∧ D σ H) ∨ (J.go i H ∧ ∃ N : St → Hp → Prop, (∀ σ' H', N σ' H' → ∃ m', m' < m ∧ W (i + 1) m' σ' H') ∧ ∀ x H', J.yld i H x H' → g x σ H' fun σ2 H2 => tc σ2 H2 fun b H3 => if b = true then tb σ2 H3 N else N σ2 H3)
theorem comp_loop {X : Cx} {e tg : Expr} {d : Nat} {ip : Pos} {ifs : List Expr} {body : Sem Unit} {acc : Value} {it : Addr} {fp : List Addr} {tn : Nat → Heap → Prop} {J : It} {g : TG} {tc : TT} {tb : TB} {D : St → Hp → Prop} {pins : List (Addr × Obj)} {σ : St} {H : Hp} {s : Shared}
    (hc : X.calm = true) (hx : X.xe = fun _ _ => False)
    (heq : compTurn e d (.ref it) acc X.env = (do
      standAt ip
      match ← pyNext (.ref it) with
      | none => pure (.done .next)
      | some v =>
        letOwnedTupleGo tg (.ref it) v
        assign tg X.env v
        let mut ok := true
        for c in ifs do
          if ok then ok ← isTrue c X.env (eval c X.env)
        if ok then body
        again (.compLoop e d (.ref it) acc X.env)))
    (hfrm : (Code.compLoop e d (.ref it) acc X.env).isFrame = false) (hund : X.A.under (Code.compLoop e d (.ref it) acc X.env) = X.A) (hq : (Code.compLoop e d (.ref it) acc X.env).quiet = true)
    (T : Turn X.prog X.w X.K tg J fp it tn) (hg : PG X tg g) (hi : PIfs X ifs tc) (hb : PB X body tb)
    (I : Inv X pins σ H s) (st : tn 0 s.heap) (f : ∀ b ∈ fp, FpOk X pins H b) (h : tCL J g tc tb D σ H) :
    codeAny (model X.prog X.w) X.A (.compLoop e d (.ref it) acc X.env) (fun r s' => r = .ok .next ∧ ∃ σ' H', Inv X pins σ' H' s' ∧ D σ' H') s := by
  obtain ⟨W, ⟨m0, w0⟩, turn⟩ := h
  have stat : ∀ {H' : Hp}, (∀ b ∈ fp, H' b = none) → ∀ b ∈ fp, FpOk X pins H' b := fun hn b hb => ⟨hn b hb, (f b hb).2⟩
  refine codeAny_loop hq (fun n s' => ∃ i σ' H', Inv X pins σ' H' s' ∧ tn i s'.heap ∧ (∀ b ∈ fp, H' b = none) ∧ W i n σ' H') ?_ m0 ⟨0, σ, H, I, st, fun b hb => (f b hb).1, w0⟩
  rintro n s3 ⟨i, σ3, H3, I3, st3, fr3, w3⟩
  rw [hund]
  show wpAny _ X.A (if (Code.compLoop e d (.ref it) acc X.env).isFrame then _ else (compTurn e d (.ref it) acc X.env).onRaise (fun x => do noteFrame x X.env; theTreesLotGoes x)) _ _ s3
  rw [hfrm]
  show wpAny _ X.A ((compTurn e d (.ref it) acc X.env).onRaise (fun x => do noteFrame x X.env; theTreesLotGoes x)) _ _ s3
  refine wpAny_noted ?_
  rw [heq]
  have no : ∀ {α : Type} {t : Sem α} {Q : α → Shared → Prop} {E : Value → Shared → Prop} {s : Shared}, wpAny (model X.prog X.w) X.A t Q X.xe s → wpAny (model X.prog X.w) X.A t Q E s := fun h => wpAny_mono h (fun _ _ q => q) fun _ _ z => by rw [hx] at z; exact z.elim
  refine wpAny_bind (wpAny_standAt (wpAny_bind ?_))
  rcases turn i n σ3 H3 w3 with ⟨stop, qn⟩ | ⟨go, N, hN, step⟩
  · refine thn (T.done X rfl rfl rfl hc i pins s3 σ3 H3 _ I3 (stat fr3) st3 stop) fun r s4 ⟨hr, I4⟩ => ?_
    subst hr
    exact wpAny_pure ⟨rfl, σ3, H3, I4, qn⟩
  · refine thn (T.item X rfl rfl rfl hc i pins s3 σ3 H3 _ I3 (stat fr3) st3 go) fun r s4 ⟨u, hr, h4⟩ => ?_
    subst hr
    refine wpAny_bind (thn h4 fun _ s5 ⟨x, H5, I5, r5, y5, st5, fr5⟩ => ?_)
    have I5' := I5.pinned (stat fr5) (T.obj _ _ st5)
    have again : ∀ {s7 : Shared} {σ7 : St} {H7 : Hp}, Inv X (pins ++ pinsAt fp s5.heap) σ7 H7 s7 → N σ7 H7 → ∃ m, m < n ∧ ∃ i σ' H', Inv X pins σ' H' s7 ∧ tn i s7.heap ∧ (∀ b ∈ fp, H' b = none) ∧ W i m σ' H' := fun {s7 σ7 H7} I7 n7 => by
      obtain ⟨m', hm, w7⟩ := hN σ7 H7 n7
      refine ⟨m', hm, i + 1, σ7, H7, I7.unpinned, T.keep _ _ _ st5 fun b hb o e => (I7.pin (b, o) (List.mem_append_right _ (List.mem_append_right _ (mem_pinsAt hb e)))).1, fun b hb => ?_, w7⟩
      obtain ⟨o, e, d⟩ := T.obj _ _ st5 b hb
      exact (I7.pin (b, o) (List.mem_append_right _ (List.mem_append_right _ (mem_pinsAt hb e)))).2.1
    refine wpAny_bind (no (thn (hg _ s5 σ3 H5 x u _ I5' r5 (step x H5 y5)) fun _ s6 ⟨σ6, H6, I6, q6⟩ => ?_))
    refine wpAny_bind (no (thn (hi _ s6 σ6 H6 _ I6 q6) fun ok s7 ⟨H7, I7, q7⟩ => ?_))
    cases ok with
    | false => exact wpAny_pure ⟨rfl, again I7 q7⟩
    | true =>
      refine wpAny_bind (no (thn (hb _ s7 σ6 H7 _ I7 q7) fun _ s8 ⟨σ8, H8, I8, n8⟩ => ?_))
      exact wpAny_pure ⟨rfl, again I8 n8⟩
end L2
end
section
set_option Elab.async false
set_option linter.all false
set_option maxRecDepth 100000
namespace L2
open PySem PySem.Spec PyProof.Rows
theorem lookup_relabel_free {env : Env} : ∀ {names : List (Str × NameKind)} {x : Str}, names.lookup x = some .free →
    ((names.map fun (n, k) => if (k == NameKind.free && env.scope.kind == .function && env.kindOf n == some .cell) then (n, NameKind.cell) else (n, k)).lookup x = some .cell ∨
     (names.map fun (n, k) => if (k == NameKind.free && env.scope.kind == .function && env.kindOf n == some .cell) then (n, NameKind.cell) else (n, k)).lookup x = some .free)
  | [], _, h => by simp at h
  | (n, k) :: r, x, h => by
    have ih := @lookup_relabel_free env r x
    rw [List.map_cons]
    cases hx : x == n with
    | true =>
      simp only [List.lookup_cons, hx] at h
      cases h
      by_cases hc : (NameKind.free == NameKind.free && env.scope.kind == .function && env.kindOf n == some .cell) = true
      · left; simp only [hc, if_true, List.lookup_cons, hx]
      · right; simp only [hc, if_false, List.lookup_cons, hx, Bool.false_eq_true]
    | false =>
      simp only [List.lookup_cons, hx] at h
      by_cases hc : (k == NameKind.free && env.scope.kind == .function && env.kindOf n == some .cell) = true
      · simp only [hc, if_true, List.lookup_cons, hx]; exact ih h
      · simp only [hc, if_false, List.lookup_cons, hx, Bool.false_eq_true]; exact ih h
structure CScope (X : Cx) (N : List Str) (fr : List (Option Nat)) (sc : Scope) : Prop where
  kind : sc.kind = .function
  nocell : ∀ y ∈ sc.names, y.2 ≠ NameKind.cell
  loc : ∀ y ∈ sc.names, y.2 = .local → sc.names.lookup y.1 = some .local
  len : fr.length = N.length
  fr : ∀ (i j : Nat), fr[i]? = some (some j) → ∃ x, N[i]? = some x ∧ X.N[j]? = some x ∧ sc.names.lookup x = some .free ∧ (X.env.kindOf x = some .cell ∨ X.env.kindOf x = some .free)
def okFr (XN : List Str) (XS names : List (Str × NameKind)) : List Str → List (Option Nat) → Bool
  | [], [] => true
  | x :: N, o :: fr => (match o with
    | none => true
    | some j => XN[j]? == some x && names.lookup x == some .free && (XS.lookup x == some .cell || XS.lookup x == some .free)) && okFr XN XS names N fr
  | _, _ => false
theorem okFr_len {XN : List Str} {XS names : List (Str × NameKind)} : ∀ {N : List Str} {fr : List (Option Nat)}, okFr XN XS names N fr = true → fr.length = N.length
  | [], [], _ => rfl
  | x :: N, o :: fr, h => by
    unfold okFr at h
    rw [Bool.and_eq_true] at h
    rw [List.length_cons, List.length_cons, okFr_len h.2]
  | [], _ :: _, h => by cases h
  | _ :: _, [], h => by cases h
theorem okFr_get {XN : List Str} {XS names : List (Str × NameKind)} : ∀ {N : List Str} {fr : List (Option Nat)} {i j : Nat}, okFr XN XS names N fr = true → fr[i]? = some (some j) → ∃ x, N[i]? = some x ∧ XN[j]? = some x ∧ names.lookup x = some .free ∧ (XS.lookup x = some .cell ∨ XS.lookup x = some .free)
  | [], [], _, _, _, e => by simp at e
  | x :: N, o :: fr, 0, j, h, e => by
    unfold okFr at h
    rw [Bool.and_eq_true] at h
    simp at e
    subst e
    have h1 := h.1
    simp only [Bool.and_eq_true, Bool.or_eq_true, beq_iff_eq] at h1
    exact ⟨x, rfl, h1.1.1, h1.1.2, h1.2⟩
  | x :: N, o :: fr, i + 1, j, h, e => by
    unfold okFr at h
    rw [Bool.and_eq_true] at h
    obtain ⟨y, q⟩ := okFr_get (i := i) (j := j) h.2 (by simpa using e)
    exact ⟨y, by simpa using q.1, q.2⟩
  | [], _ :: _, _, _, h, _ => by cases h
  | _ :: _, [], _, _, h, _ => by cases h
def okLoc (names : List (Str × NameKind)) : Bool := names.all fun y => !(y.2 == .cell) && (!(y.2 == .local) || names.lookup y.1 == some .local)
theorem CScope.of {X : Cx} {N : List Str} {fr : List (Option Nat)} {sc : Scope} (h1 : sc.kind = .function) (h2 : okLoc sc.names = true) (h3 : okFr X.N X.env.scope.names sc.names N fr = true) : CScope X N fr sc := by
  have h2' := List.all_eq_true.mp h2
  refine ⟨h1, fun y hy e => ?_, fun y hy e => ?_, okFr_len h3, fun i j e => okFr_get h3 e⟩
  · have q := h2' y hy
    rw [e] at q
    simp at q
  · have q := h2' y hy
    rw [e] at q
    simpa using q
theorem frS_get {fr : List (Option Nat)} {σ : St} {i : Nat} {v : V} (h : (frS fr σ)[i]? = some (some v)) : ∃ j, fr[i]? = some (some j) ∧ σ[j]? = some (some v) := by
  unfold frS at h
  rw [List.getElem?_map] at h
  cases e : fr[i]? with
  | none => rw [e] at h; cases h
  | some o =>
    rw [e] at h
    cases o with
    | none => cases h
    | some j =>
      refine ⟨j, rfl, ?_⟩
      have h' : (σ[j]?).bind id = some v := Option.some.inj h
      cases q : σ[j]? with
      | none => rw [q] at h'; cases h'
      | some o => rw [q] at h'; exact congrArg some h'
section
variable {X : Cx} {pins : List (Addr × Obj)} {σ : St} {H H' : Hp} {s : Shared}
theorem Inv.block {N : List Str} {fr : List (Option Nat)} {sc : Scope} {cl : List (Str × Addr)} {ex : List Addr} {h1 : Heap} {tk : Nat} (I : Inv X pins σ H s) (S : CScope X N fr sc) (hcl : clos sc.names X.env.cells [] = some cl)
    (hex : ∀ b ∈ ex, FpOk X pins H b ∧ b < s.heap.objs.size) (hns : h1.Ns s.heap.objs.size (fun _ => none)) (hk : ∀ b u, s.heap.get? b = some u → h1.get? b = some u) :
    Inv (cxc X N sc cl s H ex) [] (frS fr σ) H { s with heap := h1, toks := tk } := by
  have hfree : H s.heap.objs.size = none := I.hok.fresh (Nat.le_refl _)
  have cne : ∀ x c, cl.lookup x = some c → c ≠ s.heap.objs.size := fun x c e z => by
    obtain ⟨v, q⟩ := I.cell x c (clos_lookup hcl e)
    exact absurd q.lt (by rw [z]; exact Nat.lt_irrefl _)
  refine ⟨⟨I.ok.mod, S.kind, I.ok.glob, I.ok.blt, Nat.le_refl _, fun x y c h1 h2 => I.ok.inj x y c (clos_lookup hcl h1) (clos_lookup hcl h2), fun x hx => ?_, fun x c z => absurd (show false = true from z) (by decide), I.ok.hd, I.ok.frames, Or.inl rfl, fun b hb => ?_, I.bs, Nat.le_trans I.ok.bsz I.sz, fun b o e hb => ?_, fun b hb hf => ?_, I.stack, I.stkFree⟩,
    rfl, I.bare, Un.kept hk, ⟨_, hns, fun i x v h1 h2 h3 => ?_⟩, fun x c e => ?_, hfree, fun x c e => I.freeC x c (clos_lookup hcl e), fun p hp => absurd (show p ∈ ([] : List (Addr × Obj)) from hp) (by simp), I.hok.kept hk, ?_⟩
  · have hx' : (relabel sc X.env).names.lookup x = some .cell ∨ (relabel sc X.env).names.lookup x = some .free := hx
    obtain ⟨c, hc⟩ := clos_has sc.names [] cl hcl x (relabel_free' S.nocell hx')
    exact lookup_of_mem hc
  · obtain ⟨⟨f0, f1, f2, f3, f4, f5⟩, lt⟩ := hex b hb
    exact ⟨Nat.ne_of_lt lt, fun x c e => f4 x c (clos_lookup hcl e)⟩
  · obtain ⟨⟨f0, f1, f2, f3, f4, f5⟩, lt⟩ := hex b hb
    rcases f3 with f3 | f3
    · exact I.ok.noex b o e f3
    · exact absurd (Nat.lt_of_lt_of_le (Heap.lt_size e) I.ok.bsz) (Nat.not_lt.mpr f3)
  · obtain ⟨⟨f0, f1, f2, f3, f4, f5⟩, lt⟩ := hex b hb
    rcases List.mem_cons.mp (I.stkSub b hf) with e | e
    · exact f1 e
    · exact f2 e
  · obtain ⟨j, hj, hv⟩ := frS_get h2
    obtain ⟨x', e1, e2, e3, e4⟩ := S.fr i j hj
    have hN : N[i]? = some x := h1
    rw [hN] at e1
    cases e1
    obtain ⟨c, hc⟩ := clos_has sc.names [] cl hcl x (PySem.mem_of_lookup e3)
    obtain ⟨c', hc'⟩ := lookup_of_mem hc
    have hcX := clos_lookup hcl hc'
    obtain ⟨m, hn, hl⟩ := I.loc
    have kc : (relabel sc X.env).names.lookup x = some .cell ∨ (relabel sc X.env).names.lookup x = some .free := lookup_relabel_free e3
    have vis : Vis X.env.scope x ∧ (X.env.kindOf x ≠ some .local) := by
      rcases e4 with q | q
      · exact ⟨.inr (.inl q), by rw [q]; decide⟩
      · exact ⟨.inr (.inr q), by rw [q]; decide⟩
    obtain ⟨u, r, l⟩ := hl j x v e2 hv vis.1
    refine ⟨u, r, .inr ⟨kc, c', hc', ?_⟩⟩
    rcases l with ⟨q, _⟩ | ⟨_, d, hd, hcell⟩
    · exact absurd q vis.2
    · rw [hcX] at hd
      cases hd
      exact hcell.keeps hk
  · obtain ⟨v, q⟩ := I.cell x c (clos_lookup hcl e)
    exact ⟨v, q.keeps hk⟩
  · show (frS fr σ).length = N.length
    unfold frS
    rw [List.length_map]; exact S.len
end
end L2
end
section
set_option Elab.async false
set_option linter.all false
set_option maxRecDepth 100000
namespace L2
open PySem PySem.Spec PyProof.Rows
section
variable {X : Cx} {pins : List (Addr × Obj)} {σ : St} {H H' : Hp} {s : Shared}
theorem Inv.unblock {N : List Str} {sc : Scope} {cl : List (Str × Addr)} {ex : List Addr} {pins' : List (Addr × Obj)} {σ' : St} {s' : Shared} {h' : Heap} (I : Inv X pins σ H s) (J : Inv (cxc X N sc cl s H ex) pins' σ' H' s')
    (hex : ∀ b ∈ ex, FpOk X pins H b) (sb : Heap.SameBut s.heap.objs.size s'.heap h') : Inv X pins σ H' { s' with heap := h' } := by
  have free : H' s.heap.objs.size = none := J.free
  have eq : ∀ b, b ≠ s.heap.objs.size → h'.get? b = s'.heap.get? b := sb.2
  have ne : ∀ b o, s.heap.get? b = some o → b ≠ s.heap.objs.size := fun b o e => Nat.ne_of_lt (Heap.lt_size e)
  have B : Un (frs X.stack) ex H H' s.heap s'.heap := J.base
  refine I.call' (s' := { s' with heap := h' }) (ch := ex) J.os ⟨fun b o q n hb hx => (eq b (ne b o q)).trans (B.keep b o q n hb hx), fun b o q n hb hx => ?_, B.free, fun b o q hx => ?_, B.tups, B.frzs, B.tbls⟩ (fun a o e => ?_) J.bare (fun b hb => ?_)
  · obtain ⟨sl, e⟩ := B.slot b o q n hb hx
    exact ⟨sl, (eq b (ne b o q)).trans e⟩
  · obtain ⟨o', e⟩ := B.there b o q hx
    exact ⟨o', (eq b (ne b o q)).trans e⟩
  · refine (J.hok a o e).stay (fun b u hb q => ?_) (fun _ q => q) fun _ _ q => q
    refine (eq b ?_).trans q
    rcases hb with rfl | hb
    · exact ne_of_none e free
    · exact ne_of_none hb free
  · obtain ⟨f0, f1, f2, f3, f4, f5⟩ := hex b hb
    exact ⟨f3, f1, f4, f5⟩
end
section
variable {X : Cx}
def tLC (fr : List (Option Nat)) (wi : TI) (g : TG) (tc : TT) (te : TE) : TE := fun σ H Q => wi σ H fun J H1 => ∀ p, H1 p = none → tCL J g tc (tEmit p te) (fun _ H2 => Q (.ref p) H2) (frS fr σ) (upd H1 p (.lst []))
theorem lc_entry {N : List Str} {fr : List (Option Nat)} {e tg iter : Expr} {ifs : List Expr} {gs : List Comprehension} {sc : Scope} {ip : Pos} {cl : List (Str × Addr)} {wi : TI} {D : It → Addr → St → Hp → Prop} {pins : List (Addr × Obj)} {σ : St} {H : Hp} {s : Shared} {Q : VK}
    (he : clausesOf e = ⟨tg, iter, ifs, 0⟩ :: gs) (hi : PI X tg iter wi) (S : CScope X N fr sc) (hcl : clos sc.names X.env.cells [] = some cl) (I : Inv X pins σ H s)
    (h : wi σ H fun J H1 => ∀ p, H1 p = none → D J p (frS fr σ) (upd H1 p (.lst [])))
    (loop : ∀ (it p : Addr) (fp : List Addr) (tn : Nat → Heap → Prop) (J : It) (s1 s2 : Shared) (H1 : Hp) (σ1 : St), Turn X.prog X.w X.K tg J fp it tn → Inv (cxc X N sc cl s1 H1 fp) [] σ1 H1 s2 → tn 0 s2.heap → (∀ b ∈ fp, FpOk (cxc X N sc cl s1 H1 fp) [] H1 b) → D J p σ1 H1 →
      codeAny (model X.prog X.w) X.A (.compStart e 0 (.ref it) (.ref p) (compEnvC sc cl s1.heap.objs.size X.env)) (fun r s' => r = .ok .next ∧ ∃ σ' H', Inv (cxc X N sc cl s1 H1 fp) [] σ' H' s' ∧ Q (.ref p) H') s2)
    (hs : ∀ x, foldedSetIterable iter X.env x = pure x) :
    wpAny (model X.prog X.w) X.A (comprehension e sc X.env ip (newList []) false (eval iter X.env)) (EP X pins σ Q) X.xe s := by
  refine wpAny_comprehension_free (use := none) he hs (closureFor_clos hcl) S.kind S.loc ?_
  refine thn (hi pins s σ H _ I h) fun v s1 h1 => thn h1 fun itv s2 ⟨it, fp, tn, J, H2, e2, I2, T, st2, f2, q⟩ => ?_
  subst e2
  refine wpAny_newObj_type ?_
  have hp : H2 s2.heap.objs.size = none := I2.hok.fresh (Nat.le_refl _)
  have I3 : Inv X pins σ (upd H2 s2.heap.objs.size (.lst [])) { s2 with heap := s2.heap.push { cls := .type "list", data := .seq ([] : List Value).toArray }, toks := s2.toks } := I2.lnew (its := []) (ys := []) .nil (Nat.zero_le _)
  have lt2 : ∀ b ∈ fp, b < s2.heap.objs.size := fun b hb => let ⟨o, e, _⟩ := T.obj 0 _ st2 b hb; Heap.lt_size e
  have f3 : ∀ b ∈ fp, FpOk X pins (upd H2 s2.heap.objs.size (.lst [])) b := fun b hb => ⟨by rw [upd_ne (Nat.ne_of_lt (lt2 b hb))]; exact (f2 b hb).1, (f2 b hb).2⟩
  have st3 : tn 0 (s2.heap.push { cls := .type "list", data := .seq ([] : List Value).toArray }) := T.keep _ _ _ st2 fun b _ o e => Heap.get?_push_of_some _ e
  refine wpAny_newFunctionEnv S.nocell (by intro y hy; simp at hy) (fun h₁ hns₁ hsb₁ => ?_) S.kind
  generalize hs3 : ({ s2 with heap := s2.heap.push { cls := .type "list", data := .seq ([] : List Value).toArray } } : Shared) = s3 at hns₁ hsb₁ ⊢
  have I3' : Inv X pins σ (upd H2 s2.heap.objs.size (.lst [])) s3 := by rw [← hs3]; exact I3
  have st3' : tn 0 s3.heap := by rw [← hs3]; exact st3
  have lt3 : ∀ b ∈ fp, b < s3.heap.objs.size := fun b hb => let ⟨o, e, _⟩ := T.obj 0 _ st3' b hb; Heap.lt_size e
  have hk : ∀ b u, s3.heap.get? b = some u → h₁.get? b = some u := fun b u e => hsb₁.extBut b u (Nat.ne_of_lt (Heap.lt_size e)) (Heap.get?_push_of_some _ e)
  have hns : h₁.Ns s3.heap.objs.size (fun _ => none) := by simpa using hns₁
  have B := I3'.block (N := N) (fr := fr) (sc := sc) (cl := cl) (ex := fp) (h1 := h₁) (tk := s3.toks + ([] : List (Str × Value)).length) S hcl (fun b hb => ⟨f3 b hb, lt3 b hb⟩) hns hk
  have stB : tn 0 h₁ := T.keep _ _ _ st3' fun b _ o e => hk b o e
  refine codeAny_mono (loop it s2.heap.objs.size fp tn J s3 _ (upd H2 s2.heap.objs.size (.lst [])) (frS fr σ) T B stB (fun b hb => ?_) (q _ hp)) fun r s' hr => ?_
  · obtain ⟨f0, f1, f2', f3', f4, f5⟩ := f3 b hb
    refine ⟨f0, Nat.ne_of_lt (lt3 b hb), fun z => ?_, .inl hb, fun x c e => f4 x c (clos_lookup hcl e), fun p hp' => absurd (show p ∈ ([] : List (Addr × Obj)) from hp') (by simp)⟩
    rcases List.mem_cons.mp (I3'.stkSub b z) with e | e
    · exact f1 e
    · exact f2' e
  · obtain ⟨rfl, σ', H', J', q'⟩ := hr
    obtain ⟨m, hn, _⟩ := J'.loc
    exact ⟨m, hn, fun h' sb => ⟨.ref s2.heap.objs.size, H', I3'.unblock J' f3 sb, rfl, q'⟩⟩
theorem pe_lc {N : List Str} {fr : List (Option Nat)} {tg iter elt : Expr} {ifs : List Expr} {sc : Scope} {pos : Pos} {cl : List (Str × Addr)} {wi : TI} {g : TG} {tc : TT} {te : TE} (hc : X.calm = true) (hi : PI X tg iter wi) (S : CScope X N fr sc) (hcl : clos sc.names X.env.cells [] = some cl)
    (hb : ∀ s H ex, PG (cxc X N sc cl s H ex) tg g ∧ PIfs (cxc X N sc cl s H ex) ifs tc ∧ PE (cxc X N sc cl s H ex) elt te) (hs : ∀ x, foldedSetIterable iter X.env x = pure x := by intro _; rfl) :
    PE X (.ListComp elt [⟨tg, iter, ifs, 0⟩] sc pos) (tLC fr wi g tc te) := by
  intro pins s σ H Q I h
  rw [eval_ListComp]
  refine lc_entry (D := fun J p σ H => tCL J g tc (tEmit p te) (fun _ H2 => Q (.ref p) H2) σ H) rfl hi S hcl I h (fun it p fp tn J s1 s2 H1 σ1 T B st f d => ?_) hs
  obtain ⟨hg, hifs, helt⟩ := hb s1 H1 fp
  have L := comp_loop (X := cxc X N sc cl s1 H1 fp) (e := .ListComp elt [⟨tg, iter, ifs, 0⟩] sc pos) (d := 0) (acc := .ref p) (D := fun _ H2 => Q (.ref p) H2) (s := s2) hc rfl (compTurn_list elt tg iter ifs sc pos (.ref it) (.ref p) _) rfl rfl rfl T hg hifs (pb_emit helt) B st f d
  exact codeAny_compStart_list L (T.self X.A 0 s2 _ _ st L)
end
end L2
end
section
set_option Elab.async false
set_option linter.all false
set_option maxRecDepth 100000
namespace L2
open PySem PySem.Spec PyProof.Rows
def sq (H : Hp) (a : Addr) : Option (List V) := match H a with
  | some (.lst xs) => some xs
  | some (.tup xs) => some xs
  | some (.frz _ (.lst xs)) => some xs
  | some (.frz _ (.tup xs)) => some xs
  | _ => none
theorem sq_lst {H : Hp} {a : Addr} {xs : List V} (h : H a = some (.lst xs)) : sq H a = some xs := by unfold sq; rw [h]
theorem sq_tup {H : Hp} {a : Addr} {xs : List V} (h : H a = some (.tup xs)) : sq H a = some xs := by unfold sq; rw [h]
theorem sq_updL {H : Hp} {a : Addr} {xs : List V} : sq (upd H a (.lst xs)) a = some xs := sq_lst upd_same
theorem sq_updT {H : Hp} {a : Addr} {xs : List V} : sq (upd H a (.tup xs)) a = some xs := sq_tup upd_same
theorem sq_rd {H : Hp} {a : Addr} {xs : List V} (h : sq H a = some xs) : Rd H a (.lst xs) ∨ Rd H a (.tup xs) := by
  unfold sq at h
  cases e : H a with
  | none => rw [e] at h; cases h
  | some o =>
    rw [e] at h
    cases o with
    | lst ys => cases h; exact .inl (.inl e)
    | tup ys => cases h; exact .inr (.inl e)
    | frz ob u =>
      cases u with
      | lst ys => cases h; exact .inl (.inr ⟨ob, e⟩)
      | tup ys => cases h; exact .inr (.inr ⟨ob, e⟩)
      | _ => cases h
    | _ => cases h
theorem sq_seq {K : PySem.W.Frag} {H : Hp} {a : Addr} {xs : List V} (h : sq H a = some xs) : SqL K H a xs ∨ SqT K H a xs := by
  rcases sq_rd h with h | h
  · exact .inl (.inl h)
  · exact .inr (.inl h)
section
variable {X : Cx}
def rIx0 : R2 := fun x y H Q => ∃ p xs i v, x = .ref p ∧ y = .int i ∧ sq H p = some xs ∧ atI xs i = some v ∧ Q v H
theorem ix0 : IxR X rIx0 := by
  intro value slice pins s σ H x y v u Q I rx ry h hs
  obtain ⟨p, xs, i, z, e1, e2, hq, ha, q⟩ := h
  rcases sq_seq (K := X.K) hq with k | k
  · exact ix_list value slice pins s σ H x y v u Q I rx ry ⟨p, xs, i, z, e1, e2, k, ha, q⟩ hs
  · exact ix_tup value slice pins s σ H x y v u Q I rx ry ⟨p, xs, i, z, e1, e2, k, ha, q⟩ hs
theorem len0 : CallR X (.builtin "len") (fun xs H Q => ∃ p ys, xs = [.ref p] ∧ sq H p = some ys ∧ Q (.int ys.length) H) := by
  intro pins s σ H xs us Q I r h
  obtain ⟨p, ys, e, hq, q⟩ := h
  exact call_len_seq pins s σ H xs us Q I r ⟨p, ys, e, sq_seq hq, q⟩
theorem tupL0 : CallR X (.type "tuple") (fun xs H Q => ∃ p ys, xs = [.ref p] ∧ H p = some (.lst ys) ∧ ∀ l, H l = none → Q (.ref l) (upd H l (.tup ys))) := by
  intro pins s σ H xs us Q I r h
  obtain ⟨p, ys, e, hq, q⟩ := h
  exact call_tuple_of pins s σ H xs us Q I r ⟨p, ys, e, .inl ⟨SqL.of hq, q⟩⟩
theorem list0 : CallR X (.type "list") (fun xs H Q => ∃ p ys, xs = [.ref p] ∧ sq H p = some ys ∧ ∀ l, H l = none → Q (.ref l) (upd H l (.lst ys))) := by
  intro pins s σ H xs us Q I r h
  obtain ⟨p, ys, e, hq, q⟩ := h
  exact call_list_of pins s σ H xs us Q I r ⟨p, ys, e, sq_seq hq, q⟩
def rIn0 (neg : Bool) : R2 := fun x y H Q => ∃ p xs, y = .ref p ∧ sq H p = some xs ∧ flatV x = true ∧ xs.all flatV = true ∧ Q (.bl (if neg then !inV x xs else inV x xs)) H
theorem in0 : OpR X (compareOp .In) (rIn0 false) := by
  intro pins s σ H x y v u Q I rx ry h
  obtain ⟨p, xs, e, hq, f1, f2, q⟩ := h
  exact op_in_seq pins s σ H x y v u Q I rx ry ⟨p, xs, e, sq_seq hq, f1, f2, q⟩
def gTup0 (n : Nat) (t : TGs) : TG := fun v σ H Q => ∃ a xs, v = .ref a ∧ H a = some (.tup xs) ∧ xs.length = n ∧ t xs σ H Q
theorem pg_tup0 {es : List Expr} {k : Nat} {t : TGs} {n : Nat} {pos : Pos} (hc : X.calm = true) (h : PGs X es t)
    (hn : (assignEach es X.env).length = n := by rfl) (hst : (assignEach es X.env).findIdx? (·.1) = none := by rfl) : PG X (.Tuple es k pos) (gTup0 n t) := by
  intro pins s σ H v u Q I r hw
  obtain ⟨a, xs, e1, hq, hl, hw⟩ := hw
  exact pg_tup hc h hn hst pins s σ H v u Q I r ⟨a, xs, e1, SqT.of hq, hl, hw⟩
theorem PG.mono {tg : Expr} {g g' : TG} (h : PG X tg g) (m : ∀ v σ H Q, g' v σ H Q → g v σ H Q) : PG X tg g' := fun pins s σ H v u Q I r q => h pins s σ H v u Q I r (m _ _ _ _ q)
def ItS (f : Hp → Prop) (xs : List V) : It := ⟨fun i H => f H ∧ i < xs.length, fun i H x H' => H' = H ∧ xs[i]? = some x, fun i H => f H ∧ xs.length ≤ i⟩
theorem Turn.weak {P : Program} {w : World} {K : PySem.W.Frag} {tg : Expr} {J J' : It} {fp : List Addr} {it : Addr} {tn : Nat → Heap → Prop} (T : Turn P w K tg J fp it tn) (hg : ∀ i H, J'.go i H → J.go i H) (hs : ∀ i H, J'.stop i H → J.stop i H)
    (hy : ∀ i H x H', J'.go i H → J.yld i H x H' → J'.yld i H x H') : Turn P w K tg J' fp it tn where
  mem := T.mem
  obj := T.obj
  keep := T.keep
  item := fun X h1 h2 h3 hc i pins s σ H E I f st go => thn (T.item X h1 h2 h3 hc i pins s σ H E I f st (hg i H go)) fun r s1 ⟨u, e, q⟩ => ⟨u, e, thn q fun _ s2 ⟨x, H', I2, r2, y, t, n⟩ => ⟨x, H', I2, r2, hy i H x H' go y, t, n⟩⟩
  done := fun X h1 h2 h3 hc i pins s σ H E I f st go => T.done X h1 h2 h3 hc i pins s σ H E I f st (hs i H go)
  self := T.self
theorem PI.weak {tg iter : Expr} {wi wi' : TI} (h : PI X tg iter wi) (m : ∀ σ H R, wi' σ H R → wi σ H fun J H1 => ∃ J', R J' H1 ∧ (∀ i H, J'.go i H → J.go i H) ∧ (∀ i H, J'.stop i H → J.stop i H) ∧ (∀ i H x H', J'.go i H → J.yld i H x H' → J'.yld i H x H')) : PI X tg iter wi' := by
  intro pins s σ H R I q
  refine thn (h pins s σ H _ I (m σ H R q)) fun v s1 h1 => thn h1 fun itv s2 ⟨it, fp, tn, J, H', e, I2, T, st, f, J', r, a, b, c⟩ => ?_
  exact ⟨it, fp, tn, J', H', e, I2, T.weak a b c, st, f, r⟩
def iT0 (tl : TE) : TI := fun σ H R => tl σ H fun x H1 => ∃ a xs, x = .ref a ∧ H1 a = some (.tup xs) ∧ R (ItS (fun H => H a = some (.tup xs)) xs) H1
def iL0 (tl : TE) : TI := fun σ H R => tl σ H fun x H1 => ∃ a xs, x = .ref a ∧ H1 a = some (.lst xs) ∧ R (ItS (fun H => H a = some (.lst xs)) xs) H1
def Mono (t : TE) : Prop := ∀ σ H Q Q', (∀ v H', Q v H' → Q' v H') → t σ H Q → t σ H Q'
theorem getlen {xs : List V} {i : Nat} (h : i < xs.length) : ∃ x, xs[i]? = some x := ⟨xs[i], by simp [h]⟩
theorem pi_t0 {tg l : Expr} {tl : TE} (hl : PE X l tl) : PI X tg l (iT0 tl) := by
  intro pins s σ H R I h
  refine thn (hl pins s σ H _ I h) fun v s1 ⟨x, H1, I1, r1, q1⟩ => ?_
  obtain ⟨a, xs, e, hq, q⟩ := q1
  subst e
  cases r1
  obtain ⟨its, rv, p, hz⟩ := I1.tuple (SqT.of hq)
  refine wpAny_pyIter_tuple (show s1.heap.IsTuple a its.toArray from p) ?_
  refine ⟨s1.heap.objs.size, [s1.heap.objs.size], _, _, H1, rfl, I1.kept (t' := s1.toks) fun b o e => Heap.get?_push_of_some _ e, (turn_tuple a _).weak (J' := ItS (fun H => H a = some (.tup xs)) xs) (fun i H ⟨k, hi⟩ => ?_) (fun i H ⟨k, hi⟩ => ⟨xs, SqT.of k, hi⟩) (fun i H x H' ⟨k, hi⟩ ⟨y1, y2⟩ => ⟨y1, y2 xs (SqT.of k)⟩), ⟨_, Heap.get?_push_size _ rfl, rfl, rfl⟩, fun b hb => ?_, q⟩
  · obtain ⟨x, hx⟩ := getlen hi
    exact ⟨xs, x, SqT.of k, hx⟩
  · have e : b = s1.heap.objs.size := by simpa using hb
    subst e
    exact I1.fpOk (Nat.le_refl _) (I1.hok.fresh (Nat.le_refl _))
theorem pi_l0 {tg l : Expr} {tl : TE} (hl : PE X l tl) : PI X tg l (iL0 tl) := by
  intro pins s σ H R I h
  refine thn (hl pins s σ H _ I h) fun v s1 ⟨x, H1, I1, r1, q1⟩ => ?_
  obtain ⟨a, xs, e, hq, q⟩ := q1
  subst e
  cases r1
  obtain ⟨its, rv, p, hz⟩ := I1.list (SqL.of hq)
  refine wpAny_pyIter_list p.isList ?_
  refine ⟨s1.heap.objs.size, [s1.heap.objs.size], _, _, H1, rfl, I1.kept (t' := s1.toks) fun b o e => Heap.get?_push_of_some _ e, (turn_list a _).weak (J' := ItS (fun H => H a = some (.lst xs)) xs) (fun i H ⟨k, hi⟩ => ?_) (fun i H ⟨k, hi⟩ => ⟨xs, SqL.of k, hi⟩) (fun i H x H' ⟨k, hi⟩ ⟨y1, y2⟩ => ⟨y1, y2 xs (SqL.of k)⟩), ⟨_, Heap.get?_push_size _ rfl, rfl, rfl⟩, fun b hb => ?_, q⟩
  · obtain ⟨x, hx⟩ := getlen hi
    exact ⟨xs, x, SqL.of k, hx⟩
  · have e : b = s1.heap.objs.size := by simpa using hb
    subst e
    exact I1.fpOk (Nat.le_refl _) (I1.hok.fresh (Nat.le_refl _))
def Cal (P : Program) (w : World) (K : PySem.W.Frag) (mg : Str → Option Value) (base : Heap) (x : Str) (ps : List Str) (k : Nat) (sp : Sp) : Prop :=
  ∃ f fd, FnOk P w K mg base CX0 k f fd ps sp ∧ mg x = some (.ref f) ∧ PySem.W.keepIn K (.ref f) = true ∧ Binds K fd ps []
theorem Cal.imp {P : Program} {w : World} {K : PySem.W.Frag} {mg : Str → Option Value} {base : Heap} {x : Str} {ps : List Str} {k : Nat} {sp sp' : Sp} (c : Cal P w K mg base x ps k sp) (h : ∀ vs H Q E, sp' vs H Q E → sp vs H Q E) : Cal P w K mg base x ps k sp' :=
  let ⟨f, fd, F, r⟩ := c; ⟨f, fd, F.imp h, r⟩
theorem Cal.mono {P : Program} {w : World} {K : PySem.W.Frag} {mg : Str → Option Value} {base : Heap} {x : Str} {ps : List Str} {j k : Nat} {sp : Sp} (c : Cal P w K mg base x ps j sp) (h : j ≤ k) : Cal P w K mg base x ps k sp :=
  let ⟨f, fd, F, r⟩ := c; ⟨f, fd, F.mono h, r⟩
def tCal (sp : Sp) (t : TA) : TE := fun σ H Q => t σ H fun vs H1 => sp vs H1 Q E0
theorem pe_cal {k j : Nat} {x : Str} {ps : List Str} {sp : Sp} {t : TA} {e : Expr} {es : List Expr} {p pos : Pos} (c : Cal X.prog X.w X.K X.mg X.base x ps k sp) (hr : Room j X.A) (ha : PA X (e :: es) t) (hg : Gl X x := by rfl) (hk : k ≤ j := by decide)
    (hdb : (x == ("__debug__" : Str)) = false := by decide) (he : starEach (e :: es) X.env = (false, eval e X.env) :: starEach es X.env := by rfl) (hpl : (backTo pos (starEach es X.env)).any (·.1) = false := by rfl) :
    PE X (.Call (.Name x p) (e :: es) [] pos) (tCal sp t) := by
  obtain ⟨f, fd, F, hm, kp, hb⟩ := c
  intro pins s σ H Q I h
  refine pe_call (E := E0) (dvs := []) F (hr.mono hk) hg hm kp hb .nil pass0 ha hdb he hpl pins s σ H Q I ?_
  show t σ H fun vs H1 => sp (vs ++ []) H1 Q E0
  have h' : t σ H fun vs H1 => sp vs H1 Q E0 := h
  simpa using h'
theorem cal_of {P : Program} {w : World} {K : PySem.W.Frag} {mg : Str → Option Value} {base : Heap} {x : Str} {st : Stmt} {f : Addr} {fd : FuncData} {N ps : List Str} {k : Nat} {sp : Sp} (F : Fun K x x st f fd) (hm : mg x = some (.ref f)) (hb : Binds K fd ps [])
    (S : FnScope N ps (defScope st)) (len : ∀ vs H Q E, sp vs H Q E → vs.length = ps.length)
    (hbody : ∀ (cdv : Value) (A : Around) (outer : List Env) (s : Shared) (H : Hp) (vs : List V) (Q : VK) (E : XK), Room k (A.deeper (envOfC x (defScope st) s.heap.objs.size f cdv)) → sp vs H Q E →
      ∃ t, PSs (cxOf CX0 P w K mg base N x (defScope st) f cdv A outer s H E).nox (defBody st) t ∧ t { nx := fun _ H' => Q .non H', rt := Q } (start N vs) H) : Cal P w K mg base x ps (k + 1) sp :=
  ⟨f, fd, F.ok S len hbody, hm, F.kp, hb⟩
def rBits : V → List V → Hp → VK → Prop := fun x vs H Q => ∃ i, x = .int i ∧ vs = [] ∧ Q (.int (Builtin.Int.intBits i : Nat)) H
theorem mt_bits : MtR X "int.bit_length" rBits := by
  intro pins s σ H x vs v us Q I rx rv h
  obtain ⟨i, rfl, rfl, q⟩ := h
  obtain ⟨t, rfl⟩ := rx
  cases rv
  exact call_int_bit_length ⟨.int (Builtin.Int.intBits i : Nat), H, I.tok _, ⟨_, rfl⟩, q⟩
def tBits (to : TE) : TE := fun σ H Q => to σ H fun x H1 => ∃ i, x = .int i ∧ Q (.int (Builtin.Int.intBits i : Nat)) H1
theorem pe_bits {o : Expr} {to : TE} {apos cpos : Pos} (ho : PE X o to) (hbase : attributeBase o "bit_length" X.env (eval o X.env) = eval o X.env := by rfl) (hline : (apos.endLine == cpos.line) = true := by rfl) (hm : Mono to) : PE X (.Call (.Attribute o "bit_length" apos) [] [] cpos) (tBits to) := by
  intro pins s σ H Q I h
  refine pe_bm0 PySem.F.plainAttrs_int slot_int_bit_length type_int_bit_length mt_bits ho hbase hline pins s σ H Q I (hm σ H _ _ (fun v H' ⟨i, e, q⟩ => ?_) h)
  subst e
  exact ⟨rfl, i, rfl, rfl, q⟩
theorem mono_var {i : Nat} : Mono (tVar i) := fun _ _ _ _ m ⟨v, e, q⟩ => ⟨v, e, m _ _ q⟩
theorem isnot_bl : OpR X (compareOp .IsNot) (fun x y H Q => ∃ a b, x = .bl a ∧ y = .bl b ∧ Q (.bl (a != b)) H) := by
  intro pins s σ H x y v u Q I rx ry h
  obtain ⟨a, b, rfl, rfl, q⟩ := h
  cases rx
  cases ry
  exact isnot_bool ⟨.bl (a != b), H, I, rfl, q⟩
section
variable {pins : List (Addr × Obj)} {σ : St} {H : Hp} {s : Shared}
theorem Inv.walk {p : Addr} {xs : List V} {E : Value → Shared → Prop} {R : Value → Shared → Prop} (I : Inv X pins σ H s) (hc : X.calm = true) (hq : sq H p = some xs)
    (h : ∀ (it : Addr) (its : List Value) (s2 : Shared) (St : Nat → Heap → Prop) (fp : List Addr), Vals xs its → Walks X.prog X.w X.A.in1 it fp [it] its.length (fun i v => its[i]? = some v) St → St 0 s2.heap → (∀ b ∈ fp, b < s2.heap.objs.size) → s2.heap.objs.size = it + 1 →
      (∀ h' tk, (∀ b o, b ∉ [it] → s2.heap.get? b = some o → h'.get? b = some o) → Inv X pins σ H { s2 with heap := h', toks := tk }) → R (.ref it) s2) :
    wpAny (model X.prog X.w) X.A.in1 (pyIter (.ref p)) R E s := by
  have hd : X.A.in1.handled = none := I.ok.hd hc
  have key : ∀ (ob : Obj), Inv X pins σ H { s with heap := s.heap.push ob } ∧ ∀ h' tk, (∀ b o, b ∉ [s.heap.objs.size] → (s.heap.push ob).get? b = some o → h'.get? b = some o) → Inv X pins σ H { s with heap := h', toks := tk } := fun ob => by
    refine ⟨I.kept (t' := s.toks) fun b o e => Heap.get?_push_of_some _ e, fun h' tk k => I.kept fun b o e => k b o (fun z => ?_) (Heap.get?_push_of_some _ e)⟩
    have e' : b = s.heap.objs.size := by simpa using z
    exact Nat.lt_irrefl _ (e' ▸ Heap.lt_size e)
  rcases sq_seq (K := X.K) hq with k | k
  · obtain ⟨its, rv, pl, hz⟩ := I.list k
    have ne : p ≠ s.heap.objs.size := Nat.ne_of_lt (let ⟨_, e, _⟩ := pl.isList; Heap.lt_size e)
    refine wpAny_pyIter_list pl.isList ?_
    refine h s.heap.objs.size its _ (fun i h => h.IsListIter s.heap.objs.size p i ∧ h.IsList p its.toArray) [s.heap.objs.size, p] rv (by simpa using Walks.list hd s.heap.objs.size p ne its.toArray) ⟨⟨_, Heap.get?_push_size _ rfl, rfl, rfl⟩, pl.isList.at fun o e => Heap.get?_push_of_some _ e⟩ (fun b hb => ?_) (Heap.size_push ..) (key _).2
    rw [Heap.size_push]
    rcases List.mem_cons.mp hb with rfl | hb
    · exact Nat.lt_succ_self _
    · have e : b = p := by simpa using hb
      subst e
      exact Nat.lt_succ_of_lt (let ⟨_, e, _⟩ := pl.isList; Heap.lt_size e)
  · obtain ⟨its, rv, pl, hz⟩ := I.tuple k
    have lt : p < s.heap.objs.size := pl.lt
    have ne : p ≠ s.heap.objs.size := Nat.ne_of_lt lt
    refine wpAny_pyIter_tuple (show s.heap.IsTuple p its.toArray from pl) ?_
    refine h s.heap.objs.size its _ (fun i h => h.IsTupleIter s.heap.objs.size p i ∧ h.IsTuple p its.toArray) [s.heap.objs.size, p] rv (by simpa using Walks.tuple hd s.heap.objs.size p ne its.toArray) ⟨⟨_, Heap.get?_push_size _ rfl, rfl, rfl⟩, (show s.heap.IsTuple p its.toArray from pl).at fun o e => Heap.get?_push_of_some _ e⟩ (fun b hb => ?_) (Heap.size_push ..) (key _).2
    rw [Heap.size_push]
    rcases List.mem_cons.mp hb with rfl | hb
    · exact Nat.lt_succ_self _
    · have e : b = p := by simpa using hb
      subst e
      exact Nat.lt_succ_of_lt lt
end
theorem preSum_eq (ns : List Int) : ∀ n, n ≤ ns.length → preSum (fun i => ns.getD i 0) n = (ns.take n).sum
  | 0, _ => rfl
  | n + 1, h => by
    show preSum (fun i => ns.getD i 0) n + ns.getD n 0 = _
    rw [preSum_eq ns n (by omega), List.take_add_one, List.getElem?_eq_getElem (by omega), List.sum_append]
    simp [List.getD_eq_getElem?_getD, List.getElem?_eq_getElem (show n < ns.length by omega)]
theorem vals_int_get {ns : List Int} {its : List Value} (r : Vals (ns.map V.int) its) {i : Nat} {v : Value} (h : its[i]? = some v) : ∃ t, v = .int (ns.getD i 0) t := by
  have hl := r.length
  rw [List.length_map] at hl
  have hi : i < ns.length := by rw [hl]; exact (List.getElem?_eq_some_iff.mp h).1
  obtain ⟨u, hu, t, rfl⟩ := r.get (i := i) (x := V.int ns[i]) (by simp [hi])
  rw [h] at hu
  cases hu
  exact ⟨t, by simp [List.getD_eq_getElem?_getD, hi]⟩
def sumFits (ns : List Int) : Prop := (∀ n ∈ ns, -(2 ^ 62) ≤ n ∧ n < 2 ^ 62) ∧ ∀ j, j ≤ ns.length → InLong (ns.take j).sum
theorem sum0 (hc : X.calm = true) : CallR X (.builtin "sum") (fun xs H Q => ∃ (p : Addr) (ns : List Int), xs = [.ref p] ∧ sq H p = some (ns.map V.int) ∧ sumFits ns ∧ Q (.int ns.sum) H) := by
  intro pins s σ H xs us Q I r h
  obtain ⟨p, ns, rfl, hq, fit, q⟩ := h
  obtain ⟨u, rfl, ru⟩ := r.one
  cases ru
  refine call_sum_walk (I.walk hc hq fun it its s2 St fp rv W st hfp hsz J => ?_)
  have hl := rv.length
  rw [List.length_map] at hl
  refine ⟨it, fp, [it], its.length, _, St, fun i => ns.getD i 0, rfl, W, st, hfp, fun i v hv => vals_int_get rv hv, fun j hj => ⟨?_, ?_⟩, fun h' tk t' k => ⟨.int ns.sum, H, J h' tk k, ?_, q⟩⟩
  · have hj' : j < ns.length := by omega
    have e : ns.getD j 0 = ns[j] := by simp [List.getD_eq_getElem?_getD, hj']
    show InLong (ns.getD j 0)
    rw [e]
    obtain ⟨a, b⟩ := fit.1 ns[j] (List.getElem_mem hj')
    exact ⟨by omega, by omega⟩
  · rw [preSum_eq ns (j + 1) (by omega)]
    exact fit.2 (j + 1) (by omega)
  · rw [← hl, preSum_eq ns _ (Nat.le_refl _), List.take_length]
    exact ⟨_, rfl⟩
theorem vals_bl_get {bs : List Bool} {its : List Value} (r : Vals (bs.map V.bl) its) {i : Nat} {v : Value} (h : its[i]? = some v) : v = .bool (bs.getD i true) := by
  have hl := r.length
  rw [List.length_map] at hl
  have hi : i < bs.length := by rw [hl]; exact (List.getElem?_eq_some_iff.mp h).1
  obtain ⟨u, hu, e⟩ := r.get (i := i) (x := V.bl bs[i]) (by simp [hi])
  rw [h] at hu
  cases hu
  rw [show v = Value.bool bs[i] from e]
  simp [List.getD_eq_getElem?_getD, hi]
theorem truth_bl {bs : List Bool} {its : List Value} (r : Vals (bs.map V.bl) its) (A : Around) : TruthOf X.prog X.w A (fun i v => its[i]? = some v) (fun i => bs.getD i true) := fun i v s Q E h q => by
  rw [vals_bl_get r h]
  exact wpAny_truthy_bool q
theorem range_all (bs : List Bool) : (List.range bs.length).all (fun i => bs.getD i true) = bs.all id := by
  rw [Bool.eq_iff_iff, List.all_eq_true, List.all_eq_true]
  constructor
  · intro h b hb
    obtain ⟨i, hi, rfl⟩ := List.mem_iff_getElem.mp hb
    have := h i (List.mem_range.mpr hi)
    simpa [List.getD_eq_getElem?_getD, hi] using this
  · intro h i hi
    have hi' := List.mem_range.mp hi
    have := h bs[i] (List.getElem_mem hi')
    simpa [List.getD_eq_getElem?_getD, hi'] using this
theorem all0 (hc : X.calm = true) : CallR X (.builtin "all") (fun xs H Q => ∃ (p : Addr) (bs : List Bool), xs = [.ref p] ∧ sq H p = some (bs.map V.bl) ∧ Q (.bl (bs.all id)) H) := by
  intro pins s σ H xs us Q I r h
  obtain ⟨p, bs, rfl, hq, q⟩ := h
  obtain ⟨u, rfl, ru⟩ := r.one
  cases ru
  refine call_all_walk (I.walk hc hq fun it its s2 St fp rv W st hfp hsz J => ?_)
  have hl := rv.length
  rw [List.length_map] at hl
  refine ⟨it, fp, [it], its.length, _, St, fun i => bs.getD i true, rfl, W, st, truth_bl rv _, fun h' tk k => ⟨.bl (bs.all id), H, J h' tk k, ?_, q⟩⟩
  rw [← hl, range_all]
  exact rfl
def tyN (H : Hp) : V → Option String
  | .non => some "NoneType"
  | .bl _ => some "bool"
  | .int _ => some "int"
  | .str _ => some "str"
  | .ref a => match H a with
    | some (.lst _) => some "list"
    | some (.tup _) => some "tuple"
    | some (.dK _) => some "dict"
    | _ => none
  | _ => none
def subN (t T : String) : Bool := t == T || (t == "bool" && T == "int")
theorem tyN_of {K : PySem.W.Frag} {H : Hp} {x : V} {t : String} (h : tyN H x = some t) : TyOf K H x (.type t) ∧ (t = "NoneType" ∨ t = "bool" ∨ t = "int" ∨ t = "str" ∨ t = "list" ∨ t = "tuple" ∨ t = "dict") := by
  cases x with
  | non => cases h; exact ⟨.non, by simp⟩
  | bl b => cases h; exact ⟨.bl b, by simp⟩
  | int i => cases h; exact ⟨.int i, by simp⟩
  | str i => cases h; exact ⟨.str i, by simp⟩
  | ref a =>
    cases e : H a with
    | none => simp [tyN, e] at h
    | some o =>
      cases o with
      | lst xs => simp [tyN, e] at h; subst h; exact ⟨.lst e, by simp⟩
      | tup xs => simp [tyN, e] at h; subst h; exact ⟨.tup e, by simp⟩
      | dK xs => simp [tyN, e] at h; subst h; exact ⟨.dK e, by simp⟩
      | _ => simp [tyN, e] at h
  | _ => cases h
theorem kit_of {K : PySem.W.Frag} {t T : String} (h : t = "NoneType" ∨ t = "bool" ∨ t = "int" ∨ t = "str" ∨ t = "list" ∨ t = "tuple" ∨ t = "dict") (hT : T = "int" ∨ T = "bool" ∨ T = "tuple" ∨ T = "str" ∨ T = "list") : PySem.W.kitOne K (.type t) (.type T) = some (subN t T) := by
  rcases h with rfl | rfl | rfl | rfl | rfl | rfl | rfl <;> rcases hT with rfl | rfl | rfl | rfl | rfl <;> rfl
theorem isi0 : CallR X (.builtin "isinstance") (fun xs H Q => ∃ x T t, xs = [x, .ty T] ∧ tyN H x = some t ∧ (T = "int" ∨ T = "bool" ∨ T = "tuple" ∨ T = "str" ∨ T = "list") ∧ Q (.bl (subN t T)) H) := by
  intro pins s σ H xs us Q I r h
  obtain ⟨x, T, t, rfl, ht, hT, q⟩ := h
  obtain ⟨u, v, rfl, ru, rv⟩ := r.two
  cases (show v = Value.type T from rv)
  obtain ⟨ty, ht'⟩ := tyN_of (K := X.K) ht
  exact isinst_ok I ru ty (kit_of ht' hT) fun tk => ⟨.bl (subN t T), H, I.tok tk, rfl, q⟩
end
end L2
end
section
set_option Elab.async false
set_option linter.all false
set_option maxRecDepth 100000
namespace L2
open PySem PySem.Spec PyProof.Rows
theorem bt_len : bootBuiltins "len" = some (.builtin "len") := by decide +kernel
theorem bt_sum : bootBuiltins "sum" = some (.builtin "sum") := by decide +kernel
theorem bt_all : bootBuiltins "all" = some (.builtin "all") := by decide +kernel
theorem bt_isinstance : bootBuiltins "isinstance" = some (.builtin "isinstance") := by decide +kernel
theorem bt_max : bootBuiltins "max" = some (.builtin "max") := by decide +kernel
theorem bt_tuple : bootBuiltins "tuple" = some (.type "tuple") := by decide +kernel
theorem bt_list : bootBuiltins "list" = some (.type "list") := by decide +kernel
theorem bt_int : bootBuiltins "int" = some (.type "int") := by decide +kernel
theorem bt_bool : bootBuiltins "bool" = some (.type "bool") := by decide +kernel
theorem for_seq {f : Hp → Prop} {xs : List V} {g : TG} {tb : TS} {D : Ends} {σ : St} {H : Hp} (Pv : Nat → St → Hp → Prop) (h0 : Pv 0 σ H) (hl : ∀ i σ H, i ≤ xs.length → Pv i σ H → f H)
    (hs : ∀ i x σ H, xs[i]? = some x → Pv i σ H → g x σ H fun σ2 H2 => tb { D with nx := Pv (i + 1), ct := Pv (i + 1), bk := D.nx } σ2 H2) (hd : ∀ σ H, Pv xs.length σ H → D.nx σ H) :
    ∃ W : Nat → Nat → St → Hp → Prop, (∃ m, W 0 m σ H) ∧ ∀ i m σ H, W i m σ H →
      ((ItS f xs).stop i H ∧ D.nx σ H) ∨ ((ItS f xs).go i H ∧ ∃ N : St → Hp → Prop, (∀ σ' H', N σ' H' → ∃ m', m' < m ∧ W (i + 1) m' σ' H') ∧ ∀ x H', (ItS f xs).yld i H x H' → g x σ H' fun σ2 H2 => tb { D with nx := N, ct := N, bk := D.nx } σ2 H2) := by
  refine ⟨fun i m σ H => m = xs.length - i ∧ i ≤ xs.length ∧ Pv i σ H, ⟨xs.length, by simp, Nat.zero_le _, h0⟩, ?_⟩
  rintro i m σ H ⟨rfl, hi, p⟩
  have q := hl i σ H hi p
  by_cases hlt : i < xs.length
  · refine .inr ⟨⟨q, hlt⟩, Pv (i + 1), fun σ' H' p' => ⟨xs.length - (i + 1), by omega, rfl, hlt, p'⟩, fun x H' y => ?_⟩
    obtain ⟨e, y⟩ := y
    subst e
    exact hs i x σ _ y p
  · have e : i = xs.length := by omega
    subst e
    exact .inl ⟨⟨q, Nat.le_refl _⟩, hd σ H p⟩
theorem cl_seq {f : Hp → Prop} {xs : List V} {g : TG} {tc : TT} {tb : TB} {D : St → Hp → Prop} {σ : St} {H : Hp} (Pv : Nat → St → Hp → Prop) (h0 : Pv 0 σ H) (hl : ∀ i σ H, i ≤ xs.length → Pv i σ H → f H)
    (hs : ∀ i x σ H, xs[i]? = some x → Pv i σ H → g x σ H fun σ2 H2 => tc σ2 H2 fun b H3 => if b = true then tb σ2 H3 (Pv (i + 1)) else Pv (i + 1) σ2 H3) (hd : ∀ σ H, Pv xs.length σ H → D σ H) : tCL (ItS f xs) g tc tb D σ H := by
  refine ⟨fun i m σ H => m = xs.length - i ∧ i ≤ xs.length ∧ Pv i σ H, ⟨xs.length, by simp, Nat.zero_le _, h0⟩, ?_⟩
  rintro i m σ H ⟨rfl, hi, p⟩
  have q := hl i σ H hi p
  by_cases hlt : i < xs.length
  · refine .inr ⟨⟨q, hlt⟩, Pv (i + 1), fun σ' H' p' => ⟨xs.length - (i + 1), by omega, rfl, hlt, p'⟩, fun x H' y => ?_⟩
    obtain ⟨e, y⟩ := y
    subst e
    exact hs i x σ _ y p
  · have e : i = xs.length := by omega
    subst e
    exact .inl ⟨⟨q, Nat.le_refl _⟩, hd σ H p⟩
theorem cl_range {lo : Int} {n : Nat} {g : TG} {tc : TT} {tb : TB} {D : St → Hp → Prop} {σ : St} {H : Hp} (Pv : Nat → St → Hp → Prop) (h0 : Pv 0 σ H)
    (hs : ∀ i σ H, i < n → Pv i σ H → g (.int (lo + i)) σ H fun σ2 H2 => tc σ2 H2 fun b H3 => if b = true then tb σ2 H3 (Pv (i + 1)) else Pv (i + 1) σ2 H3) (hd : ∀ σ H, Pv n σ H → D σ H) : tCL (Itr lo n) g tc tb D σ H := by
  refine ⟨fun i m σ H => m = n - i ∧ i ≤ n ∧ Pv i σ H, ⟨n, by simp, Nat.zero_le _, h0⟩, ?_⟩
  rintro i m σ H ⟨rfl, hi, p⟩
  by_cases hlt : i < n
  · refine .inr ⟨hlt, Pv (i + 1), fun σ' H' p' => ⟨n - (i + 1), by omega, rfl, hlt, p'⟩, fun x H' y => ?_⟩
    obtain ⟨e, y⟩ := y
    subst e y
    exact hs i σ _ hlt p
  · have e : i = n := by omega
    subst e
    exact .inl ⟨Nat.le_refl _, hd σ H p⟩
def Box (H : Hp) (p : Addr) : Prop := ∃ g m c : Int, H p = some (.lst [.int g, .int m, .int c])
def But (p : Addr) (H H' : Hp) : Prop := ∀ b, b ≠ p → H' b = H b
theorem But.refl {p : Addr} {H : Hp} : But p H H := fun _ _ => rfl
theorem But.trans {p : Addr} {H H1 H2 : Hp} (a : But p H H1) (b : But p H1 H2) : But p H H2 := fun c h => (b c h).trans (a c h)
theorem But.upd {p : Addr} {H : Hp} {o : HO} : But p H (upd H p o) := fun _ h => upd_ne h
theorem But.sq {p a : Addr} {H H' : Hp} (h : But p H H') (n : a ≠ p) : sq H' a = sq H a := by unfold L2.sq; rw [h a n]
def Scr (K : PySem.W.Frag) (a : Addr) (ns : List Int) (H : Hp) : Prop := SqL K H a (ns.map V.int)
theorem same_upd {H : Hp} {p : Addr} {o : HO} (n : H p = none) : Same H (upd H p o) := fun b u e => by rw [upd_ne (ne_of_none e n)]; exact e
section
variable {X : Cx}
def tTupA (t : TA) : TE := fun σ H Q => t σ H fun xs H1 => xs.length ≤ sizeLine ∧ ∀ (p : Addr) (H2 : Hp), H1 p = none → Same H1 H2 → H2 p = some (.tup xs) → Q (.ref p) H2
theorem pe_tupA {es : List Expr} {t : TA} {x1} {pos : Pos} (h : PA X es t) : PE X (.Tuple es x1 pos) (tTupA t) := by
  intro pins s σ H Q I hq
  refine Tuple_ (thn (h pos pins s σ H _ I hq) fun us s1 ⟨xs, H1, I1, r, z, q⟩ => ?_)
  have hf : H1 s1.heap.objs.size = none := I1.hok.fresh (Nat.le_refl _)
  refine wpAny_newObj_type ?_ (by show us.toArray.size ≤ sizeLine; rw [List.size_toArray, ← r.length]; exact z)
  refine ⟨.ref s1.heap.objs.size, upd H1 s1.heap.objs.size (.tup xs), I1.laid (t' := s1.toks) (fun b u e => Heap.get?_push_of_some _ e) (Nat.le_refl _) ?_, rfl, q _ _ hf (same_upd hf) upd_same⟩
  exact ⟨z, us, r, IsTup.new s1.heap _⟩
theorem tupA0 : CallR X (.type "tuple") (fun xs H Q => ∃ p ys, xs = [.ref p] ∧ H p = some (.lst ys) ∧ ∀ (l : Addr) (H2 : Hp), H l = none → Same H H2 → H2 l = some (.tup ys) → Q (.ref l) H2) := by
  intro pins s σ H xs us Q I r h
  obtain ⟨p, ys, e, hq, q⟩ := h
  exact tupL0 pins s σ H xs us Q I r ⟨p, ys, e, hq, fun l n => q l _ n (same_upd n) upd_same⟩
theorem a_tTupA {t : TA} {σ : St} {H : Hp} {Q : VK} : tTupA t σ H Q = t σ H fun xs H1 => xs.length ≤ sizeLine ∧ ∀ (p : Addr) (H2 : Hp), H1 p = none → Same H1 H2 → H2 p = some (.tup xs) → Q (.ref p) H2 := rfl
end
section
variable {D : Ends} {σ : St} {H : Hp} {Q : VK} {QB : Bool → Hp → Prop} {QA : List V → Hp → Prop} {QG : St → Hp → Prop} {R : It → Hp → Prop}
theorem a_tSeq {t u : TS} : tSeq t u D σ H = t { D with nx := u D } σ H := rfl
theorem a_tRet {te : TE} : tRet te D σ H = te σ H D.rt := rfl
theorem a_tRetN : tRetN D σ H = D.rt .non H := rfl
theorem a_tNext : tNext D σ H = D.nx σ H := rfl
theorem a_tDrop {te : TE} : tDrop te D σ H = te σ H fun _ H1 => D.nx σ H1 := rfl
theorem a_tAsg {te : TE} {g : TG} : tAsg te g D σ H = te σ H fun x H1 => g x σ H1 D.nx := rfl
theorem a_tIfS {c : TT} {t u : TS} : tIfS c t u D σ H = c σ H fun b H1 => if b = true then t D σ H1 else u D σ H1 := rfl
theorem a_tPar {i j : Nat} {ta : TA} : tPar i j ta D σ H = ta σ H fun vs H1 => ∃ v w, vs = [v, w] ∧ D.nx ((σ.set i (some v)).set j (some w)) H1 := rfl
theorem a_gName {i : Nat} {v : V} : gName i v σ H QG = QG (σ.set i (some v)) H := rfl
theorem a_gNil {vs : List V} : gNil vs σ H QG = (vs = [] ∧ QG σ H) := rfl
theorem a_gCons {t : TG} {u : TGs} {vs : List V} : gCons t u vs σ H QG = ∃ v r, vs = v :: r ∧ t v σ H fun σ' H' => u r σ' H' QG := rfl
theorem a_gTup0 {n : Nat} {t : TGs} {v : V} : gTup0 n t v σ H QG = ∃ a xs, v = .ref a ∧ H a = some (.tup xs) ∧ xs.length = n ∧ t xs σ H QG := rfl
theorem a_gSub {to ti : TE} {t : TSet} {v : V} : gSub to ti t v σ H QG = to σ H fun o H1 => ti σ H1 fun i H2 => t o i v H2 fun H3 => QG σ H3 := rfl
theorem a_rSetL {o i v : V} {q : Hp → Prop} : rSetL o i v H q = ∃ p xs k j, o = .ref p ∧ i = .int k ∧ H p = some (.lst xs) ∧ ixN xs.length k = some j ∧ q (upd H p (.lst (xs.set j v))) := rfl
theorem a_tAnd {t u : TT} : tAnd t u σ H QB = t σ H fun c H1 => if c = true then u σ H1 QB else QB false H1 := rfl
theorem a_tOr {t u : TT} : tOr t u σ H QB = t σ H fun c H1 => if c = true then QB true H1 else u σ H1 QB := rfl
theorem a_tNot {t : TT} : tNot t σ H QB = t σ H fun c H1 => QB (!c) H1 := rfl
theorem a_tTest {t : TE} : tTest t σ H QB = t σ H fun x H' => ∃ k, x = .bl k ∧ QB k H' := rfl
theorem a_tB {t : TE} : tB t σ H QB = t σ H fun x H1 => ∃ c, x = .bl c ∧ QB c H1 := rfl
theorem a_tTrue : tTrue σ H QB = QB true H := rfl
theorem a_tIf {t : TT} {ta tb : TE} : tIf t ta tb σ H Q = t σ H fun c H1 => if c = true then ta σ H1 Q else tb σ H1 Q := rfl
theorem a_tAndV {ta tb : TE} : tAndV ta tb σ H Q = ta σ H fun x H1 => ∃ c, x = .bl c ∧ if c = true then tb σ H1 Q else Q (.bl false) H1 := rfl
theorem a_tOrV {ta tb : TE} : tOrV ta tb σ H Q = ta σ H fun x H1 => ∃ c, x = .bl c ∧ if c = true then Q (.bl true) H1 else tb σ H1 Q := rfl
theorem a_tNotV {ta : TE} : tNotV ta σ H Q = ta σ H fun x H1 => ∃ c, x = .bl c ∧ Q (.bl (!c)) H1 := rfl
theorem a_tOp {r : R2} {ta tb : TE} : tOp r ta tb σ H Q = ta σ H fun x H1 => tb σ H1 fun y H2 => r x y H2 Q := rfl
theorem a_tUn {r : V → Hp → VK → Prop} {ta : TE} : tUn r ta σ H Q = ta σ H fun x H1 => r x H1 Q := rfl
theorem a_rU {g : Int → V} {x : V} : rU g x H Q = ∃ i, x = .int i ∧ Q (g i) H := rfl
theorem a_tVar {i : Nat} : tVar i σ H Q = ∃ v, σ[i]? = some (some v) ∧ Q v H := rfl
theorem a_tC {v : V} : tC v σ H Q = Q v H := rfl
theorem a_rI0 {g : Int → Int → V} {x y : V} : rI0 g x y H Q = ∃ i j, x = .int i ∧ y = .int j ∧ Q (g i j) H := rfl
theorem a_rI {C : Int → Int → Prop} {g : Int → Int → V} {x y : V} : rI C g x y H Q = ∃ i j, x = .int i ∧ y = .int j ∧ C i j ∧ Q (g i j) H := rfl
theorem a_rEq {x y : V} : rEq x y H Q = (scal x y = true ∧ Q (.bl (decide (x = y))) H) := rfl
theorem a_rNe {x y : V} : rNe x y H Q = (scal x y = true ∧ Q (.bl (!decide (x = y))) H) := rfl
theorem a_rIx0 {x y : V} : rIx0 x y H Q = ∃ p xs i v, x = .ref p ∧ y = .int i ∧ sq H p = some xs ∧ atI xs i = some v ∧ Q v H := rfl
theorem a_rIn0 {neg : Bool} {x y : V} : rIn0 neg x y H Q = ∃ p xs, y = .ref p ∧ sq H p = some xs ∧ flatV x = true ∧ xs.all flatV = true ∧ Q (.bl (if neg then !inV x xs else inV x xs)) H := rfl
theorem a_tCB {r : List V → Hp → VK → Prop} {t : TA} : tCB r t σ H Q = t σ H fun vs H1 => r vs H1 Q := rfl
theorem a_tCal {sp : Sp} {t : TA} : tCal sp t σ H Q = t σ H fun vs H1 => sp vs H1 Q E0 := rfl
theorem a_tCons {ta : TE} {tr : TA} : tCons ta tr σ H QA = ta σ H fun x H1 => tr σ H1 fun xs H2 => QA (x :: xs) H2 := rfl
theorem a_tNil : tNil σ H QA = QA [] H := rfl
theorem a_tLst {t : TA} : tLst t σ H Q = t σ H fun xs H1 => xs.length ≤ sizeLine ∧ ∀ p, H1 p = none → Q (.ref p) (upd H1 p (.lst xs)) := rfl
theorem a_tBits {to : TE} : tBits to σ H Q = to σ H fun x H1 => ∃ i, x = .int i ∧ Q (.int (Builtin.Int.intBits i : Nat)) H1 := rfl
theorem a_tLC {fr : List (Option Nat)} {wi : TI} {g : TG} {tc : TT} {te : TE} : tLC fr wi g tc te σ H Q = wi σ H fun J H1 => ∀ p, H1 p = none → tCL J g tc (tEmit p te) (fun _ H2 => Q (.ref p) H2) (frS fr σ) (upd H1 p (.lst [])) := rfl
theorem a_iRng1 {ta : TA} : iRng1 ta σ H R = ta σ H fun vs H1 => ∃ j : Int, vs = [.int j] ∧ -(2 ^ 62) ≤ j ∧ j < 2 ^ 62 ∧ R (Itr 0 j.toNat) H1 := rfl
theorem a_iRng2 {ta : TA} : iRng2 ta σ H R = ta σ H fun vs H1 => ∃ i j : Int, vs = [.int i, .int j] ∧ (-(2 ^ 62) ≤ i ∧ i < 2 ^ 62 ∧ -(2 ^ 62) ≤ j ∧ j < 2 ^ 62) ∧ R (Itr i (j - i).toNat) H1 := rfl
theorem a_iT0 {tl : TE} : iT0 tl σ H R = tl σ H fun x H1 => ∃ a xs, x = .ref a ∧ H1 a = some (.tup xs) ∧ R (ItS (fun H => H a = some (.tup xs)) xs) H1 := rfl
theorem a_iL0 {tl : TE} : iL0 tl σ H R = tl σ H fun x H1 => ∃ a xs, x = .ref a ∧ H1 a = some (.lst xs) ∧ R (ItS (fun H => H a = some (.lst xs)) xs) H1 := rfl
theorem a_tEmit {p : Addr} {te : TE} : tEmit p te σ H QG = te σ H fun y H1 => ∃ ys, H1 p = some (.lst ys) ∧ ys.length < sizeLine ∧ QG σ (upd H1 p (.lst (ys ++ [y]))) := rfl
end
def FL (J : It) (g : TG) (tb : TS) (D : Ends) (σ : St) (H1 : Hp) : Prop := ∃ W : Nat → Nat → St → Hp → Prop, (∃ m, W 0 m σ H1) ∧ ∀ i m σ H, W i m σ H →
  (J.stop i H ∧ D.nx σ H) ∨ (J.go i H ∧ ∃ N : St → Hp → Prop, (∀ σ' H', N σ' H' → ∃ m', m' < m ∧ W (i + 1) m' σ' H') ∧ ∀ x H', J.yld i H x H' → g x σ H' fun σ2 H2 => tb { D with nx := N, ct := N, bk := D.nx } σ2 H2)
theorem a_tFor {wi : TI} {g : TG} {tb : TS} {D : Ends} {σ : St} {H : Hp} : tFor wi g tb D σ H = wi σ H fun J H1 => FL J g tb D σ H1 := rfl
theorem fl_seq {f : Hp → Prop} {xs : List V} {g : TG} {tb : TS} {D : Ends} {σ : St} {H : Hp} (Pv : Nat → St → Hp → Prop) (h0 : Pv 0 σ H) (hl : ∀ i σ H, i ≤ xs.length → Pv i σ H → f H)
    (hs : ∀ i x σ H, xs[i]? = some x → Pv i σ H → g x σ H fun σ2 H2 => tb { D with nx := Pv (i + 1), ct := Pv (i + 1), bk := D.nx } σ2 H2) (hd : ∀ σ H, Pv xs.length σ H → D.nx σ H) : FL (ItS f xs) g tb D σ H := for_seq Pv h0 hl hs hd
theorem fl_range {lo : Int} {n : Nat} {g : TG} {tb : TS} {D : Ends} {σ : St} {H : Hp} (Pv : Nat → St → Hp → Prop) (h0 : Pv 0 σ H)
    (hs : ∀ i σ H, i < n → Pv i σ H → g (.int (lo + i)) σ H fun σ2 H2 => tb { D with nx := Pv (i + 1), ct := Pv (i + 1), bk := D.nx } σ2 H2) (hd : ∀ σ H, Pv n σ H → D.nx σ H) : FL (Itr lo n) g tb D σ H := for_range Pv h0 hs hd
def SameX (c : Addr) (H H' : Hp) : Prop := ∀ b o, b ≠ c → H b = some o → H' b = some o
theorem SameX.refl {c : Addr} {H : Hp} : SameX c H H := fun _ _ _ h => h
theorem SameX.trans {c : Addr} {H H1 H2 : Hp} (a : SameX c H H1) (b : SameX c H1 H2) : SameX c H H2 := fun d o n h => b d o n (a d o n h)
theorem SameX.upd {c : Addr} {H : Hp} {o : HO} : SameX c H (upd H c o) := fun b u n h => by rw [upd_ne n]; exact h
theorem Same.x {c : Addr} {H H' : Hp} (h : Same H H') : SameX c H H' := fun b o _ e => h b o e
theorem SameX.same {c : Addr} {H H' : Hp} (h : SameX c H H') (n : H c = none) : Same H H' := fun b o e => h b o (ne_of_none e n) e
theorem But.x {p : Addr} {H H' : Hp} (h : But p H H') : SameX p H H' := fun b o n e => by rw [h b n]; exact e
theorem Same.sq {H H' : Hp} (h : Same H H') {a : Addr} {xs : List V} (e : L2.sq H a = some xs) : L2.sq H' a = some xs := by
  unfold L2.sq at e ⊢
  cases q : H a with
  | none => rw [q] at e; cases e
  | some o => rw [q] at e; rw [h a o q]; exact e
theorem SameX.sq {c : Addr} {H H' : Hp} (h : SameX c H H') {a : Addr} {xs : List V} (n : a ≠ c) (e : L2.sq H a = some xs) : L2.sq H' a = some xs := by
  unfold L2.sq at e ⊢
  cases q : H a with
  | none => rw [q] at e; cases e
  | some o => rw [q] at e; rw [h a o n q]; exact e
theorem Scr.keep {K : PySem.W.Frag} {a p : Addr} {ns : List Int} {H H' : Hp} (h : Scr K a ns H) (n : H p = none) (s : SameX p H H') : Scr K a ns H' := Same.seq (s.same n) h
theorem a_rIxL {K : PySem.W.Frag} {x y : V} {H : Hp} {Q : VK} : rIxL K x y H Q = ∃ p xs i v, x = .ref p ∧ y = .int i ∧ SqL K H p xs ∧ atI xs i = some v ∧ Q v H := rfl
theorem sum_bound {b : Int} : ∀ {ns : List Int}, (∀ n ∈ ns, -b ≤ n ∧ n ≤ b) → -(b * (ns.length : Int)) ≤ ns.sum ∧ ns.sum ≤ b * (ns.length : Int)
  | [], _ => by simp
  | n :: ns, h => by
    have h1 := h n List.mem_cons_self
    have h2 := sum_bound (ns := ns) fun m hm => h m (List.mem_cons_of_mem _ hm)
    rw [List.sum_cons, List.length_cons, Int.natCast_add, Int.mul_add]
    simp only [Int.natCast_one, Int.mul_one]
    omega
theorem sumFits_of {ns : List Int} (h : ∀ n ∈ ns, -(2 ^ 40) ≤ n ∧ n ≤ 2 ^ 40) (hl : ns.length ≤ 1000) : sumFits ns := by
  refine ⟨fun n hn => ⟨by have := (h n hn).1; omega, by have := (h n hn).2; omega⟩, fun j hj => ?_⟩
  have q := sum_bound (b := 2 ^ 40) (ns := ns.take j) fun n hn => h n (List.mem_of_mem_take hn)
  have e : (ns.take j).length ≤ 1000 := by rw [List.length_take]; omega
  have e' : (2 : Int) ^ 40 * ((ns.take j).length : Int) ≤ 2 ^ 40 * 1000 := Int.mul_le_mul_of_nonneg_left (by omega) (by decide)
  constructor
  · have : (2 : Int) ^ 40 * 1000 < 2 ^ 63 := by decide
    omega
  · have : (2 : Int) ^ 40 * 1000 < 2 ^ 63 := by decide
    omega
theorem ixN30 : ixN 3 0 = some 0 := rfl
theorem ixN31 : ixN 3 1 = some 1 := rfl
theorem ixN32 : ixN 3 2 = some 2 := rfl
theorem atI0 {α : Type} (a : α) (l : List α) : atI (a :: l) 0 = some a := atI_nat (j := 0) (xs := a :: l) rfl
theorem atI1 {α : Type} (a b : α) (l : List α) : atI (a :: b :: l) 1 = some b := atI_nat (j := 1) (xs := a :: b :: l) rfl
theorem atI2 {α : Type} (a b c : α) (l : List α) : atI (a :: b :: c :: l) 2 = some c := atI_nat (j := 2) (xs := a :: b :: c :: l) rfl
end L2
end
section
set_option Elab.async false
set_option linter.all false
set_option maxRecDepth 100000
namespace L2
open PySem PySem.Spec PyProof.Rows
def SeqOf (h : Heap) (c : String) (l : Addr) (xs : Array Value) : Prop := (c = "list_iterator" ∧ h.IsList l xs) ∨ (c = "tuple_iterator" ∧ h.IsTuple l xs)
def Src (h : Heap) (c : String) (it l : Addr) (xs : Array Value) (k : Nat) : Prop := (c = "list_iterator" ∧ h.IsListIter it l k ∧ h.IsList l xs) ∨ (c = "tuple_iterator" ∧ h.IsTupleIter it l k ∧ h.IsTuple l xs)
theorem SeqOf.at {h h' : Heap} {c : String} {l : Addr} {xs : Array Value} (x : SeqOf h c l xs) (k : ∀ o, h.get? l = some o → h'.get? l = some o) : SeqOf h' c l xs := by
  rcases x with ⟨e, x⟩ | ⟨e, x⟩
  · exact .inl ⟨e, x.at k⟩
  · exact .inr ⟨e, x.at k⟩
theorem SeqOf.lt {h : Heap} {c : String} {l : Addr} {xs : Array Value} (x : SeqOf h c l xs) : l < h.objs.size := by
  rcases x with ⟨_, o, e, _⟩ | ⟨_, o, e, _⟩ <;> exact Heap.lt_size e
theorem Src.at {h h' : Heap} {c : String} {it l : Addr} {xs : Array Value} {k : Nat} (x : Src h c it l xs k) (k1 : ∀ o, h.get? it = some o → h'.get? it = some o) (k2 : ∀ o, h.get? l = some o → h'.get? l = some o) : Src h' c it l xs k := by
  rcases x with ⟨e, ⟨o, a, r⟩, y⟩ | ⟨e, ⟨o, a, r⟩, y⟩
  · exact .inl ⟨e, ⟨o, k1 o a, r⟩, y.at k2⟩
  · exact .inr ⟨e, ⟨o, k1 o a, r⟩, y.at k2⟩
theorem Src.ext {h h' : Heap} {c : String} {it l b : Addr} {xs : Array Value} {k : Nat} (x : Src h c it l xs k) (hs : Heap.SameBut b h h') (n1 : it ≠ b) (n2 : l ≠ b) : Src h' c it l xs k :=
  x.at (fun o e => hs.extBut _ _ n1 e) fun o e => hs.extBut _ _ n2 e
theorem Src.itlt {h : Heap} {c : String} {it l : Addr} {xs : Array Value} {k : Nat} (x : Src h c it l xs k) : ∃ o, h.get? it = some o ∧ ∀ v, o.data ≠ .cell v := by
  rcases x with ⟨_, ⟨o, e, _, d⟩, _⟩ | ⟨_, ⟨o, e, _, d⟩, _⟩ <;> exact ⟨o, e, fun v z => by rw [d] at z; cases z⟩
section
variable {prog : Program} {w : World} {A : Around} {E : Value → Shared → Prop} {s : Shared}
theorem iter_any {c : String} {l : Addr} {xs : Array Value} {Q : Value → Shared → Prop} (x : SeqOf s.heap c l xs) (h : Q (.ref s.heap.objs.size) { s with heap := s.heap.push { cls := .type c, data := .fields #[.ref l, .int 0 0] } }) : wpAny (model prog w) A (pyIter (.ref l)) Q E s := by
  rcases x with ⟨rfl, x⟩ | ⟨rfl, x⟩
  · exact wpAny_pyIter_list x h
  · exact wpAny_pyIter_tuple x h
theorem nextOf_tup {it l : Addr} {i : Nat} {items : Array Value} {x : Value} {Q : Value → Shared → Prop} (hit : s.heap.IsTupleIter it l i) (ht : s.heap.IsTuple l items) (hx : items[i]? = some x)
    (hQ : ∀ h', h'.IsTupleIter it l (i + 1) → Heap.SameBut it s.heap h' → Q x { s with heap := h' }) : wpAny (model prog w) A (Builtin.SmallTypes.nextOf (.ref it)) Q E s := by
  obtain ⟨o, ho, hc, hd⟩ := id hit
  obtain ⟨ot, hot, _, nt, hdt⟩ := ht
  unfold Builtin.SmallTypes.nextOf
  refine wpAny_bind (wpAny_callSpecial?_slot (name := Str.ofString "__next__") hit.typeIs F.slot_tuple_iterator_next (wpAny_call_entry F.slot_tuple_iterator_next hit.typeIs F.entry_tuple_iterator_next ?_ (F.args_tuple_iterator_next_1 _)))
  refine wpAny_bind (m := field (.ref it) 0) (wpAny_field ho hd (x := .ref l) rfl ?_)
  rw [if_neg (show ¬ ((Value.ref l == Value.none) = true) from Bool.false_ne_true)]
  refine wpAny_bind (m := field (.ref it) 1) (wpAny_field ho hd (x := .int i 0) rfl ?_)
  refine wpAny_bind (m := seqItems? (.ref l)) (wpAny_seqItems hot hdt ?_)
  simp only [Int.toNat_natCast, hx]
  refine wpAny_bind (wpAny_setField ho hd (by simp) (wpAny_pure ⟨x, rfl, wpAny_pure (hQ _ ?_ (Heap.SameBut.update ..))⟩))
  refine ⟨_, Heap.get?_update_self _ ho (Obj.isFreed_of_fields (Obj.data_mapFields hd _)), (Obj.cls_mapFields ..).trans hc, ?_⟩
  rw [Obj.data_mapFields hd]; simp [rawInt]
theorem nx_item {c : String} {it l : Addr} {xs : Array Value} {k : Nat} {x : Value} {Q : Value → Shared → Prop} (S : Src s.heap c it l xs k) (ne : l ≠ it) (hx : xs[k]? = some x)
    (hQ : ∀ h', Src h' c it l xs (k + 1) → Heap.SameBut it s.heap h' → Q x { s with heap := h' }) : wpAny (model prog w) A (Builtin.SmallTypes.nextOf (.ref it)) Q E s := by
  rcases S with ⟨e, a, b⟩ | ⟨e, a, b⟩
  · exact wpAny_nextOf_list_item a b hx fun h' a' sb => hQ h' (.inl ⟨e, a', b.extBut sb.extBut ne⟩) sb
  · exact nextOf_tup a b hx fun h' a' sb => hQ h' (.inr ⟨e, a', b.at fun o q => sb.extBut _ _ ne q⟩) sb
theorem nextOf_tup_end {it l : Addr} {i : Nat} {items : Array Value} {Q : Value → Shared → Prop} (hh : A.handled = none) (hit : s.heap.IsTupleIter it l i) (ht : s.heap.IsTuple l items) (hx : items[i]? = none)
    (hE : ∀ h' e, Heap.ExtBut it s.heap h' → (∃ o, h'.get? e = some o ∧ o.cls = .type "StopIteration") → E (.ref e) { s with heap := h' }) : wpAny (model prog w) A (Builtin.SmallTypes.nextOf (.ref it)) Q E s := by
  obtain ⟨o, ho, hc, hd⟩ := id hit
  obtain ⟨ot, hot, _, nt, hdt⟩ := ht
  unfold Builtin.SmallTypes.nextOf
  refine wpAny_bind (wpAny_callSpecial?_slot (name := Str.ofString "__next__") hit.typeIs F.slot_tuple_iterator_next (wpAny_call_entry F.slot_tuple_iterator_next hit.typeIs F.entry_tuple_iterator_next ?_ (F.args_tuple_iterator_next_1 _)))
  refine wpAny_bind (m := field (.ref it) 0) (wpAny_field ho hd (x := .ref l) rfl ?_)
  rw [if_neg (show ¬ ((Value.ref l == Value.none) = true) from Bool.false_ne_true)]
  refine wpAny_bind (m := field (.ref it) 1) (wpAny_field ho hd (x := .int i 0) rfl ?_)
  refine wpAny_bind (m := seqItems? (.ref l)) (wpAny_seqItems hot hdt ?_)
  simp only [Int.toNat_natCast, hx]
  refine wpAny_bind (wpAny_rule (wpAny_bind (wpAny_setField ho hd (by simp) ?_)))
  refine wpAny_bind (m := newExc (.type "StopIteration") []) ?_
  simp only [newExc, newTuple]
  refine wpAny_bind (wpAny_newObj_type ?_ (by size_fits))
  refine wpAny_bind (m := firstArgMember _ _) (wpAny_of_eq (a := Value.none) (by first | rfl | (simp only [firstArgMember]; rfl)) ?_)
  refine wpAny_newObj_type ?_ (by size_fits)
  simp only [raiseNew]
  refine wpAny_bind (wpAny_handled ?_)
  first | rw [show A.in1.handled = none from hh] | rw [hh]
  refine wpAny_bind (wpAny_pure (wpAny_throw ?_))
  exact hE _ _ (((Heap.SameBut.update ..).extBut.push _).push _) ⟨_, Heap.get?_push_size _ rfl, rfl⟩
theorem nx_end {c : String} {it l : Addr} {xs : Array Value} {k : Nat} {Q : Value → Shared → Prop} (hh : A.handled = none) (S : Src s.heap c it l xs k) (hx : xs[k]? = none)
    (hE : ∀ h' e, Heap.ExtBut it s.heap h' → (∃ o, h'.get? e = some o ∧ o.cls = .type "StopIteration") → E (.ref e) { s with heap := h' }) : wpAny (model prog w) A (Builtin.SmallTypes.nextOf (.ref it)) Q E s := by
  rcases S with ⟨e, a, b⟩ | ⟨e, a, b⟩
  · exact wpAny_nextOf_list_end hh a b hx hE
  · exact nextOf_tup_end hh a b hx hE
structure Zs (h : Heap) (z TI TO i1 i2 : Addr) (c1 c2 : String) (l1 l2 : Addr) (xs ys : Array Value) (k : Nat) : Prop where
  zip : IsZip h z TI TO .none
  ti : IsPair h TI (.ref i1) (.ref i2)
  to : ∃ a b, IsPair h TO a b
  s1 : Src h c1 i1 l1 xs k
  s2 : Src h c2 i2 l2 ys k
theorem zs_item {z TI TO i1 i2 l1 l2 : Addr} {c1 c2 : String} {k : Nat} {xs ys : Array Value} {x y : Value} {Q : Option Value → Shared → Prop} (D : ZipApart z TI TO i1 i2 l1 l2) (Z : Zs s.heap z TI TO i1 i2 c1 c2 l1 l2 xs ys k) (hx : xs[k]? = some x) (hy : ys[k]? = some y)
    (hQ : ∀ h', IsZip h' z TI TO (rawInt s.heap.objs.size) → IsPair h' TI (.ref i1) (.ref i2) → IsPair h' TO x y → Src h' c1 i1 l1 xs (k + 1) → Src h' c2 i2 l2 ys (k + 1) → IsPair h' s.heap.objs.size x y → h'.objs.size = s.heap.objs.size + 1 →
      (∀ c o, c ∉ [z, TO, i1, i2] → s.heap.get? c = some o → h'.get? c = some o) → Q (some (.ref s.heap.objs.size)) { s with heap := h' }) : wpAny (model prog w) A (pyNext (.ref z)) Q E s := by
  obtain ⟨hz, hTI, ⟨a, b, hTO⟩, h1, h2⟩ := Z
  have hT : s.TypeIs (.ref z) "zip" := ⟨_, hz, rfl⟩
  unfold pyNext
  refine wpAny_bind (wpAny_attempt (wpAny_callSpecial?_slot (name := Str.ofString "__next__") hT F.slot_zip_next (wpAny_call_entry F.slot_zip_next hT F.entry_zip_next ?_ (F.args_zip_next_1 _))))
  refine wpAny_bind (m := field (.ref z) 2) (wpAny_field hz rfl (x := .bool false) rfl ?_)
  refine wpAny_bind (m := field (.ref z) 3) (wpAny_field hz rfl (x := .ref TI) rfl ?_)
  refine wpAny_bind (wpAny_seqItems hTI rfl ?_)
  refine wpAny_bind (m := Builtin.SmallTypes.ownedTupleIsFree (.ref z)) ?_
  unfold Builtin.SmallTypes.ownedTupleIsFree
  refine wpAny_bind (wpAny_field hz rfl (x := .none) rfl (wpAny_pure ?_))
  simp only [if_true]
  refine wpAny_bind (wpAny_rule ?_)
  refine wpAny_bind (wpAny_field hz rfl (x := .ref TO) rfl ?_)
  refine wpAny_bind (wpAny_setField_rec hz (by simp) fun ha hza hsa => ?_)
  replace hza : IsZip ha z TI TO .ellipsis := hza
  refine wpAny_bind ?_
  simp only [List.zipIdx_cons, List.zipIdx_nil, List.forIn_cons, List.forIn_nil]
  refine wpAny_bind (wpAny_bind (wpAny_onRaise ?_))
  refine wpAny_bind (m := Builtin.SmallTypes.nextOf (.ref i1)) (nx_item (s := { s with heap := ha }) (h1.ext hsa D.i1z D.l1z) D.l1i1 hx fun hb h1b hsb => wpAny_pure ?_)
  have hTOb : IsPair hb TO a b := hsb.extBut _ _ D.TOi1 (hsa.extBut _ _ D.TOz hTO)
  refine wpAny_bind (wpAny_seqItems hTOb rfl ?_)
  refine wpAny_bind (wpAny_updateSeq_pair hTOb fun hc hTOc hsc => ?_)
  replace hTOc : IsPair hc TO x b := hTOc
  refine wpAny_bind (wpAny_letGo (wpAny_pure ?_))
  refine wpAny_bind (wpAny_bind (wpAny_onRaise ?_))
  refine wpAny_bind (m := Builtin.SmallTypes.nextOf (.ref i2)) (nx_item (s := { s with heap := hc }) (((h2.ext hsa D.i2z D.l2z).ext hsb D.i12.symm D.l2i1).ext hsc D.TOi2.symm D.l2TO) D.l2i2 hy fun hd h2d hsd => wpAny_pure ?_)
  have hTOd : IsPair hd TO x b := hsd.extBut _ _ D.TOi2 hTOc
  refine wpAny_bind (wpAny_seqItems hTOd rfl ?_)
  refine wpAny_bind (wpAny_updateSeq_pair hTOd fun he hTOe hse => ?_)
  replace hTOe : IsPair he TO x y := hTOe
  refine wpAny_bind (wpAny_letGo (wpAny_pure (wpAny_pure ?_)))
  refine wpAny_bind (wpAny_seqItems hTOe rfl ?_)
  refine wpAny_bind (wpAny_newTuple ?_)
  have sz : he.objs.size = s.heap.objs.size := by rw [hse.1, hsd.1, hsc.1, hsb.1, hsa.1]
  have ze : IsZip he z TI TO .ellipsis := hse.extBut _ _ D.TOz.symm (hsd.extBut _ _ D.i2z.symm (hsc.extBut _ _ D.TOz.symm (hsb.extBut _ _ D.i1z.symm hza)))
  have ke : ∀ c o, c ≠ z → c ≠ TO → c ≠ i1 → c ≠ i2 → s.heap.get? c = some o → he.get? c = some o := fun c o n1 n2 n3 n4 e => hse.extBut _ _ n2 (hsd.extBut _ _ n4 (hsc.extBut _ _ n2 (hsb.extBut _ _ n3 (hsa.extBut _ _ n1 e))))
  have h1e : Src he c1 i1 l1 xs (k + 1) := ((h1b.ext hsc D.TOi1.symm D.l1TO).ext hsd D.i12 D.l1i2).ext hse D.TOi1.symm D.l1TO
  have h2e : Src he c2 i2 l2 ys (k + 1) := h2d.ext hse D.TOi2.symm D.l2TO
  have zlt : z < he.objs.size := Heap.lt_size ze
  refine wpAny_bind (m := Builtin.SmallTypes.ownedTupleHandOut (.ref z) (.ref he.objs.size)) ?_
  unfold Builtin.SmallTypes.ownedTupleHandOut
  refine wpAny_bind (wpAny_setField_rec (show IsZip (he.push { cls := .type "tuple", data := .seq #[x, y] }) z TI TO .ellipsis from Heap.get?_push_of_some _ ze) (by simp) fun hf hzf hsf => ?_)
  replace hzf : IsZip hf z TI TO (rawInt he.objs.size) := hzf
  refine wpAny_setField_rec hzf (by simp) fun hg hzg hsg => ?_
  replace hzg : IsZip hg z TI TO (rawInt he.objs.size) := hzg
  have up : ∀ c o, c ≠ z → he.get? c = some o → hg.get? c = some o := fun c o n e => hsg.extBut _ _ n (hsf.extBut _ _ n (Heap.get?_push_of_some _ e))
  have new : IsPair hg he.objs.size x y := hsg.extBut _ _ (Nat.ne_of_gt zlt) (hsf.extBut _ _ (Nat.ne_of_gt zlt) (Heap.get?_push_size _ rfl))
  have szg : hg.objs.size = he.objs.size + 1 := by rw [hsg.1, hsf.1, Heap.size_push]
  refine wpAny_pure ⟨_, rfl, wpAny_pure ?_⟩
  rw [sz] at hzg new szg ⊢
  refine hQ hg hzg (up _ _ D.TIz (ke _ _ D.TIz D.TITO D.TIi1 D.TIi2 hTI)) (up _ _ D.TOz hTOe) (h1e.at (fun o e => up _ o D.i1z e) fun o e => up _ o D.l1z e) (h2e.at (fun o e => up _ o D.i2z e) fun o e => up _ o D.l2z e) new szg fun c o hc' e => ?_
  have n1 : c ≠ z := fun q => hc' (by simp [q])
  exact up c o n1 (ke c o n1 (fun q => hc' (by simp [q])) (fun q => hc' (by simp [q])) (fun q => hc' (by simp [q])) e)
end
end L2
end
section
set_option Elab.async false
set_option linter.all false
set_option maxRecDepth 100000
namespace L2
open PySem PySem.Spec PyProof.Rows
section
variable {prog : Program} {w : World} {A : Around} {E : Value → Shared → Prop} {s : Shared}
theorem zs_end {z TI TO i1 i2 l1 l2 : Addr} {c1 c2 : String} {k : Nat} {xs ys : Array Value} {Q : Option Value → Shared → Prop} (hh : A.handled = none) (D : ZipApart z TI TO i1 i2 l1 l2) (Z : Zs s.heap z TI TO i1 i2 c1 c2 l1 l2 xs ys k) (hend : xs[k]? = none ∨ ys[k]? = none)
    (hQ : ∀ h', (∀ c o, c ∉ [z, TO, i1, i2] → s.heap.get? c = some o → h'.get? c = some o) → Q none { s with heap := h' }) : wpAny (model prog w) A (pyNext (.ref z)) Q E s := by
  obtain ⟨hz, hTI, ⟨a, b, hTO⟩, h1, h2⟩ := Z
  have hT : s.TypeIs (.ref z) "zip" := ⟨_, hz, rfl⟩
  unfold pyNext
  have fin : ∀ h' e, (∀ c o, c ≠ z → c ≠ TO → c ≠ i1 → c ≠ i2 → s.heap.get? c = some o → h'.get? c = some o) → (∃ o, h'.get? e = some o ∧ o.cls = .type "StopIteration") →
      wpAny (model prog w) A (isInstance (.ref e) (.type "StopIteration") >>= fun y => if y = true then pure none else throw (.ref e)) Q E { s with heap := h' } := fun h' e k ⟨o, ho, hc⟩ => by
    refine wpAny_bind (wpAny_isInstance (T := "StopIteration") (b := true) ⟨o, ho, hc⟩ isSubtype_stop ?_)
    exact wpAny_pure (hQ _ fun c o hc' x => k c o (fun q => hc' (by simp [q])) (fun q => hc' (by simp [q])) (fun q => hc' (by simp [q])) (fun q => hc' (by simp [q])) x)
  refine wpAny_bind (wpAny_attempt (wpAny_callSpecial?_slot (name := Str.ofString "__next__") hT F.slot_zip_next (wpAny_call_entry F.slot_zip_next hT F.entry_zip_next ?_ (F.args_zip_next_1 _))))
  refine wpAny_bind (m := field (.ref z) 2) (wpAny_field hz rfl (x := .bool false) rfl ?_)
  refine wpAny_bind (m := field (.ref z) 3) (wpAny_field hz rfl (x := .ref TI) rfl ?_)
  refine wpAny_bind (wpAny_seqItems hTI rfl ?_)
  refine wpAny_bind (m := Builtin.SmallTypes.ownedTupleIsFree (.ref z)) ?_
  unfold Builtin.SmallTypes.ownedTupleIsFree
  refine wpAny_bind (wpAny_field hz rfl (x := .none) rfl (wpAny_pure ?_))
  simp only [if_true]
  refine wpAny_bind (wpAny_rule ?_)
  refine wpAny_bind (wpAny_field hz rfl (x := .ref TO) rfl ?_)
  refine wpAny_bind (wpAny_setField_rec hz (by simp) fun ha hza hsa => ?_)
  replace hza : IsZip ha z TI TO .ellipsis := hza
  refine wpAny_bind ?_
  simp only [List.zipIdx_cons, List.zipIdx_nil, List.forIn_cons, List.forIn_nil]
  refine wpAny_bind (wpAny_bind (wpAny_onRaise ?_))
  cases hx : xs[k]? with
  | none =>
    refine wpAny_bind (m := Builtin.SmallTypes.nextOf (.ref i1)) (nx_end (s := { s with heap := ha }) hh (h1.ext hsa D.i1z D.l1z) hx fun hb e hsb he => ?_)
    obtain ⟨oe, hoe, hce⟩ := he
    have hzb : IsZip hb z TI TO .ellipsis := hsb _ _ D.i1z.symm hza
    have hez : e ≠ z := fun q => by subst q; rw [hzb] at hoe; cases hoe; simp at hce
    refine wpAny_setField_rec hzb (by simp) fun hc _ hsc => fin hc e (fun c o n1 _ n3 _ q => hsc.extBut _ _ n1 (hsb _ _ n3 (hsa.extBut _ _ n1 q))) ⟨oe, hsc.extBut _ _ hez hoe, hce⟩
  | some x =>
    have hy : ys[k]? = none := by rcases hend with h | h; rw [hx] at h; cases h; exact h
    refine wpAny_bind (m := Builtin.SmallTypes.nextOf (.ref i1)) (nx_item (s := { s with heap := ha }) (h1.ext hsa D.i1z D.l1z) D.l1i1 hx fun hb h1b hsb => wpAny_pure ?_)
    have hTOb : IsPair hb TO a b := hsb.extBut _ _ D.TOi1 (hsa.extBut _ _ D.TOz hTO)
    refine wpAny_bind (wpAny_seqItems hTOb rfl ?_)
    refine wpAny_bind (wpAny_updateSeq_pair hTOb fun hc hTOc hsc => ?_)
    refine wpAny_bind (wpAny_letGo (wpAny_pure ?_))
    refine wpAny_bind (wpAny_bind (wpAny_onRaise ?_))
    refine wpAny_bind (m := Builtin.SmallTypes.nextOf (.ref i2)) (nx_end (s := { s with heap := hc }) hh (((h2.ext hsa D.i2z D.l2z).ext hsb D.i12.symm D.l2i1).ext hsc D.TOi2.symm D.l2TO) hy fun hd e hsd he => ?_)
    obtain ⟨oe, hoe, hce⟩ := he
    have hzd : IsZip hd z TI TO .ellipsis := hsd _ _ D.i2z.symm (hsc.extBut _ _ D.TOz.symm (hsb.extBut _ _ D.i1z.symm hza))
    have hez : e ≠ z := fun q => by subst q; rw [hzd] at hoe; cases hoe; simp at hce
    refine wpAny_setField_rec hzd (by simp) fun he _ hse => fin he e (fun c o n1 n2 n3 n4 q => hse.extBut _ _ n1 (hsd _ _ n4 (hsc.extBut _ _ n2 (hsb.extBut _ _ n3 (hsa.extBut _ _ n1 q))))) ⟨oe, hse.extBut _ _ hez hoe, hce⟩
abbrev zH1 (h : Heap) (c1 : String) (l1 : Addr) : Heap := h.push { cls := .type c1, data := .fields #[.ref l1, .int 0 0] }
abbrev zH2 (h : Heap) (c1 c2 : String) (l1 l2 : Addr) : Heap := (zH1 h c1 l1).push { cls := .type c2, data := .fields #[.ref l2, .int 0 0] }
abbrev zH3 (h : Heap) (c1 c2 : String) (l1 l2 : Addr) : Heap := (zH2 h c1 c2 l1 l2).push { cls := .type "tuple", data := .seq #[.ref h.objs.size, .ref (zH1 h c1 l1).objs.size] }
abbrev zH4 (h : Heap) (c1 c2 : String) (l1 l2 : Addr) : Heap := (zH3 h c1 c2 l1 l2).push { cls := .type "tuple", data := .seq #[.none, .none] }
abbrev zH5 (h : Heap) (c1 c2 : String) (l1 l2 : Addr) : Heap := (zH4 h c1 c2 l1 l2).push { cls := .type "zip", data := .fields #[.none, .bool false, .bool false, .ref (zH2 h c1 c2 l1 l2).objs.size, .ref (zH3 h c1 c2 l1 l2).objs.size] }
theorem meets_zip (c1 c2 : String) (l1 l2 : Addr) (xs ys : Array Value) :
    Meets (Builtin.«zip.__new__» ⟨[.type "zip", .ref l1, .ref l2], []⟩) (fun _ R s => SeqOf s.heap c1 l1 xs ∧ SeqOf s.heap c2 l2 ys ∧ R (.ok (.ret (.ref (zH4 s.heap c1 c2 l1 l2).objs.size))) { s with heap := zH5 s.heap c1 c2 l1 l2 }) :=
  .of_wp fun prog w A R s h => by
    obtain ⟨hp, g, d, tk, os⟩ := s
    obtain ⟨hl1, hl2, h⟩ := h
    have hsub := PySem.sub_zip
    have hL1 : SeqOf (Shared.heap ⟨hp, g, d, tk, os⟩) c1 l1 xs := hl1
    have hL2 : SeqOf (Shared.heap ⟨hp.push { cls := .type c1, data := .fields #[.ref l1, .int 0 0] }, g, d, tk, os⟩) c2 l2 ys := hl2.at fun o e => Heap.get?_push_of_some _ e
    wp_walk using iter_any hL1, iter_any hL2
    exact ⟨_, rfl, h⟩
theorem call_zip {c1 c2 : String} {l1 l2 : Addr} {xs ys : Array Value} {Q : Value → Shared → Prop} (hl1 : SeqOf s.heap c1 l1 xs) (hl2 : SeqOf s.heap c2 l2 ys)
    (h : ∀ h', Zs h' (s.heap.objs.size + 4) (s.heap.objs.size + 2) (s.heap.objs.size + 3) s.heap.objs.size (s.heap.objs.size + 1) c1 c2 l1 l2 xs ys 0 → h'.objs.size = s.heap.objs.size + 5 →
      (∀ c o, s.heap.get? c = some o → h'.get? c = some o) → Q (.ref (s.heap.objs.size + 4)) { s with heap := h' }) : wpAny (model prog w) A (call (.type "zip") [.ref l1, .ref l2]) Q E s := by
  refine callType_new F.called_zip (by decide) (F.typeCall_zip_2 _ _) (F.newCall_zip_2 _ _) (fun obj => F.args_object_init_3 obj _ _) F.entry_zip_new (meets_zip c1 c2 l1 l2 xs ys) ⟨hl1, hl2, ?_⟩
  have z1 : (zH1 s.heap c1 l1).objs.size = s.heap.objs.size + 1 := Heap.size_push ..
  have z2 : (zH2 s.heap c1 c2 l1 l2).objs.size = s.heap.objs.size + 2 := by rw [Heap.size_push, z1]
  have z3 : (zH3 s.heap c1 c2 l1 l2).objs.size = s.heap.objs.size + 3 := by rw [Heap.size_push, z2]
  have z4 : (zH4 s.heap c1 c2 l1 l2).objs.size = s.heap.objs.size + 4 := by rw [Heap.size_push, z3]
  have z5 : (zH5 s.heap c1 c2 l1 l2).objs.size = s.heap.objs.size + 5 := by rw [Heap.size_push, z4]
  have g5 : (zH5 s.heap c1 c2 l1 l2).get? (zH4 s.heap c1 c2 l1 l2).objs.size = some _ := Heap.get?_push_size _ rfl
  have g4 : (zH5 s.heap c1 c2 l1 l2).get? (zH3 s.heap c1 c2 l1 l2).objs.size = some _ := Heap.get?_push_of_some _ (Heap.get?_push_size _ rfl)
  have g3 : (zH5 s.heap c1 c2 l1 l2).get? (zH2 s.heap c1 c2 l1 l2).objs.size = some _ := Heap.get?_push_of_some _ (Heap.get?_push_of_some _ (Heap.get?_push_size _ rfl))
  have g2 : (zH5 s.heap c1 c2 l1 l2).get? (zH1 s.heap c1 l1).objs.size = some _ := Heap.get?_push_of_some _ (Heap.get?_push_of_some _ (Heap.get?_push_of_some _ (Heap.get?_push_size _ rfl)))
  have g1 : (zH5 s.heap c1 c2 l1 l2).get? s.heap.objs.size = some _ := Heap.get?_push_of_some _ (Heap.get?_push_of_some _ (Heap.get?_push_of_some _ (Heap.get?_push_of_some _ (Heap.get?_push_size _ rfl))))
  show _ ∧ _
  rw [z2, z3, z4] at g5
  rw [z1, z2] at g3
  rw [z3] at g4
  rw [z1] at g2
  rw [z4]
  have old : ∀ c o, s.heap.get? c = some o → (zH5 s.heap c1 c2 l1 l2).get? c = some o := fun c o x => Heap.get?_push_of_some _ (Heap.get?_push_of_some _ (Heap.get?_push_of_some _ (Heap.get?_push_of_some _ (Heap.get?_push_of_some _ x))))
  refine ⟨⟨_, g5, rfl⟩, h _ ⟨g5, g3, ⟨_, _, g4⟩, ?_, ?_⟩ z5 old⟩
  · rcases hl1 with ⟨rfl, x⟩ | ⟨rfl, x⟩
    · exact .inl ⟨rfl, ⟨_, g1, rfl, rfl⟩, x.at fun o e => old _ o e⟩
    · exact .inr ⟨rfl, ⟨_, g1, rfl, rfl⟩, x.at fun o e => old _ o e⟩
  · rcases hl2 with ⟨rfl, x⟩ | ⟨rfl, x⟩
    · exact .inl ⟨rfl, ⟨_, g2, rfl, rfl⟩, x.at fun o e => old _ o e⟩
    · exact .inr ⟨rfl, ⟨_, g2, rfl, rfl⟩, x.at fun o e => old _ o e⟩
end
end L2
end
section
set_option Elab.async false
set_option linter.all false
set_option maxRecDepth 100000
namespace L2
open PySem PySem.Spec PyProof.Rows
theorem Inv.turnedT {X : Cx} {pins : List (Addr × Obj)} {σ : St} {H : Hp} {s : Shared} {fp : List Addr} {h' : Heap} {T : Addr} {xs : List V} {us : List Value} {t' : Nat} (I : Inv X pins σ H s) (f : ∀ b ∈ fp, FpOk X pins H b)
    (k : ∀ c o, c ∉ fp → s.heap.get? c = some o → h'.get? c = some o) (hT : s.heap.objs.size ≤ T) (hz : xs.length ≤ sizeLine) (r : Vals xs us) (hp : IsTup h' T us.toArray) (hTf : T ∉ fp) :
    Inv X pins σ (upd H T (.tup xs)) { s with heap := h', toks := t' } := by
  have hn : H T = none := I.hok.fresh hT
  have nfp : ∀ a o, H a = some o → a ∉ fp := fun a o e hb => by have := (f a hb).1; rw [e] at this; cases this
  have hTn : ∀ b o, s.heap.get? b = some o → b ≠ T := fun b o e => Nat.ne_of_lt (Nat.lt_of_lt_of_le (Heap.lt_size e) hT)
  refine I.call' (s' := { s with heap := h', toks := t' }) (ch := fp) rfl ⟨fun b o q n _ hx => k b o hx q, fun b o q n _ hx => ⟨o.slots, k b o hx q⟩, fun b o q n _ => by rw [upd_ne (hTn b o q)]; exact n, fun b o q hx => ⟨o, k b o hx q⟩,
    fun b ys q => by rw [upd_ne (ne_of_none q hn)]; exact q, fun b o ys q => by rw [upd_ne (ne_of_none q hn)]; exact q, fun b ps q => ⟨#[], by rw [upd_ne (ne_of_none q hn), q]; simp⟩⟩ (fun a o e => ?_) I.bare (fun b hb => ?_)
  · by_cases ha : a = T
    · subst ha
      rw [upd_same] at e
      cases e
      exact ⟨hz, us, r, hp⟩
    · rw [upd_ne ha] at e
      refine (I.hok a o e).stay (fun b u hb q => k b u ?_ q) (fun b q => by rw [upd_ne (ne_of_none q hn)]; exact q) fun b ys q => by rw [upd_ne (ne_of_none q hn)]; exact q
      rcases hb with rfl | hb
      · exact nfp b o e
      · exact nfp b _ hb
  · obtain ⟨f0, f1, f2, f3, f4, f5⟩ := f b hb
    exact ⟨f3, f1, f4, f5⟩
theorem Inv.turnedN {X : Cx} {pins : List (Addr × Obj)} {σ : St} {H : Hp} {s : Shared} {fp : List Addr} {h' : Heap} {t' : Nat} (I : Inv X pins σ H s) (f : ∀ b ∈ fp, FpOk X pins H b)
    (k : ∀ c o, c ∉ fp → s.heap.get? c = some o → h'.get? c = some o) : Inv X pins σ H { s with heap := h', toks := t' } := by
  have nfp : ∀ a o, H a = some o → a ∉ fp := fun a o e hb => by have := (f a hb).1; rw [e] at this; cases this
  refine I.call' (s' := { s with heap := h', toks := t' }) (ch := fp) rfl ⟨fun b o q n _ hx => k b o hx q, fun b o q n _ hx => ⟨o.slots, k b o hx q⟩, fun b o q n _ => n, fun b o q hx => ⟨o, k b o hx q⟩, fun b ys q => q, fun b o ys q => q, fun b ps q => ⟨#[], by rw [q]; simp⟩⟩ (fun a o e => ?_) I.bare (fun b hb => ?_)
  · refine (I.hok a o e).stay (fun b u hb q => k b u ?_ q) (fun b q => q) fun b ys q => q
    rcases hb with rfl | hb
    · exact nfp b o e
    · exact nfp b _ hb
  · obtain ⟨f0, f1, f2, f3, f4, f5⟩ := f b hb
    exact ⟨f3, f1, f4, f5⟩
def SqC (H : Hp) (c : String) (a : Addr) (xs : List V) : Prop := (c = "list_iterator" ∧ H a = some (.lst xs)) ∨ (c = "tuple_iterator" ∧ H a = some (.tup xs))
theorem Inv.seqOf {X : Cx} {pins : List (Addr × Obj)} {σ : St} {H : Hp} {s : Shared} {c : String} {a : Addr} {xs : List V} (I : Inv X pins σ H s) (h : SqC H c a xs) : ∃ its : List Value, Vals xs its ∧ SeqOf s.heap c a its.toArray := by
  rcases h with ⟨rfl, h⟩ | ⟨rfl, h⟩
  · obtain ⟨its, r, p, _⟩ := I.list (SqL.of h)
    exact ⟨its, r, .inl ⟨rfl, p.isList⟩⟩
  · obtain ⟨its, r, p, _⟩ := I.tuple (SqT.of h)
    exact ⟨its, r, .inr ⟨rfl, p⟩⟩
def Itz (c1 c2 : String) (a b : Addr) (xs ys : List V) : It :=
  ⟨fun i H => SqC H c1 a xs ∧ SqC H c2 b ys ∧ i < xs.length ∧ i < ys.length, fun i H x H' => ∃ T u v, x = .ref T ∧ H T = none ∧ H' = upd H T (.tup [u, v]) ∧ xs[i]? = some u ∧ ys[i]? = some v, fun i H => SqC H c1 a xs ∧ SqC H c2 b ys ∧ (xs.length ≤ i ∨ ys.length ≤ i)⟩
structure Zt (h : Heap) (z TI TO i1 i2 : Addr) (c1 c2 : String) (l1 l2 : Addr) (k : Nat) : Prop where
  zip : IsZip h z TI TO .none
  ti : IsPair h TI (.ref i1) (.ref i2)
  to : ∃ a b, IsPair h TO a b
  s1 : (c1 = "list_iterator" ∧ h.IsListIter i1 l1 k) ∨ (c1 = "tuple_iterator" ∧ h.IsTupleIter i1 l1 k)
  s2 : (c2 = "list_iterator" ∧ h.IsListIter i2 l2 k) ∨ (c2 = "tuple_iterator" ∧ h.IsTupleIter i2 l2 k)
theorem src_of {h : Heap} {c : String} {it l : Addr} {xs : Array Value} {k : Nat} (a : (c = "list_iterator" ∧ h.IsListIter it l k) ∨ (c = "tuple_iterator" ∧ h.IsTupleIter it l k)) (b : SeqOf h c l xs) : Src h c it l xs k := by
  rcases a with ⟨rfl, a⟩ | ⟨rfl, a⟩ <;> rcases b with ⟨e, b⟩ | ⟨e, b⟩
  · exact .inl ⟨rfl, a, b⟩
  · exact absurd e (by decide)
  · exact absurd e (by decide)
  · exact .inr ⟨rfl, a, b⟩
theorem of_src {h : Heap} {c : String} {it l : Addr} {xs : Array Value} {k : Nat} (a : Src h c it l xs k) : (c = "list_iterator" ∧ h.IsListIter it l k) ∨ (c = "tuple_iterator" ∧ h.IsTupleIter it l k) := by
  rcases a with ⟨e, a, _⟩ | ⟨e, a, _⟩
  · exact .inl ⟨e, a⟩
  · exact .inr ⟨e, a⟩
theorem it_at {h h' : Heap} {c : String} {it l : Addr} {k : Nat} (a : (c = "list_iterator" ∧ h.IsListIter it l k) ∨ (c = "tuple_iterator" ∧ h.IsTupleIter it l k)) (q : ∀ o, h.get? it = some o → h'.get? it = some o) : (c = "list_iterator" ∧ h'.IsListIter it l k) ∨ (c = "tuple_iterator" ∧ h'.IsTupleIter it l k) := by
  rcases a with ⟨e, o, a, r⟩ | ⟨e, o, a, r⟩
  · exact .inl ⟨e, o, q o a, r⟩
  · exact .inr ⟨e, o, q o a, r⟩
theorem it_obj {h : Heap} {c : String} {it l : Addr} {k : Nat} (a : (c = "list_iterator" ∧ h.IsListIter it l k) ∨ (c = "tuple_iterator" ∧ h.IsTupleIter it l k)) : ∃ o, h.get? it = some o ∧ ∀ v, o.data ≠ .cell v := by
  rcases a with ⟨_, o, e, _, d⟩ | ⟨_, o, e, _, d⟩ <;> exact ⟨o, e, fun v z => by rw [d] at z; cases z⟩
theorem turn_zip {P : Program} {w : World} {K : PySem.W.Frag} {es : List Expr} {tk : _} {tp : Pos} (z TI TO i1 i2 l1 l2 : Addr) (c1 c2 : String) (xs ys : List V) (D : ZipApart z TI TO i1 i2 l1 l2) :
    Turn P w K (.Tuple es tk tp) (Itz c1 c2 l1 l2 xs ys) [z, TI, TO, i1, i2] z (fun i h => Zt h z TI TO i1 i2 c1 c2 l1 l2 i) where
  mem := by simp
  obj := fun i h st b hb => by
    obtain ⟨hz, hti, ⟨a, c, hto⟩, h1, h2⟩ := st
    simp only [List.mem_cons, List.not_mem_nil, or_false] at hb
    rcases hb with rfl | rfl | rfl | rfl | rfl
    · exact ⟨_, hz, fun v q => by cases (show Data.fields _ = Data.cell v from q)⟩
    · exact ⟨_, hti, fun v q => by cases (show Data.seq _ _ = Data.cell v from q)⟩
    · exact ⟨_, hto, fun v q => by cases (show Data.seq _ _ = Data.cell v from q)⟩
    · exact it_obj h1
    · exact it_obj h2
  keep := fun i h h' st k => by
    obtain ⟨hz, hti, ⟨a, c, hto⟩, h1, h2⟩ := st
    exact ⟨k z (by simp) _ hz, k TI (by simp) _ hti, ⟨a, c, k TO (by simp) _ hto⟩, it_at h1 fun o e => k i1 (by simp) o e, it_at h2 fun o e => k i2 (by simp) o e⟩
  item := by
    intro X hP hw hK hc i pins s σ H E I hf st hg
    subst hP hw hK
    obtain ⟨q1, q2, hi1, hi2⟩ := hg
    obtain ⟨its1, r1, e1⟩ := I.seqOf q1
    obtain ⟨its2, r2, e2⟩ := I.seqOf q2
    obtain ⟨x, hx⟩ := getlen hi1
    obtain ⟨y, hy⟩ := getlen hi2
    obtain ⟨u, hu, ru⟩ := r1.get hx
    obtain ⟨v, hv, rv⟩ := r2.get hy
    obtain ⟨hz, hti, hto, h1, h2⟩ := id st
    refine zs_item D ⟨hz, hti, hto, src_of h1 e1, src_of h2 e2⟩ (by simpa using hu) (by simpa using hv) fun h' z' ti' to' s1' s2' new szn k => ?_
    have kk : ∀ c o, c ∉ [z, TI, TO, i1, i2] → s.heap.get? c = some o → h'.get? c = some o := fun c o hc e => k c o (fun q => hc (by simp only [List.mem_cons, List.not_mem_nil, or_false] at q ⊢; rcases q with q | q | q | q <;> simp [q])) e
    have lt : ∀ b ∈ [z, TI, TO, i1, i2], b < s.heap.objs.size := fun b hb => by
      have st' : Zt s.heap z TI TO i1 i2 c1 c2 l1 l2 i := st
      simp only [List.mem_cons, List.not_mem_nil, or_false] at hb
      rcases hb with rfl | rfl | rfl | rfl | rfl
      · exact Heap.lt_size hz
      · exact Heap.lt_size hti
      · obtain ⟨_, _, q⟩ := hto; exact Heap.lt_size q
      · obtain ⟨o, q, _⟩ := it_obj h1; exact Heap.lt_size q
      · obtain ⟨o, q, _⟩ := it_obj h2; exact Heap.lt_size q
    refine ⟨_, rfl, wpAny_letOwnedTupleGo_zip z' fun h'' z'' sb => ?_⟩
    have nT : s.heap.objs.size ∉ [z, TI, TO, i1, i2] := fun hb => Nat.lt_irrefl _ (lt _ hb)
    have nTz : s.heap.objs.size ≠ z := fun q => nT (by simp [q])
    have J := I.turnedT (fp := [z, TI, TO, i1, i2]) (h' := h'') (T := s.heap.objs.size) (xs := [x, y]) (us := [u, v]) (t' := s.toks) hf (fun c o hc e => sb.extBut _ _ (fun q => hc (by simp [q])) (kk c o hc e)) (Nat.le_refl _) (by show 2 ≤ sizeLine; decide) (.cons ru (.cons rv .nil))
      ⟨_, sb.extBut _ _ nTz new, rfl, _, rfl⟩ nT
    refine ⟨.ref s.heap.objs.size, _, J, rfl, ⟨_, x, y, rfl, I.hok.fresh (Nat.le_refl _), rfl, hx, hy⟩, ⟨z'', sb.extBut _ _ D.TIz ti', ⟨_, _, sb.extBut _ _ D.TOz to'⟩, it_at (of_src s1') fun o e => sb.extBut _ _ D.i1z e, it_at (of_src s2') fun o e => sb.extBut _ _ D.i2z e⟩, fun b hb => ?_⟩
    rw [upd_ne (Nat.ne_of_lt (lt b hb))]
    exact (hf b hb).1
  done := by
    intro X hP hw hK hc i pins s σ H E I hf st hg
    subst hP hw hK
    obtain ⟨q1, q2, hend⟩ := hg
    obtain ⟨its1, r1, e1⟩ := I.seqOf q1
    obtain ⟨its2, r2, e2⟩ := I.seqOf q2
    obtain ⟨hz, hti, hto, h1, h2⟩ := id st
    have l1' := r1.length
    have l2' := r2.length
    refine zs_end (I.ok.hd hc) D ⟨hz, hti, hto, src_of h1 e1, src_of h2 e2⟩ (hend.imp (fun q => by simp; omega) fun q => by simp; omega) fun h' k => ?_
    exact ⟨rfl, I.turnedN (fp := [z, TI, TO, i1, i2]) hf fun c o hc e => k c o (fun q => hc (by simp only [List.mem_cons, List.not_mem_nil, or_false] at q ⊢; rcases q with q | q | q | q <;> simp [q])) e⟩
  self := fun A i s Q E st h => wpAny_pyIter_zip st.zip h
end L2
end
section
set_option Elab.async false
set_option linter.all false
set_option maxRecDepth 100000
namespace L2
open PySem PySem.Spec PyProof.Rows
theorem bt_zip : bootBuiltins "zip" = some (.type "zip") := by decide +kernel
section
variable {X : Cx}
def iZip (ta : TA) : TI := fun σ H R => ta σ H fun vs H1 => ∃ a b c1 c2 xs ys, vs = [.ref a, .ref b] ∧ SqC H1 c1 a xs ∧ SqC H1 c2 b ys ∧ R (Itz c1 c2 a b xs ys) H1
theorem pi_zip {es : List Expr} {kk : _} {tp : Pos} {a b : Expr} {ta : TA} {p pos : Pos} (hg : Gl X "zip") (hm : X.mg "zip" = none) (ha : PA X [a, b] ta) (hs : starEach [a, b] X.env = [(false, eval a X.env), (false, eval b X.env)] := by rfl) (hs2 : starEach [b] X.env = [(false, eval b X.env)] := by rfl) :
    PI X (.Tuple es kk tp) (.Call (.Name "zip" p) [a, b] [] pos) (iZip ta) := by
  intro pins s σ H R I h
  refine Call_ (ld_blt I hg hm bt_zip (PyProof.Rows.callWith_type1 (thn (ha pos pins s σ H _ I h) fun us s1 ⟨vs, H1, I1, r1, q1⟩ => ?_) (by rw [hs, hs2]) (by rw [hs2]; rfl)))
  obtain ⟨l1, l2, c1, c2, xs, ys, e, k1, k2, q⟩ := q1
  subst e
  obtain ⟨u1, u2, rfl, e1, e2⟩ := r1.two
  cases e1
  cases e2
  obtain ⟨its1, v1, o1⟩ := I1.seqOf k1
  obtain ⟨its2, v2, o2⟩ := I1.seqOf k2
  have lt1 : (l1 : Nat) < (s1.heap.objs.size : Nat) := o1.lt
  have lt2 : (l2 : Nat) < (s1.heap.objs.size : Nat) := o2.lt
  refine call_zip o1 o2 fun h' Z sz old => wpAny_pyIter_zip Z.zip ?_
  have D : ZipApart (s1.heap.objs.size + 4) (s1.heap.objs.size + 2) (s1.heap.objs.size + 3) s1.heap.objs.size (s1.heap.objs.size + 1) l1 l2 := PySem.W.ktu_apart _ _ _ o1.lt o2.lt
  have J : Inv X pins σ H1 { s1 with heap := h' } := I1.kept (t' := s1.toks) old
  refine ⟨s1.heap.objs.size + 4, _, _, _, H1, rfl, J, turn_zip _ _ _ _ _ l1 l2 c1 c2 xs ys D, ⟨Z.zip, Z.ti, Z.to, of_src Z.s1, of_src Z.s2⟩, fun b hb => ?_, q⟩
  have hb' : s1.heap.objs.size ≤ b := by
    simp only [List.mem_cons, List.not_mem_nil, or_false] at hb
    rcases hb with rfl | rfl | rfl | rfl | rfl <;> omega
  exact I1.fpOk hb' (I1.hok.fresh hb')
theorem a_iZip {ta : TA} {σ : St} {H : Hp} {R : It → Hp → Prop} : iZip ta σ H R = ta σ H fun vs H1 => ∃ a b c1 c2 xs ys, vs = [.ref a, .ref b] ∧ SqC H1 c1 a xs ∧ SqC H1 c2 b ys ∧ R (Itz c1 c2 a b xs ys) H1 := rfl
end
theorem cl_zip {c1 c2 : String} {a b : Addr} {xs ys : List V} {g : TG} {tc : TT} {tb : TB} {D : St → Hp → Prop} {σ : St} {H : Hp} (Pv : Nat → St → Hp → Prop) (h0 : Pv 0 σ H) (hl : ∀ i σ H, Pv i σ H → SqC H c1 a xs ∧ SqC H c2 b ys)
    (hs : ∀ (i : Nat) u v (T : Addr) σ H H', xs[i]? = some u → ys[i]? = some v → Pv i σ H → H T = none → Same H H' → H' T = some (.tup [u, v]) → g (.ref T) σ H' fun σ2 H2 => tc σ2 H2 fun b H3 => if b = true then tb σ2 H3 (Pv (i + 1)) else Pv (i + 1) σ2 H3)
    (hd : ∀ σ H, Pv (min xs.length ys.length) σ H → D σ H) : tCL (Itz c1 c2 a b xs ys) g tc tb D σ H := by
  refine ⟨fun i m σ H => m = min xs.length ys.length - i ∧ i ≤ min xs.length ys.length ∧ Pv i σ H, ⟨min xs.length ys.length, by simp, Nat.zero_le _, h0⟩, ?_⟩
  rintro i m σ H ⟨rfl, hi, p⟩
  obtain ⟨q1, q2⟩ := hl i σ H p
  by_cases hlt : i < min xs.length ys.length
  · refine .inr ⟨⟨q1, q2, by omega, by omega⟩, Pv (i + 1), fun σ' H' p' => ⟨min xs.length ys.length - (i + 1), by omega, rfl, hlt, p'⟩, fun x H' y => ?_⟩
    obtain ⟨T, u, v, rfl, n, rfl, e1, e2⟩ := y
    exact hs i u v T σ H _ e1 e2 p n (same_upd n) upd_same
  · have e : i = min xs.length ys.length := by omega
    subst e
    exact .inl ⟨⟨q1, q2, by omega⟩, hd σ H p⟩
section
variable {X : Cx}
def tSortR (ta : TA) (tk : TA) : TE := fun σ H Q => ta σ H fun vs H1 => tk σ H1 fun zs H2 => ∃ (p : Addr) (ns : List Int) (b : Bool), vs = [.ref p] ∧ zs = [.bl b] ∧ H2 p = some (.lst (ns.map V.int)) ∧ ns.length < 64 ∧
  ∀ (l : Addr) (ms : List Int), H2 l = none → ms.Perm ns → Ordered b ms → Q (.ref l) (upd H2 l (.lst (ms.map V.int)))
theorem a_tSortR {ta tk : TA} {σ : St} {H : Hp} {Q : VK} : tSortR ta tk σ H Q = ta σ H fun vs H1 => tk σ H1 fun zs H2 => ∃ (p : Addr) (ns : List Int) (b : Bool), vs = [.ref p] ∧ zs = [.bl b] ∧ H2 p = some (.lst (ns.map V.int)) ∧ ns.length < 64 ∧
  ∀ (l : Addr) (ms : List Int), H2 l = none → ms.Perm ns → Ordered b ms → Q (.ref l) (upd H2 l (.lst (ms.map V.int))) := rfl
def rSlL0 : V → Option Int → Option Int → Hp → VK → Prop := fun x lo hi H Q => ∃ a xs, x = .ref a ∧ H a = some (.lst xs) ∧ ∀ p, H p = none → Q (.ref p) (upd H p (.lst (cutV xs lo hi)))
theorem a_tSl {r : V → Option Int → Option Int → Hp → VK → Prop} {te : TE} {tl th : TO} {σ : St} {H : Hp} {Q : VK} : tSl r te tl th σ H Q = te σ H fun x H1 => tl σ H1 fun l H2 => th σ H2 fun u H3 => r x l u H3 Q := rfl
theorem a_rSlL0 {x : V} {lo hi : Option Int} {H : Hp} {Q : VK} : rSlL0 x lo hi H Q = ∃ a xs, x = .ref a ∧ H a = some (.lst xs) ∧ ∀ p, H p = none → Q (.ref p) (upd H p (.lst (cutV xs lo hi))) := rfl
theorem a_tNoPart {σ : St} {H : Hp} {q : Option Int → Hp → Prop} : tNoPart σ H q = q none H := rfl
theorem a_tPart {t : TE} {σ : St} {H : Hp} {q : Option Int → Hp → Prop} : tPart t σ H q = t σ H fun x H1 => ∃ i, x = .int i ∧ q (some i) H1 := rfl
def tApp (to : TE) (t : TA) : TE := fun σ H Q => to σ H fun x H1 => ∃ l xs0, x = .ref l ∧ H1 l = some (.lst xs0) ∧ t σ H1 fun vs H2 => ∃ xs y, vs = [y] ∧ H2 l = some (.lst xs) ∧ xs.length < sizeLine ∧ Q .non (upd H2 l (.lst (xs ++ [y])))
theorem pe_append {o e : Expr} {to : TE} {t : TA} {apos cpos : Pos} (ho : PE X o to) (ha : PA X [e] t) (hbase : attributeBase o "append" X.env (eval o X.env) = eval o X.env := by rfl)
    (hfew : ((backTo cpos (starEach [e] X.env)).all (fun x => !x.1) && (backToKw cpos (keywordEach [] X.env)).all (fun x => x.1.isSome) && decide ([e].length + ([] : List Keyword).length + (if ([] : List Keyword).isEmpty then 0 else 1) < 30)) = true := by rfl)
    (hline : (apos.endLine == cpos.line) = true := by rfl) (hs : starEach [e] X.env = (false, eval e X.env) :: starEach [] X.env := by rfl) : PE X (.Call (.Attribute o "append" apos) [e] [] cpos) (tApp to t) := by
  intro pins s σ H Q I h
  refine wpAny_Call_method_late hbase hfew hline rfl (thn (ho pins s σ H _ I h) fun v s1 ⟨x, H1, I1, r1, q1⟩ => ?_)
  obtain ⟨l, xs0, rfl, hl, q1⟩ := q1
  have ty : tyV X.K "list" (.ref l) H1 := .inl ⟨rfl, _, SqL.of hl⟩
  obtain ⟨h1, h2⟩ := tyV_is I1 r1 ty
  refine ⟨"list", "list.append", PySem.F.plainAttrs_list, PySem.F.slot_list_append, PySem.F.type_list_append, h1, h2, ?_⟩
  have hA := ha cpos pins s1 σ H1 _ I1 q1
  rw [hs] at hA ⊢
  refine Calls.callWith_builtin (by rfl) (Calls.evalArgs_plain ?_)
  exact thn hA fun us s2 ⟨vs, H2, I2, r2, xs, y, e, k, z, q⟩ => mt_append pins s2 σ H2 (.ref l) vs v us Q I2 r1 r2 ⟨l, xs, y, rfl, e, k, z, q⟩
theorem a_tApp {to : TE} {t : TA} {σ : St} {H : Hp} {Q : VK} : tApp to t σ H Q = to σ H fun x H1 => ∃ l xs0, x = .ref l ∧ H1 l = some (.lst xs0) ∧ t σ H1 fun vs H2 => ∃ xs y, vs = [y] ∧ H2 l = some (.lst xs) ∧ xs.length < sizeLine ∧ Q .non (upd H2 l (.lst (xs ++ [y]))) := rfl
end
end L2
end
section
set_option Elab.async false
set_option linter.all false
set_option maxRecDepth 100000
namespace L2
open PySem PySem.Spec PyProof.Rows
section
variable {X : Cx}
def insV (xs : List V) (i : Nat) (y : V) : List V := xs.take i ++ y :: xs.drop i
def tIns (to : TE) (t : TA) : TE := fun σ H Q => to σ H fun x H1 => ∃ l xs0, x = .ref l ∧ H1 l = some (.lst xs0) ∧ t σ H1 fun vs H2 => ∃ xs y, ∃ i : Nat, vs = [.int (i : Int), y] ∧ H2 l = some (.lst xs) ∧ i ≤ xs.length ∧ xs.length < sizeLine ∧ Q .non (upd H2 l (.lst (insV xs i y)))
theorem a_tIns {to : TE} {t : TA} {σ : St} {H : Hp} {Q : VK} : tIns to t σ H Q = to σ H fun x H1 => ∃ l xs0, x = .ref l ∧ H1 l = some (.lst xs0) ∧ t σ H1 fun vs H2 => ∃ xs y, ∃ i : Nat, vs = [.int (i : Int), y] ∧ H2 l = some (.lst xs) ∧ i ≤ xs.length ∧ xs.length < sizeLine ∧ Q .non (upd H2 l (.lst (insV xs i y))) := rfl
theorem max_gen (hc : X.calm = true) {pins : List (Addr × Obj)} {σ : St} {H : Hp} {s : Shared} {p : Addr} {ns : List Int} {Q : VK} (I : Inv X pins σ H s) (hq : sq H p = some (ns.map V.int)) (hne : ns ≠ [])
    (q : ∀ m, m ∈ ns → (∀ x ∈ ns, x ≤ m) → Q (.int m) H) : wpAny (model X.prog X.w) X.A (call (.builtin "max") [.ref p]) (EP X pins σ Q) X.xe s := by
  have hp : 0 < ns.length := List.length_pos_iff.mpr hne
  refine call_max_walk (I.walk hc hq fun it its s2 St fp rv W st hfp hsz J => ?_)
  have hl := rv.length
  rw [List.length_map] at hl
  refine ⟨it, fp, [it], its.length, _, St, _, rfl, W, st, hfp, by omega, CmpOf.ints_gt (fun i => ns.getD i 0) fun i v hv => vals_int_get rv hv, fun v h' tk hv k => ?_⟩
  obtain ⟨a1, a2⟩ := argBest_gt (fun i => ns.getD i 0) (its.length - 1)
  obtain ⟨t, rfl⟩ := vals_int_get rv hv
  generalize argBest (fun i j => decide (ns.getD i 0 > ns.getD j 0)) (its.length - 1) = j at a1 a2 hv ⊢
  have hj : j < ns.length := by omega
  have e : ns.getD j 0 = ns[j] := by simp [List.getD_eq_getElem?_getD, hj]
  refine ⟨.int ns[j], H, J h' tk k, ⟨t, by rw [e]⟩, q _ (List.getElem_mem hj) fun x hx => ?_⟩
  obtain ⟨i, hi, rfl⟩ := List.mem_iff_getElem.mp hx
  have := a2 i (by omega)
  simp only [List.getD_eq_getElem?_getD, List.getElem?_eq_getElem hi, List.getElem?_eq_getElem hj, Option.getD_some] at this
  exact this
theorem max0 (hc : X.calm = true) : CallR X (.builtin "max") (fun xs H Q => ∃ (p : Addr) (ns : List Int), xs = [.ref p] ∧ sq H p = some (ns.map V.int) ∧ ns ≠ [] ∧ ∀ m, m ∈ ns → (∀ x ∈ ns, x ≤ m) → Q (.int m) H) := by
  intro pins s σ H xs us Q I r h
  obtain ⟨p, ns, rfl, hq, hne, q⟩ := h
  obtain ⟨u, rfl, ru⟩ := r.one
  cases ru
  exact max_gen hc I hq hne q
def rCatA : R2 := fun x y H Q => ∃ a b xs ys, x = .ref a ∧ y = .ref b ∧ H a = some (.tup xs) ∧ H b = some (.tup ys) ∧ xs.length + ys.length ≤ sizeLine ∧ ∀ (p : Addr) (H' : Hp), Same H H' → H' p = some (.tup (xs ++ ys)) → Q (.ref p) H'
theorem catA0 : OpR X (binaryOp .Add) rCatA := by
  intro pins s σ H x y v u Q I rx ry h
  obtain ⟨a, b, xs, ys, rfl, rfl, ha, hb, hz, q⟩ := h
  by_cases hx : xs = []
  · cases rx
    cases ry
    obtain ⟨its, r1, p1, _⟩ := I.tuple (SqT.of ha)
    obtain ⟨its2, r2, p2, _⟩ := I.tuple (SqT.of hb)
    have e1 : its = [] := r1.nil_iff.mpr hx
    obtain ⟨⟨c1, d1, da1, sl1⟩, o1, k1, n1, g1⟩ := id p1
    obtain ⟨⟨c2, d2, da2, sl2⟩, o2, k2, n2, g2⟩ := id p2
    simp only at k1 g1 k2 g2
    subst k1 g1 k2 g2
    refine concat_meets ⟨_, o1, rfl⟩ ⟨_, o2, rfl⟩ noFill_tuple_add seq_tuple_add F.slot_tuple_add F.entry_tuple_add (F.args_tuple_add_2 _ _) (tuple_addW0 a b its.toArray its2.toArray n1 n2 d1 d2 sl1 sl2 (by simp [e1])) ⟨o1, o2, ?_⟩
    subst hx
    exact ⟨.ref b, H, I, rfl, q b H (Same.refl H) hb⟩
  · refine op_catT pins s σ H (.ref a) (.ref b) v u Q I rx ry ⟨a, b, xs, ys, rfl, rfl, SqT.of ha, SqT.of hb, hx, hz, fun e => ?_, fun _ p np => q p _ (same_upd np) upd_same⟩
    subst e
    exact q a H (Same.refl H) (by rw [List.append_nil]; exact ha)
theorem a_rCatA {x y : V} {H : Hp} {Q : VK} : rCatA x y H Q = ∃ a b xs ys, x = .ref a ∧ y = .ref b ∧ H a = some (.tup xs) ∧ H b = some (.tup ys) ∧ xs.length + ys.length ≤ sizeLine ∧ ∀ (p : Addr) (H' : Hp), Same H H' → H' p = some (.tup (xs ++ ys)) → Q (.ref p) H' := rfl
def rCatL : R2 := fun x y H Q => ∃ l b xs zs, x = .ref l ∧ y = .ref b ∧ H l = some (.lst xs) ∧ H b = some (.lst zs) ∧ xs.length + zs.length ≤ sizeLine ∧ ∀ (p : Addr) (H' : Hp), H p = none → Same H H' → H' p = some (.lst (xs ++ zs)) → Q (.ref p) H'
theorem catL0 : OpR X (binaryOp .Add) rCatL := fun pins s σ H x y v u Q I rx ry h => by
  obtain ⟨l, b, xs, zs, e1, e2, h1, h2, hz, q⟩ := h
  exact op_cat pins s σ H x y v u Q I rx ry ⟨l, b, xs, zs, e1, e2, h1, h2, hz, fun p np => q p _ np (same_upd np) upd_same⟩
theorem a_rCatL {x y : V} {H : Hp} {Q : VK} : rCatL x y H Q = ∃ l b xs zs, x = .ref l ∧ y = .ref b ∧ H l = some (.lst xs) ∧ H b = some (.lst zs) ∧ xs.length + zs.length ≤ sizeLine ∧ ∀ (p : Addr) (H' : Hp), H p = none → Same H H' → H' p = some (.lst (xs ++ zs)) → Q (.ref p) H' := rfl
end
end L2
end
section
set_option Elab.async false
set_option linter.all false
set_option maxRecDepth 100000
namespace L2
open PySem PySem.Spec PyProof.Rows
section
variable {prog : Program} {w : World} {A : Around} {E : Value → Shared → Prop} {s : Shared}
theorem tup_whole {t sl : Addr} {items : Array Value} {vl vu : Value} {lo hi : Option Int} {Q : Value → Shared → Prop} (ht : IsTup s.heap t items) (hs : s.heap.IsSliceOf sl vl vu .none) (pl : IsPart vl lo) (pu : IsPart vu hi)
    (hw : HT.sIx items.size 0 lo = 0 ∧ HT.sIx items.size items.size hi = items.size) (h : Q (.ref t) s) : wpAny (model prog w) A (getItem (.ref t) (.ref sl)) Q E s := by
  obtain ⟨os, hos, hcs, hds⟩ := id hs
  have kind : s.TypeIs (.ref sl) "slice" := ⟨os, hos, hcs⟩
  unfold getItem
  try with_reducible refine wpAny_holding ?_
  first | refine wpAny_bind (wpAny_pure ?_) | skip
  refine wpAny_bind (wpAny_sequenceKey ht.typeIs (by decide) ?_)
  refine wpAny_bind (wpAny_callSpecial?_slot (name := Str.ofString "__getitem__") ht.typeIs slot_tuple_getitem (wpAny_call_entry slot_tuple_getitem ht.typeIs entry_tuple_getitem ?_ (args_tuple_getitem _ _)))
  show wpAny _ _ (Builtin.Tuple.tupleItemsOf (.ref t) >>= _) _ _ s
  refine wpAny_bind (tupleItemsOf_ ht (wpAny_bind (wpAny_typeOf kind ?_)))
  rw [if_pos (by decide)]
  refine wpAny_bind (HT.sliceApplied_gen hs pl pu ?_)
  rw [hw.1, hw.2]
  have yes : ((((0 : Nat) : Int) == 0 && (1 : Int) == 1 && (items.size - 0) == items.size) = true) := by simp
  show wpAny _ _ (if ((((0 : Nat) : Int) == 0 && (1 : Int) == 1 && (items.size - 0) == items.size) = true) then _ else _) _ _ s
  rw [if_pos yes]
  unfold Builtin.Tuple.tupleIsExact
  refine wpAny_bind (wpAny_bind (wpAny_typeOf ht.typeIs (wpAny_pure ?_)))
  rw [if_pos (by decide)]
  exact wpAny_bind (wpAny_rule (wpAny_pure ⟨_, rfl, wpAny_pure h⟩))
end
section
variable {X : Cx}
def rSlA : V → Option Int → Option Int → Hp → VK → Prop := fun x lo hi H Q => ∃ a xs, x = .ref a ∧ H a = some (.tup xs) ∧ ∀ (p : Addr) (H' : Hp), Same H H' → H' p = some (.tup (cutV xs lo hi)) → Q (.ref p) H'
theorem cut_whole {xs : List V} {lo hi : Option Int} (h : HT.sIx xs.length 0 lo = 0 ∧ HT.sIx xs.length xs.length hi = xs.length) : cutV xs lo hi = xs := by
  unfold cutV
  rw [h.1, h.2, List.drop_zero, Nat.sub_zero, List.take_length]
theorem slA0 : SlR X rSlA := by
  intro pins s σ H x v vl vu lo hi sl Q I rx hs pl pu h
  obtain ⟨a, xs, rfl, hx, q⟩ := h
  by_cases hw : HT.sIx xs.length 0 lo = 0 ∧ HT.sIx xs.length xs.length hi = xs.length
  · cases rx
    obtain ⟨its, r, ht, hz⟩ := I.tuple (SqT.of hx)
    have hlen : its.toArray.size = xs.length := by rw [List.size_toArray]; exact r.length.symm
    refine ⟨"tuple", _, slot_tuple_getitem.lookup, ht.typeIs, tup_whole ht hs pl pu (by rw [hlen]; exact hw) ?_⟩
    exact ⟨.ref a, H, I, rfl, q a H (Same.refl H) (by rw [cut_whole hw]; exact hx)⟩
  · exact sl_tup pins s σ H (.ref a) v vl vu lo hi sl Q I rx hs pl pu ⟨a, xs, rfl, SqT.of hx, hw, fun p np => q p _ (same_upd np) upd_same⟩
theorem a_rSlA {x : V} {lo hi : Option Int} {H : Hp} {Q : VK} : rSlA x lo hi H Q = ∃ a xs, x = .ref a ∧ H a = some (.tup xs) ∧ ∀ (p : Addr) (H' : Hp), Same H H' → H' p = some (.tup (cutV xs lo hi)) → Q (.ref p) H' := rfl
def tRev (te : TE) : TE := fun σ H Q => te σ H fun x H1 => ∃ a xs, x = .ref a ∧ H1 a = some (.tup xs) ∧ ∀ (p : Addr) (H' : Hp), H1 p = none → Same H1 H' → H' p = some (.tup xs.reverse) → Q (.ref p) H'
theorem a_tRev {te : TE} {σ : St} {H : Hp} {Q : VK} : tRev te σ H Q = te σ H fun x H1 => ∃ a xs, x = .ref a ∧ H1 a = some (.tup xs) ∧ ∀ (p : Addr) (H' : Hp), H1 p = none → Same H1 H' → H' p = some (.tup xs.reverse) → Q (.ref p) H' := rfl
end
end L2
end
section
set_option Elab.async false
set_option linter.all false
set_option maxRecDepth 100000
namespace L2
open PySem PySem.Spec PyProof.Rows
theorem range_drop {n i : Nat} (h : i < n) : (List.range n).drop i = i :: (List.range n).drop (i + 1) := by simp [List.drop_eq_getElem_cons, h]
theorem ints_all : ∀ (ns ms : List Int), ((List.range (min ns.length ms.length)).all (fun j => decide (ns.getD j 0 = ms.getD j 0)) && ns.length == ms.length) = decide (ns = ms) := fun ns ms => by
  rw [Bool.eq_iff_iff, Bool.and_eq_true, List.all_eq_true, decide_eq_true_eq, beq_iff_eq]
  constructor
  · rintro ⟨h1, h2⟩
    apply List.ext_getElem h2
    intro i q1 q2
    have := h1 i (List.mem_range.mpr (by omega))
    simpa [List.getD_eq_getElem?_getD, q1, q2] using this
  · rintro rfl
    exact ⟨fun j _ => by simp, rfl⟩
section
variable {X : Cx}
theorem tup_eqs {pins : List (Addr × Obj)} {σ : St} {H : Hp} {s : Shared} {a b : Addr} {ns ms : List Int} (I : Inv X pins σ H s) (ha : H a = some (.tup (ns.map V.int))) (hb : H b = some (.tup (ms.map V.int))) :
    ∃ its its2 : List Value, IsTup s.heap a its.toArray ∧ IsTup s.heap b its2.toArray ∧ its.length = ns.length ∧ its2.length = ms.length ∧ ∀ (A : Around) (j : Nat) (h1 : j < its.toArray.size) (h2 : j < its2.toArray.size), SeqAt.EqAt A s its.toArray[j] its2.toArray[j] (decide (ns.getD j 0 = ms.getD j 0)) := by
  obtain ⟨its, r1, p1, _⟩ := I.tuple (SqT.of ha)
  obtain ⟨its2, r2, p2, _⟩ := I.tuple (SqT.of hb)
  have l1 := r1.length
  have l2 := r2.length
  rw [List.length_map] at l1 l2
  refine ⟨its, its2, p1, p2, l1.symm, l2.symm, fun A j h1 h2 => ?_⟩
  have h1' : j < its.length := by simpa using h1
  have h2' : j < its2.length := by simpa using h2
  obtain ⟨t, e1⟩ := vals_int_get r1 (i := j) (v := its[j]) (by simp [h1'])
  obtain ⟨u, e2⟩ := vals_int_get r2 (i := j) (v := its2[j]) (by simp [h2'])
  have key : SeqAt.EqAt A s its[j] its2[j] (eqV (.int (ns.getD j 0)) (.int (ms.getD j 0))) := eqAt_V ⟨t, e1⟩ ⟨u, e2⟩ rfl rfl
  have e : eqV (.int (ns.getD j 0)) (.int (ms.getD j 0)) = decide (ns.getD j 0 = ms.getD j 0) := by
    show (ns.getD j 0 == ms.getD j 0) = _
    rfl
  rw [e] at key
  simpa using key
def rEqT (neg : Bool) : R2 := fun x y H Q => ∃ (a b : Addr) (ns ms : List Int), x = .ref a ∧ y = .ref b ∧ H a = some (.tup (ns.map V.int)) ∧ H b = some (.tup (ms.map V.int)) ∧ Q (.bl (if neg then !decide (ns = ms) else decide (ns = ms))) H
theorem a_rEqT {neg : Bool} {x y : V} {H : Hp} {Q : VK} : rEqT neg x y H Q = ∃ (a b : Addr) (ns ms : List Int), x = .ref a ∧ y = .ref b ∧ H a = some (.tup (ns.map V.int)) ∧ H b = some (.tup (ms.map V.int)) ∧ Q (.bl (if neg then !decide (ns = ms) else decide (ns = ms))) H := rfl
end
end L2
end
section
set_option Elab.async false
set_option linter.all false
set_option maxRecDepth 100000
namespace L2
open PySem PySem.Spec PyProof.Rows
theorem Box.ne {H : Hp} {p c : Addr} (bx : Box H p) (n : H c = none) : p ≠ c := by
  rintro rfl
  obtain ⟨_, _, _, e⟩ := bx
  rw [n] at e
  cases e
theorem Box.upd {H : Hp} {p c : Addr} {o : HO} (bx : Box H p) (n : p ≠ c) : Box (L2.upd H c o) p := by
  obtain ⟨g, m, z, e⟩ := bx
  exact ⟨g, m, z, by rw [upd_ne n]; exact e⟩
theorem Box.same {H H' : Hp} {p : Addr} (bx : Box H p) (s : Same H H') : Box H' p := by
  obtain ⟨g, m, z, e⟩ := bx
  exact ⟨g, m, z, s _ _ e⟩
end L2
end
section
set_option Elab.async false
set_option linter.all false
set_option maxRecDepth 100000
namespace L2
open PySem PySem.Spec PyProof.Rows
section
variable {X : Cx}
def plainE : Expr → Bool
  | .Starred _ _ => false
  | _ => true
theorem star_cons {e : Expr} {es : List Expr} {env : Env} (h : plainE e = true) : starEach (e :: es) env = (false, eval e env) :: starEach es env := by
  cases e <;> first | rfl | cases h
theorem pa_cns {e : Expr} {es : List Expr} {te : TE} {t : TA} (ha : PE X e te) (hr : PA X es t) (hp : plainE e = true := by rfl) : PA X (e :: es) (tCons te t) := pa_cons ha hr (star_cons hp)
def tDict : TE := fun _ H Q => ∀ (p : Addr) (H' : Hp), H p = none → Same H H' → H' p = some (.dK []) → Q (.ref p) H'
theorem pe_dict0 {pos : Pos} : PE X (.Dict [] [] pos) tDict := by
  intro pins s σ H Q I h
  have lt : mainGlobals < s.heap.objs.size := (I.mod.glob.keeps I.bk).lt
  have big : sysModules < s.heap.objs.size := Nat.lt_trans (by decide) lt
  have hf := I.hok.fresh (Nat.le_refl s.heap.objs.size)
  have ok : ObjOk X.prog X.w (upd H s.heap.objs.size (.dK [])) (s.heap.push { cls := .type "dict", data := .dict #[] }) s.heap.objs.size (.dK []) := ⟨Nat.zero_le _, beq_eq_false_iff_ne.mpr (Ne.symm (Nat.ne_of_lt big)), [], .nil, Heap.DictOf.new s.heap⟩
  exact wpAny_Dict_empty ⟨.ref s.heap.objs.size, _, I.laid (t' := s.toks) (fun _ _ q => Heap.get?_push_of_some _ q) (Nat.le_refl _) ok, rfl, h _ _ hf (same_upd hf) upd_same⟩
theorem a_tChain {r r' : R2} {ta tb tc : TE} {σ : St} {H : Hp} {Q : VK} : tChain r r' ta tb tc σ H Q = ta σ H fun x H1 => tb σ H1 fun y H2 => r x y H2 fun z H3 => ∃ k, z = .bl k ∧ (if k = true then tc σ H3 fun w' H4 => r' y w' H4 Q else Q (.bl false) H3) := rfl
theorem a_tDict {σ : St} {H : Hp} {Q : VK} : tDict σ H Q = ∀ (p : Addr) (H' : Hp), H p = none → Same H H' → H' p = some (.dK []) → Q (.ref p) H' := rfl
def tLstA (t : TA) : TE := fun σ H Q => t σ H fun xs H1 => xs.length ≤ sizeLine ∧ ∀ (p : Addr) (H2 : Hp), H1 p = none → Same H1 H2 → H2 p = some (.lst xs) → Q (.ref p) H2
theorem pe_lstA {es : List Expr} {t : TA} {pos : Pos} (h : PA X es t) : PE X (.List es pos) (tLstA t) := by
  intro pins s σ H Q I hq
  refine wpAny_List_spliced (thn (h pos pins s σ H _ I hq) fun us s1 ⟨xs, H1, I1, r, z, q⟩ => ⟨r.length ▸ z, ?_⟩)
  have nf := I1.hok.fresh (Nat.le_refl s1.heap.objs.size)
  exact ⟨.ref s1.heap.objs.size, upd H1 s1.heap.objs.size (.lst xs), I1.laid (t' := s1.toks) (fun b u e => Heap.get?_push_of_some _ e) (Nat.le_refl _) ⟨z, us, 0, r, Heap.get?_push_size _ rfl⟩, rfl, q _ _ nf (same_upd nf) upd_same⟩
theorem a_tLstA {t : TA} {σ : St} {H : Hp} {Q : VK} : tLstA t σ H Q = t σ H fun xs H1 => xs.length ≤ sizeLine ∧ ∀ (p : Addr) (H2 : Hp), H1 p = none → Same H1 H2 → H2 p = some (.lst xs) → Q (.ref p) H2 := rfl
theorem listA0 : CallR X (.type "list") (fun xs H Q => ∃ p ys, xs = [.ref p] ∧ sq H p = some ys ∧ ∀ (l : Addr) (H2 : Hp), H l = none → Same H H2 → H2 l = some (.lst ys) → Q (.ref l) H2) := by
  intro pins s σ H xs us Q I r h
  obtain ⟨p, ys, e, hq, q⟩ := h
  exact list0 pins s σ H xs us Q I r ⟨p, ys, e, hq, fun l n => q l _ n (same_upd n) upd_same⟩
end
end L2
end
section
set_option Elab.async false
set_option linter.all false
set_option maxRecDepth 100000
namespace L2
open PySem PySem.Spec PyProof.Rows
def Later (f : St → Hp → Prop) : St → Hp → Prop := f
theorem a_later {f : St → Hp → Prop} {σ : St} {H : Hp} : Later f σ H = f σ H := rfl
def tSeqL (t u : TS) : TS := tSeq t u
theorem pss_consL {X : Cx} {st : Stmt} {sts : List Stmt} {t u : TS} (h : PS X st t) (hs : PSs X sts u) : PSs X (st :: sts) (tSeqL t u) := pss_cons h hs
theorem a_tSeqL {t u : TS} {D : Ends} {σ : St} {H : Hp} : tSeqL t u D σ H = t { D with nx := Later (u D) } σ H := rfl
end L2
end
section
set_option Elab.async false
set_option linter.all false
set_option maxRecDepth 100000
namespace L2
open PySem PySem.Spec PyProof.Rows
structure QE (X : Cx) (e : Expr) (t : TE) : Prop where
  get : PE X e t
structure QA (X : Cx) (es : List Expr) (t : TA) : Prop where
  get : PA X es t
structure QS (X : Cx) (st : Stmt) (t : TS) : Prop where
  get : PS X st t
structure QSs (X : Cx) (sts : List Stmt) (t : TS) : Prop where
  get : PSs X sts t
section
variable {X : Cx}
theorem qa_nil : QA X [] tNil := ⟨pa_nil⟩
theorem qa_cns {e : Expr} {es : List Expr} {te : TE} {t : TA} (ha : QE X e te) (hr : QA X es t) (hp : plainE e = true := by rfl) : QA X (e :: es) (tCons te t) := ⟨pa_cns ha.get hr.get hp⟩
theorem qe_of {e : Expr} {te : TE} (h : PE X e te) : QE X e te := ⟨h⟩
theorem qe_lst {es : List Expr} {t : TA} {pos : Pos} (h : QA X es t) : QE X (.List es pos) (tLstA t) := ⟨pe_lstA h.get⟩
theorem pe_opQ {op : Operator} {r : R2} {a b : Expr} {ta tb : TE} {pos : Pos} (ho : OpR X (binaryOp op) r) (ha : PE X a ta) (hb : QE X b tb) : PE X (.BinOp a op b pos) (tOp r ta tb) := pe_op ho ha hb.get
end
end L2
end
section
set_option Elab.async false
set_option linter.all false
set_option maxRecDepth 100000
namespace L2
open PySem PySem.Spec PyProof.Rows
section
variable {X : Cx}
theorem lc_entryU {N : List Str} {fr : List (Option Nat)} {e tg iter : Expr} {ifs : List Expr} {gs : List Comprehension} {sc : Scope} {ip pos' : Pos} {cl : List (Str × Addr)} {wi : TI} {D : It → Addr → St → Hp → Prop} {pins : List (Addr × Obj)} {σ : St} {H : Hp} {s : Shared} {Q : VK} {i : Nat} {x : Str}
    (hN : X.N.Nodup) (hix : X.N[i]? = some x) (hx : Loc X.env.scope x) (hf : X.fn x = true ∨ X.env.scope.names.lookup x = some .local)
    (he : clausesOf e = ⟨tg, iter, ifs, 0⟩ :: gs) (hi : PI X tg iter wi) (S : CScope X N fr sc) (hcl : clos sc.names X.env.cells [] = some cl) (I : Inv X pins σ H s)
    (h : wi σ H fun J H1 => ∀ p, H1 p = none → D J p (frS fr σ) (upd H1 p (.lst [])))
    (loop : ∀ (it p : Addr) (fp : List Addr) (tn : Nat → Heap → Prop) (J : It) (s1 s2 : Shared) (H1 : Hp) (σ1 : St), Turn X.prog X.w X.K tg J fp it tn → Inv (cxc X N sc cl s1 H1 fp) [] σ1 H1 s2 → tn 0 s2.heap → (∀ b ∈ fp, FpOk (cxc X N sc cl s1 H1 fp) [] H1 b) → D J p σ1 H1 →
      codeAny (model X.prog X.w) X.A (.compStart e 0 (.ref it) (.ref p) (compEnvC sc cl s1.heap.objs.size X.env)) (fun r s' => r = .ok .next ∧ ∃ σ' H', Inv (cxc X N sc cl s1 H1 fp) [] σ' H' s' ∧ Q (.ref p) H') s2)
    (hs : ∀ x, foldedSetIterable iter X.env x = pure x) :
    wpAny (model X.prog X.w) X.A (comprehension e sc X.env ip (newList []) false (eval iter X.env) (some (assign (.Name x pos') X.env))) (fun _ s' => ∃ v H', Inv X pins (σ.set i (some v)) H' s' ∧ Q v H') X.xe s := by
  refine wpAny_comprehension_free (use := some (assign (.Name x pos') X.env)) he hs (closureFor_clos hcl) S.kind S.loc ?_
  refine thn (hi pins s σ H _ I h) fun v s1 h1 => thn h1 fun itv s2 ⟨it, fp, tn, J, H2, e2, I2, T, st2, f2, q⟩ => ?_
  subst e2
  refine wpAny_newObj_type ?_
  have hp : H2 s2.heap.objs.size = none := I2.hok.fresh (Nat.le_refl _)
  have I3 : Inv X pins σ (upd H2 s2.heap.objs.size (.lst [])) { s2 with heap := s2.heap.push { cls := .type "list", data := .seq ([] : List Value).toArray }, toks := s2.toks } := I2.lnew (its := []) (ys := []) .nil (Nat.zero_le _)
  have lt2 : ∀ b ∈ fp, b < s2.heap.objs.size := fun b hb => let ⟨o, e, _⟩ := T.obj 0 _ st2 b hb; Heap.lt_size e
  have f3 : ∀ b ∈ fp, FpOk X pins (upd H2 s2.heap.objs.size (.lst [])) b := fun b hb => ⟨by rw [upd_ne (Nat.ne_of_lt (lt2 b hb))]; exact (f2 b hb).1, (f2 b hb).2⟩
  have st3 : tn 0 (s2.heap.push { cls := .type "list", data := .seq ([] : List Value).toArray }) := T.keep _ _ _ st2 fun b _ o e => Heap.get?_push_of_some _ e
  refine wpAny_newFunctionEnv S.nocell (by intro y hy; simp at hy) (fun h₁ hns₁ hsb₁ => ?_) S.kind
  generalize hs3 : ({ s2 with heap := s2.heap.push { cls := .type "list", data := .seq ([] : List Value).toArray } } : Shared) = s3 at hns₁ hsb₁ ⊢
  have I3' : Inv X pins σ (upd H2 s2.heap.objs.size (.lst [])) s3 := by rw [← hs3]; exact I3
  have st3' : tn 0 s3.heap := by rw [← hs3]; exact st3
  have lt3 : ∀ b ∈ fp, b < s3.heap.objs.size := fun b hb => let ⟨o, e, _⟩ := T.obj 0 _ st3' b hb; Heap.lt_size e
  have hk : ∀ b u, s3.heap.get? b = some u → h₁.get? b = some u := fun b u e => hsb₁.extBut b u (Nat.ne_of_lt (Heap.lt_size e)) (Heap.get?_push_of_some _ e)
  have hns : h₁.Ns s3.heap.objs.size (fun _ => none) := by simpa using hns₁
  have B := I3'.block (N := N) (fr := fr) (sc := sc) (cl := cl) (ex := fp) (h1 := h₁) (tk := s3.toks + ([] : List (Str × Value)).length) S hcl (fun b hb => ⟨f3 b hb, lt3 b hb⟩) hns hk
  have stB : tn 0 h₁ := T.keep _ _ _ st3' fun b _ o e => hk b o e
  have fC : FpOk X pins (upd H2 s2.heap.objs.size (.lst [])) s3.heap.objs.size := I3'.fpOk (Nat.le_refl _) (I3'.hok.fresh (Nat.le_refl _))
  refine codeAny_mono (loop it s2.heap.objs.size fp tn J s3 _ (upd H2 s2.heap.objs.size (.lst [])) (frS fr σ) T B stB (fun b hb => ?_) (q _ hp)) fun r s' hr => ?_
  · obtain ⟨f0, f1, f2', f3', f4, f5⟩ := f3 b hb
    refine ⟨f0, Nat.ne_of_lt (lt3 b hb), fun z => ?_, .inl hb, fun x c e => f4 x c (clos_lookup hcl e), fun p hp' => absurd (show p ∈ ([] : List (Addr × Obj)) from hp') (by simp)⟩
    rcases List.mem_cons.mp (I3'.stkSub b z) with e | e
    · exact f1 e
    · exact f2' e
  · obtain ⟨rfl, σ', H', J', q'⟩ := hr
    have I5 : Inv X pins σ H' s' := I3'.unblock (h' := s'.heap) J' f3 ⟨rfl, fun _ _ => rfl⟩
    show wpAny _ X.A (assign (.Name x pos') X.env (.ref s2.heap.objs.size)) _ X.xe s'
    refine wpAny_assign_Name (store_ok2 (v := .ref s2.heap.objs.size) I5 hN hix hx rfl (fun s4 I6 ⟨a, sb, ha⟩ => ?_) hf)
    obtain ⟨m, hn, _⟩ := J'.loc
    have free : H' s3.heap.objs.size = none := J'.free
    obtain ⟨g0, g1, g2, g3, g4, g5⟩ := fC
    have aC : s3.heap.objs.size ≠ a := by
      rcases ha with rfl | ha
      · exact g1
      · exact fun z => g4 x a ha z.symm
    refine ⟨m, hn.sameBut sb aC, fun h' sb' => ⟨.ref s2.heap.objs.size, H', ?_, q'⟩⟩
    refine I6.turnedN (fp := [s3.heap.objs.size]) (fun b hb => ?_) fun c o hc e => sb'.extBut _ _ (fun z => hc (List.mem_singleton.mpr z)) e
    have eb : b = s3.heap.objs.size := by simpa using hb
    subst eb
    exact ⟨free, g1, g2, g3, g4, g5⟩
theorem ps_setLC {N : List Str} {fr : List (Option Nat)} {tg iter elt : Expr} {ifs : List Expr} {sc : Scope} {pos pos' cpos : Pos} {cl : List (Str × Addr)} {wi : TI} {g : TG} {tc : TT} {te : TE} {i : Nat} {x : Str} (hN : X.N.Nodup) (hix : X.N[i]? = some x) (hx : Loc X.env.scope x)
    (hc : X.calm = true) (hi : PI X tg iter wi) (S : CScope X N fr sc) (hcl : clos sc.names X.env.cells [] = some cl)
    (hb : ∀ s H ex, PG (cxc X N sc cl s H ex) tg g ∧ PIfs (cxc X N sc cl s H ex) ifs tc ∧ PE (cxc X N sc cl s H ex) elt te) (hsw : swapsWith (.ListComp elt [⟨tg, iter, ifs, 0⟩] sc cpos) (some (.Name x pos')) pos.line X.env = pure true := by rfl)
    (hs : ∀ x, foldedSetIterable iter X.env x = pure x := by intro _; rfl) (hf : X.fn x = true ∨ X.env.scope.names.lookup x = some .local := by first | exact .inl rfl | exact .inr rfl | assumption) :
    PS X (.Assign [.Name x pos'] (.ListComp elt [⟨tg, iter, ifs, 0⟩] sc cpos) pos) (tAsg (tLC fr wi g tc te) (gName i)) := by
  intro pins s σ H D I h
  rw [exec_Assign_Name_used _ _ _ _ hsw]
  refine wpAny_bind (wpAny_standAt (wpAny_bind ?_))
  show wpAny _ X.A (do let _ ← comprehension (.ListComp elt [⟨tg, iter, ifs, 0⟩] sc cpos) sc X.env _ (newList []) false (eval iter X.env) (some (assign (.Name x pos') X.env))) _ _ s
  refine wpAny_bind (thn (lc_entryU (Q := fun v H2 => D.nx (σ.set i (some v)) H2) (D := fun J p σ1 H1 => tCL J g tc (tEmit p te) (fun _ H2 => D.nx (σ.set i (some (.ref p))) H2) σ1 H1) hN hix hx hf rfl hi S hcl I h (fun it p fp tn J s1 s2 H1 σ1 T B st f d => ?_) hs) fun _ s' ⟨v, H', I', q'⟩ => wpAny_pure (wpAny_pure ⟨_, H', I', q'⟩))
  obtain ⟨hg, hifs, helt⟩ := hb s1 H1 fp
  have L := comp_loop (X := cxc X N sc cl s1 H1 fp) (e := .ListComp elt [⟨tg, iter, ifs, 0⟩] sc cpos) (d := 0) (acc := .ref p) (D := fun _ H2 => D.nx (σ.set i (some (.ref p))) H2) (s := s2) hc rfl (compTurn_list elt tg iter ifs sc cpos (.ref it) (.ref p) _) rfl rfl rfl T hg hifs (pb_emit helt) B st f d
  exact codeAny_compStart_list L (T.self X.A 0 s2 _ _ st L)
end
end L2
end
section
set_option Elab.async false
set_option linter.all false
set_option maxRecDepth 100000
namespace L2
open PySem PySem.Spec PyProof.Rows
theorem bt_enumerate : bootBuiltins "enumerate" = some (.type "enumerate") := by decide +kernel
def Itr1 (h : Heap) (c : String) (it l : Addr) (k : Nat) : Prop := (c = "list_iterator" ∧ h.IsListIter it l k) ∨ (c = "tuple_iterator" ∧ h.IsTupleIter it l k)
theorem draws_seq {prog : Program} {w : World} {A : Around} (hh : A.handled = none) (c : String) (it l : Addr) (ne : l ≠ it) (xs : Array Value) : Draws prog w A it [it, l] xs.size (fun i v => xs[i]? = some v) (fun i h => Src h c it l xs i) where
  live := fun _ _ st => let ⟨o, ho, _⟩ := st.itlt; ⟨o, ho⟩
  frame := fun _ _ _ st hk => st.at (fun o e => hk it (by simp) o e) fun o e => hk l (by simp) o e
  item := fun i s Q E hi st hQ => nx_item st ne (x := xs[i]) (by simp [hi]) fun h' st' sb => hQ _ h' s.toks (by simp [hi]) st' sb
  done := fun s Q E st hE => nx_end hh st (by simp) hE
theorem enum_newT (l : Addr) (items : Array Value) (n : Nat) (dct : Option Addr) (sl : Array (Option Value)) :
    Meets (Builtin.«enumerate.__new__» ⟨[.type "enumerate", .ref l], []⟩) (fun _ R s => s.heap.get? l = some { cls := .type "tuple", dict := dct, data := .seq items n, slots := sl } ∧ R (.ok (.ret (.ref (s.heap.push { cls := .type "tuple_iterator", data := .fields #[.ref l, .int 0 0] }).objs.size)))
        { s with heap := (s.heap.push { cls := .type "tuple_iterator", data := .fields #[.ref l, .int 0 0] }).push { cls := .type "enumerate", data := .fields #[.none, .bool false, .ref s.heap.objs.size, rawInt 0, .none, .none] } }) :=
  .of_wp fun prog w A R s h => by
    obtain ⟨hp, g, d, tk, os⟩ := s
    obtain ⟨hl, h⟩ := h
    have sub := sub_enumerate
    have isT : Heap.IsTuple (Shared.heap ⟨hp, g, d, tk, os⟩) l items := ⟨_, hl, rfl, n, rfl⟩
    wp_walk using AutoSeq1.wpAny_loadPart' hl
    refine wpAny_stack_any fun st => wpAny_pure ?_
    split
    · rename_i c _ _ _ _ _
      cases (c == Value.type "enumerate") <;> (wp_walk using AutoSeq1.wpAny_loadPart' hl, wpAny_pyIter_tuple isT; exact ⟨_, rfl, h⟩)
    · wp_walk using AutoSeq1.wpAny_loadPart' hl, wpAny_pyIter_tuple isT
      exact ⟨_, rfl, h⟩
section
variable {prog : Program} {w : World} {A : Around} {E : Value → Shared → Prop} {s : Shared}
theorem call_enum {c : String} {l : Addr} {xs : Array Value} {Q : Value → Shared → Prop} (x : SeqOf s.heap c l xs)
    (h : ∀ h', IsEnum h' (s.heap.objs.size + 1) s.heap.objs.size 0 .none → Itr1 h' c s.heap.objs.size l 0 → (∀ b o, s.heap.get? b = some o → h'.get? b = some o) → Q (.ref (s.heap.objs.size + 1)) { s with heap := h' }) : wpAny (model prog w) A (call (.type "enumerate") [.ref l]) Q E s := by
  rcases x with ⟨rfl, x⟩ | ⟨rfl, x⟩
  · exact call_enumerate_list x fun h' he hi _ k => h h' he (.inl ⟨rfl, hi⟩) k
  · obtain ⟨⟨c, dct, dt, sl⟩, hl, hc, n, hd⟩ := x
    cases (show c = .type "tuple" from hc)
    cases (show dt = .seq xs n from hd)
    refine callType_new F.called_enumerate (by decide) (F.typeCall_enumerate_1 _) (F.newCall_enumerate_1 _) (fun obj => F.args_object_init_2 obj _) F.entry_enumerate_new (enum_newT l xs n dct sl) ⟨hl, ?_⟩
    have size1 : (s.heap.push { cls := .type "tuple_iterator", data := .fields #[.ref l, .int 0 0] }).objs.size = s.heap.objs.size + 1 := Heap.size_push ..
    show _ ∧ _
    rw [size1]
    have made := Heap.get?_push_size (s.heap.push { cls := .type "tuple_iterator", data := .fields #[.ref l, .int 0 0] }) (o := { cls := .type "enumerate", data := .fields #[.none, .bool false, .ref s.heap.objs.size, rawInt 0, .none, .none] }) rfl
    rw [size1] at made
    exact ⟨⟨_, made, rfl⟩, h _ made (.inr ⟨rfl, _, Heap.get?_push_of_some _ (Heap.get?_push_size _ rfl), rfl, rfl⟩) fun b o z => Heap.get?_push_of_some _ (Heap.get?_push_of_some _ z)⟩
end
def Ite (c : String) (l : Addr) (xs : List V) : It := ⟨fun i H => SqC H c l xs ∧ i < xs.length, fun i H x H' => ∃ T v, x = .ref T ∧ H T = none ∧ H' = upd H T (.tup [.int (i : Int), v]) ∧ xs[i]? = some v, fun i H => SqC H c l xs ∧ i = xs.length⟩
theorem turn_enum {P : Program} {w : World} {K : PySem.W.Frag} {es : List Expr} {tk : _} {tp : Pos} (e it l : Addr) (c : String) (xs : List V) (hei : e ≠ it) (hle : l ≠ e) (hli : l ≠ it) :
    Turn P w K (.Tuple es tk tp) (Ite c l xs) [e, it] e (fun i h => (∃ old, IsEnum h e it (i : Int) old) ∧ Itr1 h c it l i) where
  mem := by simp
  obj := fun i h st b hb => by
    obtain ⟨⟨old, he⟩, hi⟩ := st
    simp only [List.mem_cons, List.not_mem_nil, or_false] at hb
    rcases hb with rfl | rfl
    · exact ⟨_, he, fun v q => by cases (show Data.fields _ = Data.cell v from q)⟩
    · exact it_obj hi
  keep := fun i h h' st k => by
    obtain ⟨⟨old, he⟩, hi⟩ := st
    exact ⟨⟨old, k e (by simp) _ he⟩, it_at hi fun o q => k it (by simp) o q⟩
  item := by
    intro X hP hw hK hc i pins s σ H E I hf st hg
    subst hP hw hK
    obtain ⟨q1, hi1⟩ := hg
    obtain ⟨its, r1, e1⟩ := I.seqOf q1
    obtain ⟨x, hx⟩ := getlen hi1
    obtain ⟨u, hu, ru⟩ := r1.get hx
    obtain ⟨⟨old, he⟩, hi⟩ := id st
    have hl := r1.length
    have hlt : i < its.toArray.size := by rw [List.size_toArray, ← hl]; exact hi1
    refine wpAny_pyNext_enum_itemD (draws_seq (A := X.A.in1) (I.ok.hd hc) c it l hli its.toArray) he (src_of hi e1) hlt hei (by simp; exact ⟨hei, hle.symm⟩) fun y h' tk' hy out st' new size k => ?_
    have yu : y = u := by
      have hu' : its.toArray[i]? = some u := by simpa using hu
      have hy' : its.toArray[i]? = some y := hy
      rw [hu'] at hy'
      exact (Option.some.inj hy').symm
    subst yu
    refine ⟨_, rfl, wpAny_letOwnedTupleGo_enum out fun h'' z'' sb => ?_⟩
    have lt : ∀ b ∈ [e, it], b < s.heap.objs.size := fun b hb => by
      simp only [List.mem_cons, List.not_mem_nil, or_false] at hb
      rcases hb with rfl | rfl
      · exact Heap.lt_size he
      · obtain ⟨o, q, _⟩ := it_obj hi; exact Heap.lt_size q
    have nT : s.heap.objs.size ∉ [e, it] := fun hb => Nat.lt_irrefl _ (lt _ hb)
    have nTe : s.heap.objs.size ≠ e := fun q => nT (by simp [q])
    have J := I.turnedT (fp := [e, it]) (h' := h'') (T := s.heap.objs.size) (xs := [.int (i : Int), x]) (us := [.int i tk', y]) (t' := tk' + 1) hf (fun b o hb q => sb.extBut _ _ (fun z => hb (by simp [z])) (k b o (fun z => hb (by simp [z])) (fun z => hb (by simp [z])) q)) (Nat.le_refl _) (by show 2 ≤ sizeLine; decide) (.cons ⟨tk', rfl⟩ (.cons ru .nil))
      ⟨_, sb.extBut _ _ nTe new, rfl, _, rfl⟩ nT
    refine ⟨.ref s.heap.objs.size, _, J, rfl, ⟨_, x, rfl, I.hok.fresh (Nat.le_refl _), rfl, hx⟩, ⟨⟨y, z''⟩, it_at (of_src st') fun o q => sb.extBut _ _ hei.symm q⟩, fun b hb => ?_⟩
    rw [upd_ne (Nat.ne_of_lt (lt b hb))]
    exact (hf b hb).1
  done := by
    intro X hP hw hK hc i pins s σ H E I hf st hg
    subst hP hw hK
    obtain ⟨q1, hend⟩ := hg
    obtain ⟨its, r1, e1⟩ := I.seqOf q1
    obtain ⟨⟨old, he⟩, hi⟩ := id st
    have hl := r1.length
    have si : Src s.heap c it l its.toArray its.toArray.size := by
      have := src_of hi e1
      rw [hend, hl] at this
      simpa using this
    refine wpAny_pyNext_enum_endD (draws_seq (A := X.A.in1) (I.ok.hd hc) c it l hli its.toArray) he si fun h' k => ?_
    exact ⟨rfl, I.turnedN (fp := [e, it]) hf fun b o hb q => k b o (fun z => hb (by simp [z])) q⟩
  self := fun A i s Q E st h => by
    obtain ⟨⟨old, he⟩, hi⟩ := st
    exact wpAny_pyIter_enum he h
section
variable {X : Cx}
def iEnum (ta : TA) : TI := fun σ H R => ta σ H fun vs H1 => ∃ l c xs, vs = [.ref l] ∧ SqC H1 c l xs ∧ R (Ite c l xs) H1
theorem pi_enum {es : List Expr} {kk : _} {tp : Pos} {a : Expr} {ta : TA} {p pos : Pos} (hg : Gl X "enumerate") (hm : X.mg "enumerate" = none) (ha : PA X [a] ta) (hs : starEach [a] X.env = [(false, eval a X.env)] := by rfl) : PI X (.Tuple es kk tp) (.Call (.Name "enumerate" p) [a] [] pos) (iEnum ta) := by
  intro pins s σ H R I h
  refine Call_ (ld_blt I hg hm bt_enumerate (PyProof.Rows.callWith_type1 (thn (ha pos pins s σ H _ I h) fun us s1 ⟨vs, H1, I1, r1, q1⟩ => ?_) hs rfl))
  obtain ⟨l, c, xs, e, k1, q⟩ := q1
  subst e
  obtain ⟨u, rfl, ru⟩ := r1.one
  cases ru
  obtain ⟨its, v1, o1⟩ := I1.seqOf k1
  have lt1 : (l : Nat) < (s1.heap.objs.size : Nat) := o1.lt
  refine call_enum o1 fun h' he hi old => wpAny_pyIter_enum he ?_
  have J : Inv X pins σ H1 { s1 with heap := h' } := I1.kept (t' := s1.toks) old
  refine ⟨s1.heap.objs.size + 1, _, _, _, H1, rfl, J, turn_enum (s1.heap.objs.size + 1) s1.heap.objs.size l c xs (Nat.succ_ne_self _) (Nat.ne_of_lt (Nat.lt_succ_of_lt lt1)) (Nat.ne_of_lt lt1), ⟨⟨_, he⟩, hi⟩, fun b hb => ?_, q⟩
  have hb' : s1.heap.objs.size ≤ b := by
    simp only [List.mem_cons, List.not_mem_nil, or_false] at hb
    rcases hb with rfl | rfl <;> omega
  exact I1.fpOk hb' (I1.hok.fresh hb')
theorem a_iEnum {ta : TA} {σ : St} {H : Hp} {R : It → Hp → Prop} : iEnum ta σ H R = ta σ H fun vs H1 => ∃ l c xs, vs = [.ref l] ∧ SqC H1 c l xs ∧ R (Ite c l xs) H1 := rfl
end
theorem cl_enum {c : String} {l : Addr} {xs : List V} {g : TG} {tc : TT} {tb : TB} {D : St → Hp → Prop} {σ : St} {H : Hp} (Pv : Nat → St → Hp → Prop) (h0 : Pv 0 σ H) (hl : ∀ i σ H, Pv i σ H → SqC H c l xs)
    (hs : ∀ (i : Nat) v (T : Addr) σ H H', xs[i]? = some v → Pv i σ H → H T = none → Same H H' → H' T = some (.tup [.int (i : Int), v]) → g (.ref T) σ H' fun σ2 H2 => tc σ2 H2 fun b H3 => if b = true then tb σ2 H3 (Pv (i + 1)) else Pv (i + 1) σ2 H3)
    (hd : ∀ σ H, Pv xs.length σ H → D σ H) : tCL (Ite c l xs) g tc tb D σ H := by
  refine ⟨fun i m σ H => m = xs.length - i ∧ i ≤ xs.length ∧ Pv i σ H, ⟨xs.length, by simp, Nat.zero_le _, h0⟩, ?_⟩
  rintro i m σ H ⟨rfl, hi, p⟩
  have q := hl i σ H p
  by_cases hlt : i < xs.length
  · refine .inr ⟨⟨q, hlt⟩, Pv (i + 1), fun σ' H' p' => ⟨xs.length - (i + 1), by omega, rfl, hlt, p'⟩, fun x H' y => ?_⟩
    obtain ⟨T, v, rfl, n, rfl, e⟩ := y
    exact hs i v T σ H _ e p n (same_upd n) upd_same
  · have e : i = xs.length := by omega
    subst e
    exact .inl ⟨⟨q, rfl⟩, hd σ H p⟩
end L2
end
section
set_option Elab.async false
set_option linter.all false
set_option maxRecDepth 100000
namespace L2
open PySem PySem.Spec PyProof.Rows
def tCalK (sp : Sp) (gV : List V → List V) (tk : TA) : TE := fun σ H Q => tk σ H fun zs H2 => sp (gV zs) H2 Q E0
section
variable {X : Cx}
theorem a_tCalK {sp : Sp} {gV : List V → List V} {tk : TA} {σ : St} {H : Hp} {Q : VK} : tCalK sp gV tk σ H Q = tk σ H fun zs H2 => sp (gV zs) H2 Q E0 := rfl
end
def g1 {α : Type} : List α → List α
  | [a] => [a]
  | _ => []
def g2 {α : Type} : List α → List α
  | [a, b] => [a, b]
  | _ => []
def g2r {α : Type} : List α → List α
  | [a, b] => [b, a]
  | _ => []
theorem cal_fn {P : Program} {w : World} {K : PySem.W.Frag} {mg : Str → Option Value} {base : Heap} {x : Str} {st : Stmt} {f : Addr} {fd : FuncData} {ps : List Str} {k : Nat} {sp : Sp} (F : Fun K x x st f fd) (ok : FnOk P w K mg base CX0 k f fd ps sp) (hm : mg x = some (.ref f)) (hb : Binds K fd ps []) : Cal P w K mg base x ps k sp := ⟨f, fd, ok, hm, F.kp, hb⟩
end L2
end
section
set_option Elab.async false
set_option linter.all false
set_option maxRecDepth 100000
namespace L2
open PySem PySem.Spec PyProof.Rows
section
variable {X : Cx}
theorem eqAt_tup {pins : List (Addr × Obj)} {σ : St} {H : Hp} {s : Shared} {A : Around} {a b : Addr} {ns ms : List Int} (I : Inv X pins σ H s) (ha : H a = some (.tup (ns.map V.int))) (hb : H b = some (.tup (ms.map V.int))) (hu : A.units < cLine) : SeqAt.EqAt A s (.ref a) (.ref b) (decide (ns = ms)) := by
  by_cases hab : a = b
  · subst hab
    rw [ha] at hb
    have e : ns.map V.int = ms.map V.int := by injection hb with h; injection h
    have : ns = ms := List.map_inj_right (fun _ _ h => by injection h) |>.mp e
    rw [decide_eq_true this]
    exact SeqAt.EqAt.same _
  · obtain ⟨its, its2, p1, p2, l1, l2, he⟩ := tup_eqs I ha hb
    have r := SeqAt.RcAt.tuples (A := A) (s := s) (show s.heap.IsTuple a its.toArray from p1) (show s.heap.IsTuple b its2.toArray from p2) hu (fun j h1 h2 => he _ j h1 h2)
    rw [List.size_toArray, List.size_toArray, l1, l2, ints_all] at r
    exact SeqAt.EqAt.of_refs hab r
def rNePP : R2 := fun x y H Q => ∃ (a b a1 a2 b1 b2 : Addr) (n1 n2 m1 m2 : List Int), x = .ref a ∧ y = .ref b ∧ H a = some (.tup [.ref a1, .ref a2]) ∧ H b = some (.tup [.ref b1, .ref b2]) ∧ H a1 = some (.tup (n1.map V.int)) ∧ H a2 = some (.tup (n2.map V.int)) ∧ H b1 = some (.tup (m1.map V.int)) ∧ H b2 = some (.tup (m2.map V.int)) ∧ Q (.bl (!(decide (n1 = m1) && decide (n2 = m2)))) H
theorem a_rNePP {x y : V} {H : Hp} {Q : VK} : rNePP x y H Q = ∃ (a b a1 a2 b1 b2 : Addr) (n1 n2 m1 m2 : List Int), x = .ref a ∧ y = .ref b ∧ H a = some (.tup [.ref a1, .ref a2]) ∧ H b = some (.tup [.ref b1, .ref b2]) ∧ H a1 = some (.tup (n1.map V.int)) ∧ H a2 = some (.tup (n2.map V.int)) ∧ H b1 = some (.tup (m1.map V.int)) ∧ H b2 = some (.tup (m2.map V.int)) ∧ Q (.bl (!(decide (n1 = m1) && decide (n2 = m2)))) H := rfl
end
end L2
end
section
set_option Elab.async false
set_option linter.all false
set_option maxRecDepth 100000
namespace L2
open PySem PySem.Spec PyProof.Rows
section
variable {X : Cx}
def tPop0 (to : TE) (t : TA) : TE := fun σ H Q => to σ H fun x H1 => ∃ l xs0, x = .ref l ∧ H1 l = some (.lst xs0) ∧ t σ H1 fun vs H2 => ∃ (y : V) (ys : List V), vs = [.int 0] ∧ H2 l = some (.lst (y :: ys)) ∧ Q y (upd H2 l (.lst ys))
theorem a_tPop0 {to : TE} {t : TA} {σ : St} {H : Hp} {Q : VK} : tPop0 to t σ H Q = to σ H fun x H1 => ∃ l xs0, x = .ref l ∧ H1 l = some (.lst xs0) ∧ t σ H1 fun vs H2 => ∃ (y : V) (ys : List V), vs = [.int 0] ∧ H2 l = some (.lst (y :: ys)) ∧ Q y (upd H2 l (.lst ys)) := rfl
theorem listS0 : CallR X (.type "list") (fun xs H Q => ∃ p ys, xs = [.ref p] ∧ SqL X.K H p ys ∧ ∀ (l : Addr) (H2 : Hp), H l = none → Same H H2 → H2 l = some (.lst ys) → Q (.ref l) H2) := by
  intro pins s σ H xs us Q I r h
  obtain ⟨p, ys, e, hq, q⟩ := h
  exact call_list_of pins s σ H xs us Q I r ⟨p, ys, e, .inl hq, fun l n => q l _ n (same_upd n) upd_same⟩
end
def g3r {α : Type} : List α → List α
  | [a, b, c] => [c, b, a]
  | _ => []
theorem g3r_is {α : Type} {a b c : α} : g3r [a, b, c] = [c, b, a] := rfl
theorem g2r_is {α : Type} {a b : α} : g2r [a, b] = [b, a] := rfl
theorem g2_is {α : Type} {a b : α} : g2 [a, b] = [a, b] := rfl
theorem g1_is {α : Type} {a : α} : g1 [a] = [a] := rfl
end L2
end
section
set_option Elab.async false
set_option linter.all false
set_option maxRecDepth 100000
namespace L2
open PySem PySem.Spec PyProof.Rows
section
variable {X : Cx}
def iS0 (tl : TE) : TI := fun σ H R => tl σ H fun x H1 => ∃ a xs o, x = .ref a ∧ (o = HO.tup xs ∨ o = HO.lst xs) ∧ H1 a = some o ∧ R (ItS (fun H => H a = some o) xs) H1
theorem pi_s0 {tg l : Expr} {tl : TE} (hl : PE X l tl) : PI X tg l (iS0 tl) := by
  intro pins s σ H R I h
  refine thn (hl pins s σ H _ I h) fun v s1 ⟨x, H1, I1, r1, q1⟩ => ?_
  obtain ⟨a, xs, o, e, ho, hq, q⟩ := q1
  subst e
  cases r1
  rcases ho with rfl | rfl
  · skip
    obtain ⟨its, rv, p, hz⟩ := I1.tuple (SqT.of hq)
    refine wpAny_pyIter_tuple (show s1.heap.IsTuple a its.toArray from p) ?_
    refine ⟨s1.heap.objs.size, [s1.heap.objs.size], _, _, H1, rfl, I1.kept (t' := s1.toks) fun b o e => Heap.get?_push_of_some _ e, (turn_tuple a _).weak (J' := ItS (fun H => H a = some (.tup xs)) xs) (fun i H ⟨k, hi⟩ => ?_) (fun i H ⟨k, hi⟩ => ⟨xs, SqT.of k, hi⟩) (fun i H x H' ⟨k, hi⟩ ⟨y1, y2⟩ => ⟨y1, y2 xs (SqT.of k)⟩), ⟨_, Heap.get?_push_size _ rfl, rfl, rfl⟩, fun b hb => ?_, q⟩
    · obtain ⟨x, hx⟩ := getlen hi
      exact ⟨xs, x, SqT.of k, hx⟩
    · have e : b = s1.heap.objs.size := by simpa using hb
      subst e
      exact I1.fpOk (Nat.le_refl _) (I1.hok.fresh (Nat.le_refl _))
  · skip
    obtain ⟨its, rv, p, hz⟩ := I1.list (SqL.of hq)
    refine wpAny_pyIter_list p.isList ?_
    refine ⟨s1.heap.objs.size, [s1.heap.objs.size], _, _, H1, rfl, I1.kept (t' := s1.toks) fun b o e => Heap.get?_push_of_some _ e, (turn_list a _).weak (J' := ItS (fun H => H a = some (.lst xs)) xs) (fun i H ⟨k, hi⟩ => ?_) (fun i H ⟨k, hi⟩ => ⟨xs, SqL.of k, hi⟩) (fun i H x H' ⟨k, hi⟩ ⟨y1, y2⟩ => ⟨y1, y2 xs (SqL.of k)⟩), ⟨_, Heap.get?_push_size _ rfl, rfl, rfl⟩, fun b hb => ?_, q⟩
    · obtain ⟨x, hx⟩ := getlen hi
      exact ⟨xs, x, SqL.of k, hx⟩
    · have e : b = s1.heap.objs.size := by simpa using hb
      subst e
      exact I1.fpOk (Nat.le_refl _) (I1.hok.fresh (Nat.le_refl _))
theorem a_iS0 {tl : TE} {σ : St} {H : Hp} {R : It → Hp → Prop} : iS0 tl σ H R = tl σ H fun x H1 => ∃ a xs o, x = .ref a ∧ (o = HO.tup xs ∨ o = HO.lst xs) ∧ H1 a = some o ∧ R (ItS (fun H => H a = some o) xs) H1 := rfl
end
end L2
end
section
set_option Elab.async false
set_option linter.all false
set_option maxRecDepth 100000
namespace L2
open PySem PySem.Spec PyProof.Rows
section
variable {X : Cx}
def tListR (ta : TA) : TE := fun σ H Q => ta σ H fun vs H1 => ∃ j : Int, vs = [.int j] ∧ 0 ≤ j ∧ j ≤ 1000000 ∧ ∀ (l : Addr) (H2 : Hp), H1 l = none → Same H1 H2 → H2 l = some (.lst ((List.range j.toNat).map fun i : Nat => V.int (i : Int))) → Q (.ref l) H2
theorem a_tListR {ta : TA} {σ : St} {H : Hp} {Q : VK} : tListR ta σ H Q = ta σ H fun vs H1 => ∃ j : Int, vs = [.int j] ∧ 0 ≤ j ∧ j ≤ 1000000 ∧ ∀ (l : Addr) (H2 : Hp), H1 l = none → Same H1 H2 → H2 l = some (.lst ((List.range j.toNat).map fun i : Nat => V.int (i : Int))) → Q (.ref l) H2 := rfl
def tPar3 (i j k : Nat) (ta : TA) : TS := fun D σ H => ta σ H fun vs H1 => ∃ v w u, vs = [v, w, u] ∧ D.nx (((σ.set i (some v)).set j (some w)).set k (some u)) H1
theorem a_tPar3 {i j k : Nat} {ta : TA} {D : Ends} {σ : St} {H : Hp} : tPar3 i j k ta D σ H = ta σ H fun vs H1 => ∃ v w u, vs = [v, w, u] ∧ D.nx (((σ.set i (some v)).set j (some w)).set k (some u)) H1 := rfl
theorem ps_par3 {i j k : Nat} {x y z : Str} {a b c : Expr} {ta : TA} {px py pz pt pos : Pos} {kt k2 pt2} (hc : X.calm = true) (hN : X.N.Nodup) (hi : X.N[i]? = some x) (hj : X.N[j]? = some y) (hk : X.N[k]? = some z) (hij : i ≠ j) (hik : i ≠ k) (hjk : j ≠ k)
    (hx : X.env.scope.names.lookup x = some .local) (hy : X.env.scope.names.lookup y = some .local) (hz : X.env.scope.names.lookup z = some .local) (ha : PA X [a, b, c] ta)
    (hw : swappedStores [.Tuple [.Name x px, .Name y py, .Name z pz] kt pt] (.Tuple [a, b, c] k2 pt2) X.env = pure (some [x, y, z]))
    (hs : swapsWithSole [.Tuple [.Name x px, .Name y py, .Name z pz] kt pt] (.Tuple [a, b, c] k2 pt2) pos.line X.env = pure false := by rfl) :
    PS X (.Assign [.Tuple [.Name x px, .Name y py, .Name z pz] kt pt] (.Tuple [a, b, c] k2 pt2) pos) (tPar3 i j k ta) := by
  intro pins s σ H D I h
  rw [exec_Assign_arm]
  refine wpAny_bind (wpAny_standAt ?_)
  rw [hs]
  refine wpAny_bind (wpAny_pure ?_)
  rw [if_neg (by decide)]
  refine wpAny_bind (Tuple_ (thn (ha _ pins s σ H _ I h) fun us s1 ⟨vs, H1, I1, r1, q1⟩ => ?_))
  obtain ⟨v, w, u, e1, q1⟩ := q1
  subst e1
  obtain ⟨u1, u2, u3, rfl, rv, rw', ru⟩ : ∃ u1 u2 u3, us = [u1, u2, u3] ∧ RelV v u1 ∧ RelV w u2 ∧ RelV u u3 := by
    cases r1 with
    | cons p q =>
      cases q with
      | cons p' q' =>
        cases q' with
        | cons p'' q'' =>
          cases q''
          exact ⟨_, _, _, rfl, p, p', p''⟩
  refine wpAny_newObj_type ?_ (by show 3 ≤ sizeLine; decide)
  have I2 : Inv X pins σ H1 { s1 with heap := s1.heap.push { cls := .type "tuple", data := .seq [u1, u2, u3].toArray } } := I1.kept (t' := s1.toks) fun b o e => Heap.get?_push_of_some _ e
  rw [hw]
  refine wpAny_bind (wpAny_pure ?_)
  show wpAny (model X.prog X.w) X.A (do rule "assign.swapped-stores"; let items ← unpackItems (.ref s1.heap.objs.size) 3 none; assignInOrder [fun v => bindName X.env z v, fun v => bindName X.env y v, fun v => bindName X.env x v] items.reverse; pure Flow.next) _ _ _
  refine wpAny_bind (wpAny_rule (wpAny_bind (unpackItems_tuple (items := #[u1, u2, u3]) (I.ok.hd hc) (IsTup.new s1.heap _) fun h' hx' => ?_)))
  have I3 := I2.kept (h' := h') (t' := s1.toks) fun b o e => hx' b o (Nat.ne_of_lt (Heap.lt_size e)) e
  show wpAny _ _ (assignInOrder [fun v => bindName X.env z v, fun v => bindName X.env y v, fun v => bindName X.env x v] [u3, u2, u1] >>= fun _ => pure Flow.next) _ _ _
  refine wpAny_bind (assignInOrder_cons (wpAny_bindName (store_ok I3 hN hk (.inl hz) ru (fun s2 I4 => ?_) (.inr hz))))
  refine assignInOrder_cons (wpAny_bindName (store_ok I4 hN hj (.inl hy) rw' (fun s3 I5 => ?_) (.inr hy)))
  refine assignInOrder_cons (wpAny_bindName (store_ok I5 hN hi (.inl hx) rv (fun s4 I6 => assignInOrder_nil (wpAny_pure ?_)) (.inr hx)))
  rw [List.set_comm _ _ (Ne.symm hij), List.set_comm _ _ (Ne.symm hik), List.set_comm _ _ (Ne.symm hjk)] at I6
  exact ⟨_, H1, I6, q1⟩
end
end L2
end
section
set_option Elab.async false
set_option linter.all false
set_option Elab.async false
set_option linter.all false
set_option maxRecDepth 100000
namespace L2
open PySem PySem.Spec PyProof.Rows
end L2
namespace L2
open PySem PySem.Spec PyProof.Rows
end L2
namespace L2
open PySem PySem.Spec PyProof.Rows
end L2
namespace L2
open PySem PySem.Spec PyProof.Rows
end L2
namespace L2
open PySem PySem.Spec PyProof.Rows
end L2
namespace L2
open PySem PySem.Spec PyProof.Rows
end L2
namespace L2
open PySem PySem.Spec PyProof.Rows
end L2
namespace L2
open PySem PySem.Spec PyProof.Rows
end L2
namespace L2
open PySem PySem.Spec PyProof.Rows
end L2
namespace L2
open PySem PySem.Spec PyProof.Rows
end L2
namespace L2
open PySem PySem.Spec PyProof.Rows
section
variable {κ : Type} [DecidableEq κ]
def valV (kvs : List (κ × V)) (k : κ) : Option V := (kvs.find? fun kv => decide (kv.1 = k)).map (·.2)
def putK (kvs : List (κ × V)) (k : κ) (v : V) : List (κ × V) :=
  if (kvs.any fun kv => decide (kv.1 = k)) = true then kvs.map (fun kv => if kv.1 = k then (kv.1, v) else kv) else kvs ++ [(k, v)]
def dropK (kvs : List (κ × V)) (k : κ) : List (κ × V) := kvs.filter fun kv => decide (kv.1 ≠ k)
theorem valV_pos {p : κ × V} {r : List (κ × V)} {k : κ} (e : p.1 = k) : valV (p :: r) k = some p.2 := by simp [valV, List.find?_cons, e]
theorem valV_neg {p : κ × V} {r : List (κ × V)} {k : κ} (e : ¬ p.1 = k) : valV (p :: r) k = valV r k := by simp [valV, List.find?_cons, e]
theorem valV_any (k : κ) : ∀ kvs : List (κ × V), (kvs.any fun kv => decide (kv.1 = k)) = (valV kvs k).isSome
  | [] => rfl
  | p :: r => by
    rw [List.any_cons]
    by_cases e : p.1 = k
    · simp only [valV_pos e, decide_eq_true e, Bool.true_or, Option.isSome_some]
    · rw [valV_neg e, decide_eq_false e, Bool.false_or]; exact valV_any k r
theorem length_putK (kvs : List (κ × V)) (k : κ) (v : V) : (putK kvs k v).length ≤ kvs.length + 1 := by
  unfold putK
  split
  · rw [List.length_map]; omega
  · rw [List.length_append, List.length_cons, List.length_nil]; omega
theorem RelO.isSome_eq {o : Option V} {u : Option Value} (r : RelO o u) : o.isSome = u.isSome := by
  cases o with
  | none => cases u with
    | none => rfl
    | some _ => exact (show False from r).elim
  | some _ => cases u with
    | none => exact (show False from r).elim
    | some _ => rfl
theorem RelO.getD {o : Option V} {u : Option Value} {d : V} {d' : Value} (r : RelO o u) (rd : RelV d d') : RelV (o.getD d) (u.getD d') := by
  cases o with
  | none => cases u with
    | none => exact rd
    | some _ => exact (show False from r).elim
  | some _ => cases u with
    | none => exact (show False from r).elim
    | some _ => exact r
theorem KV.val {kvs : List (κ × V)} {vs : List (κ × Value)} (r : KV kvs vs) (k : κ) : RelO (valV kvs k) (valueAt vs k) := by
  unfold KV at r
  induction r with
  | nil => exact True.intro
  | @cons p q ps qs h t ih =>
    obtain ⟨h1, h2⟩ := h
    by_cases e : p.1 = k
    · have e' : q.1 = k := h1.symm.trans e
      have b : valueAt (q :: qs) k = some q.2 := by simp [valueAt, List.find?_cons, e']
      rw [valV_pos e, b]; exact h2
    · have e' : ¬ q.1 = k := fun z => e (h1.trans z)
      have b : valueAt (q :: qs) k = valueAt qs k := by simp [valueAt, List.find?_cons, e']
      rw [valV_neg e, b]; exact ih
theorem KV.any {kvs : List (κ × V)} {vs : List (κ × Value)} (r : KV kvs vs) (k : κ) : (kvs.any fun kv => decide (kv.1 = k)) = vs.any fun kv => decide (kv.1 = k) := by
  unfold KV at r
  induction r with
  | nil => rfl
  | cons h t ih => rw [List.any_cons, List.any_cons, ih, h.1]
theorem KV.repl {kvs : List (κ × V)} {vs : List (κ × Value)} (r : KV kvs vs) (k : κ) {y : V} {u : Value} (ry : RelV y u) :
    KV (kvs.map fun kv => if kv.1 = k then (kv.1, y) else kv) (vs.map fun kv => if kv.1 = k then (kv.1, u) else kv) := by
  unfold KV at r ⊢
  induction r with
  | nil => exact .nil
  | @cons p q ps qs h t ih =>
    rw [List.map_cons, List.map_cons]
    refine .cons ?_ ih
    obtain ⟨h1, h2⟩ := h
    by_cases e : p.1 = k
    · rw [if_pos e, if_pos (h1.symm.trans e)]; exact ⟨h1, ry⟩
    · rw [if_neg e, if_neg (fun z => e (h1.trans z))]; exact ⟨h1, h2⟩
theorem KV.put {kvs : List (κ × V)} {vs : List (κ × Value)} (r : KV kvs vs) (k : κ) {y : V} {u : Value} (ry : RelV y u) : KV (putK kvs k y) (stored vs k u) := by
  unfold putK stored
  rw [r.any k]
  by_cases e : (vs.any fun kv => decide (kv.1 = k)) = true
  · rw [if_pos e, if_pos e]; exact r.repl k ry
  · rw [if_neg e, if_neg e]; exact Paired.snoc r ⟨rfl, ry⟩
theorem KV.drop {kvs : List (κ × V)} {vs : List (κ × Value)} (r : KV kvs vs) (k : κ) : KV (dropK kvs k) (without vs k) := by
  unfold KV at r ⊢
  unfold dropK without
  induction r with
  | nil => exact .nil
  | @cons p q ps qs h t ih =>
    obtain ⟨h1, h2⟩ := h
    rw [List.filter_cons, List.filter_cons]
    by_cases e : p.1 = k
    · have a : ¬ decide (p.1 ≠ k) = true := by simp [e]
      have b : ¬ decide (q.1 ≠ k) = true := by simp [h1.symm.trans e]
      rw [if_neg a, if_neg b]; exact ih
    · have e' : ¬ q.1 = k := fun z => e (h1.trans z)
      have a : decide (p.1 ≠ k) = true := by simp [e]
      have b : decide (q.1 ≠ k) = true := by simp [e']
      rw [if_pos a, if_pos b]; exact .cons ⟨h1, h2⟩ ih
theorem KV.keys {kvs : List (κ × V)} {vs : List (κ × Value)} (r : KV kvs vs) : kvs.map (·.1) = vs.map (·.1) := by
  unfold KV at r
  induction r with
  | nil => rfl
  | cons h t ih => rw [List.map_cons, List.map_cons, ih, h.1]
theorem KV.length {kvs : List (κ × V)} {vs : List (κ × Value)} (r : KV kvs vs) : kvs.length = vs.length := Paired.length r
end
theorem kV_is {P : Program} {w : World} {k : Key} {u : Value} (r : RelV (kV k) u) : (mixKind P w).is k u = true := by
  cases k with
  | inl i => obtain ⟨t, e⟩ := (show ∃ t, u = Value.int i t from r); subst e; exact mixKind_int P w i t
  | inr x => obtain ⟨t, e⟩ := (show ∃ t, u = Value.str x t from r); subst e; exact mixKind_str P w x t
theorem items_are {P : Program} {w : World} : ∀ {ks : List Key} {us : List Value}, Vals (ks.map kV) us → ItemsAre (mixKind P w) ks us
  | [], _, r => by rw [List.map_nil] at r; cases r; exact .nil
  | k :: ks, _, r => by
    rw [List.map_cons] at r
    cases r with
    | cons h t => exact .cons (kV_is h) (items_are t)
abbrev KT (H : Hp) : List (List Key × V) → List (List Key × Addr × Value) → Prop := Paired fun p q => p.1 = q.1 ∧ H q.2.1 = some (.tup (p.1.map kV)) ∧ RelV p.2 q.2.2
theorem KT.val {H : Hp} {kvs : List (List Key × V)} {xs : List (List Key × Addr × Value)} (r : KT H kvs xs) (k : List Key) : RelO (valV kvs k) ((atKey xs k).map (·.2)) := by
  induction r with
  | nil => exact True.intro
  | @cons p q ps qs h t ih =>
    obtain ⟨h1, _, h2⟩ := h
    by_cases e : p.1 = k
    · have e' : q.1 = k := h1.symm.trans e
      have b : atKey (q :: qs) k = some q.2 := by simp [atKey, List.find?_cons, e']
      rw [valV_pos e, b]; exact h2
    · have e' : ¬ q.1 = k := fun z => e (h1.trans z)
      have b : atKey (q :: qs) k = atKey qs k := by simp [atKey, List.find?_cons, e']
      rw [valV_neg e, b]; exact ih
theorem KT.repl {H : Hp} {kvs : List (List Key × V)} {xs : List (List Key × Addr × Value)} (r : KT H kvs xs) (k : List Key) {y : V} {u : Value} (ry : RelV y u) :
    KT H (kvs.map fun kv => if kv.1 = k then (kv.1, y) else kv) (xs.map (putAt k u)) := by
  induction r with
  | nil => exact .nil
  | @cons p q ps qs h t ih =>
    rw [List.map_cons, List.map_cons]
    refine .cons ?_ ih
    obtain ⟨h1, h2, h3⟩ := h
    unfold putAt
    by_cases e : p.1 = k
    · rw [if_pos e, if_pos (h1.symm.trans e)]; exact ⟨h1, h2, ry⟩
    · rw [if_neg e, if_neg (fun z => e (h1.trans z))]; exact ⟨h1, h2, h3⟩
theorem KT.put {H : Hp} {kvs : List (List Key × V)} {xs : List (List Key × Addr × Value)} (r : KT H kvs xs) (k : List Key) {b : Addr} {y : V} {u : Value} (hb : H b = some (.tup (k.map kV))) (ry : RelV y u) :
    KT H (putK kvs k y) (storedH xs k b u) := by
  have e : (kvs.any fun kv => decide (kv.1 = k)) = (atKey xs k).isSome := by
    rw [valV_any, (r.val k).isSome_eq, Option.isSome_map]
  unfold putK storedH
  rw [e]
  by_cases q : (atKey xs k).isSome = true
  · rw [if_pos q, if_pos q]; exact r.repl k ry
  · rw [if_neg q, if_neg q]; exact Paired.snoc r ⟨rfl, hb, ry⟩
theorem KT.keeps {H H' : Hp} {kvs : List (List Key × V)} {xs : List (List Key × Addr × Value)} (r : KT H kvs xs) (ht : ∀ b ys, H b = some (.tup ys) → H' b = some (.tup ys)) : KT H' kvs xs :=
  Paired.mapP r fun _ _ z => ⟨z.1, ht _ _ z.2.1, z.2.2⟩
section
variable {P : Program} {w : World} {H : Hp} {h : Heap} {a : Addr}
theorem rd_of {u : HO} (ok : HOk P w H h) (e : Rd H a u) : ObjOk P w H h a u := e.ok ok
theorem dk_rd {kvs : List (Key × V)} (ok : HOk P w H h) (e : Rd H a (.dK kvs)) : kvs.length ≤ sizeLine ∧ (a == sysModules) = false ∧ ∃ vs, KV kvs vs ∧ h.DictOf (mixKind P w) a vs :=
  show ObjOk P w H h a (.dK kvs) from rd_of ok e
theorem dk_of {kvs : List (Key × V)} (ok : HOk P w H h) (e : H a = some (.dK kvs)) : kvs.length ≤ sizeLine ∧ (a == sysModules) = false ∧ ∃ vs, KV kvs vs ∧ h.DictOf (mixKind P w) a vs := dk_rd ok (.inl e)
theorem key_of {ks : List Key} (ok : HOk P w H h) (e : H a = some (.tup (ks.map kV))) : (tupleKind (mixKind P w)).is h ks a := by
  obtain ⟨_, its, r, o, h1, h2, n, h3⟩ := (show ObjOk P w H h a (.tup (ks.map kV)) from ok a _ e)
  exact ⟨o, its.toArray, n, h1, h2, h3, by simpa using items_are r⟩
theorem dt_rd {kvs : List (List Key × V)} (ok : HOk P w H h) (e : Rd H a (.dT kvs)) : kvs.length ≤ sizeLine ∧ (a == sysModules) = false ∧
    ∃ xs, KT H kvs xs ∧ h.DictOfH (tupleKind (mixKind P w)) a xs := by
  obtain ⟨z, y, xs, r, o, es, ep, h1, h2, h3, h4, h5⟩ := (show ObjOk P w H h a (.dT kvs) from rd_of ok e)
  refine ⟨z, y, xs, r, o, es, ep, h1, h2, h3, h4, fun x hx => ?_, h5⟩
  have all : ∀ {l : List (List Key × V)} {m : List (List Key × Addr × Value)}, KT H l m → ∀ x ∈ m, (tupleKind (mixKind P w)).is h x.1 x.2.1 := by
    intro l m q
    induction q with
    | nil => intro x hx; exact nomatch hx
    | @cons p q ps qs hq t ih =>
      intro x hx
      rcases List.mem_cons.mp hx with e | hx
      · subst e
        exact key_of ok (by rw [← hq.1]; exact hq.2.1)
      · exact ih x hx
  exact all r x hx
theorem dt_of {kvs : List (List Key × V)} (ok : HOk P w H h) (e : H a = some (.dT kvs)) : kvs.length ≤ sizeLine ∧ (a == sysModules) = false ∧
    ∃ xs, KT H kvs xs ∧ h.DictOfH (tupleKind (mixKind P w)) a xs := dt_rd ok (.inl e)
end
def DGet (H : Hp) (a : Addr) (y : V) (r : Option V) : Prop :=
  (∃ kvs k, Rd H a (.dK kvs) ∧ y = kV k ∧ r = valV kvs k) ∨ ∃ kvs k b, Rd H a (.dT kvs) ∧ y = .ref b ∧ H b = some (.tup (k.map kV)) ∧ r = valV kvs k
def DPut (H : Hp) (a : Addr) (y v : V) (H' : Hp) : Prop :=
  (∃ kvs k, H a = some (.dK kvs) ∧ y = kV k ∧ kvs.length < sizeLine ∧ H' = upd H a (.dK (putK kvs k v))) ∨
  ∃ kvs k b, H a = some (.dT kvs) ∧ y = .ref b ∧ H b = some (.tup (k.map kV)) ∧ kvs.length < sizeLine ∧ H' = upd H a (.dT (putK kvs k v))
theorem DGet.k {H : Hp} {a : Addr} {kvs : List (Key × V)} {k : Key} (e : H a = some (.dK kvs)) : DGet H a (kV k) (valV kvs k) := .inl ⟨kvs, k, .inl e, rfl, rfl⟩
theorem DGet.t {H : Hp} {a b : Addr} {kvs : List (List Key × V)} {k : List Key} (e : H a = some (.dT kvs)) (eb : H b = some (.tup (k.map kV))) : DGet H a (.ref b) (valV kvs k) := .inr ⟨kvs, k, b, .inl e, rfl, eb, rfl⟩
theorem DPut.k {H : Hp} {a : Addr} {kvs : List (Key × V)} {k : Key} {v : V} (e : H a = some (.dK kvs)) (hl : kvs.length < sizeLine) : DPut H a (kV k) v (upd H a (.dK (putK kvs k v))) := .inl ⟨kvs, k, e, rfl, hl, rfl⟩
theorem DPut.t {H : Hp} {a b : Addr} {kvs : List (List Key × V)} {k : List Key} {v : V} (e : H a = some (.dT kvs)) (eb : H b = some (.tup (k.map kV))) (hl : kvs.length < sizeLine) :
    DPut H a (.ref b) v (upd H a (.dT (putK kvs k v))) := .inr ⟨kvs, k, b, e, rfl, eb, hl, rfl⟩
section
variable {X : Cx} {pins : List (Addr × Obj)} {σ : St} {H : Hp} {s : Shared} {a : Addr} {y v : V} {u r : Value} {o : Option V} {A : Around} {E : Value → Shared → Prop}
theorem Inv.big (I : Inv X pins σ H s) : sysModules < s.heap.objs.size := by
  have h : mainGlobals < s.heap.objs.size := (I.mod.glob.keeps I.bk).lt
  exact Nat.lt_trans (by decide) h
theorem d_getItem {Q : Value → Shared → Prop} (hu : A.units + 1 < cLine) (I : Inv X pins σ H s) (g : DGet H a y (some v)) (ry : RelV y u) (h : ∀ w' s', Inv X pins σ H s' → RelV v w' → Q w' s') :
    wpAny (model X.prog X.w) A (getItem (.ref a) u) Q E s := by
  rcases g with ⟨kvs, k, e, ey, l⟩ | ⟨kvs, k, b, e, ey, eb, l⟩
  · subst ey
    obtain ⟨z, hd, vs, rel, dd⟩ := dk_rd I.hok e
    obtain ⟨w', hw, rw'⟩ := RelO.some_of (v := v) (o := valueAt vs k) (by rw [l]; exact rel.val k)
    exact wpAny_getItem_of (kV_is ry) dd.mapOf hw (h w' _ (I.tok _) rw')
  · subst ey
    cases (show u = Value.ref b from ry)
    obtain ⟨z, hd, xs, rel, dd⟩ := dt_rd I.hok e
    obtain ⟨w', hw, rw'⟩ := RelO.some_of (v := v) (o := (atKey xs k).map (·.2)) (by rw [l]; exact rel.val k)
    obtain ⟨p, hp, hp2⟩ := Option.map_eq_some_iff.mp hw
    refine wpAny_getItem_heap (tupleKind_room_in1 hu) (key_of I.hok eb) dd hp ?_
    rw [hp2]
    exact h w' _ (I.tok _) rw'
theorem d_write {h' : Heap} {t' : Nat} {ob : HO} (I : Inv X pins σ H s) (mu : Mut (H a)) (hs : Heap.SameBut a s.heap h') (he : ∃ q, h'.get? a = some q) (new : ObjOk X.prog X.w (upd H a ob) h' a ob) :
    Inv X pins σ (upd H a ob) { s with heap := h', toks := t' } :=
  I.write (x := a) (e := a) mu (.inl rfl) (fun b q hb z => (hs.2 b hb).trans z) he new
theorem dk_new {P : Program} {w : World} {H' : Hp} {h' : Heap} {kvs : List (Key × V)} {vs : List (Key × Value)} (z : kvs.length ≤ sizeLine) (hd : (a == sysModules) = false) (rel : KV kvs vs) (dd : h'.DictOf (mixKind P w) a vs) :
    ObjOk P w H' h' a (.dK kvs) := ⟨z, hd, vs, rel, dd⟩
theorem d_setItem {H' : Hp} {Q : Unit → Shared → Prop} (hu : A.units + 1 < cLine) (I : Inv X pins σ H s) (g : DPut H a y v H') (ry : RelV y u) (rv : RelV v r) (h : ∀ s', Inv X pins σ H' s' → Q () s') :
    wpAny (model X.prog X.w) A (setItem (.ref a) u r) Q E s := by
  rcases g with ⟨kvs, k, e, ey, l, eH⟩ | ⟨kvs, k, b, e, ey, eb, l, eH⟩
  · subst ey eH
    obtain ⟨z, hd, vs, rel, dd⟩ := dk_of I.hok e
    have hz : vs.length ≤ sizeLine := by rw [← rel.length]; exact z
    have hl : (putK kvs k v).length ≤ sizeLine := by have := length_putK kvs k v; omega
    refine wpAny_setItem_pairs (hsz := hz) (kV_is ry) dd fun h' dd' hs => h _ ?_
    have he : ∃ q, h'.get? a = some q := let ⟨q, _, _, hq, _⟩ := dd'; ⟨q, hq⟩
    exact d_write I (by rw [e]; exact True.intro) hs he (dk_new hl hd (rel.put k rv) dd')
  · subst ey eH
    cases (show u = Value.ref b from ry)
    obtain ⟨z, hd, xs, rel, dd⟩ := dt_of I.hok e
    have hz : xs.length ≤ sizeLine := by rw [← Paired.length rel]; exact z
    have hl : (putK kvs k v).length ≤ sizeLine := by have := length_putK kvs k v; omega
    refine wpAny_setItem_heap (hsz := hz) (tupleKind_room_in1 hu) (key_of I.hok eb) dd fun h' dd' hs => h _ ?_
    obtain ⟨q, es, ep, hq, h2, h3, h4, _, h5⟩ := dd'
    refine d_write I (by rw [e]; exact True.intro) hs ⟨q, hq⟩ ⟨hl, hd, _, (rel.put k eb rv).keeps fun c ys ec => ?_, q, es, ep, hq, h2, h3, h4, h5⟩
    rw [upd_ne (ne_of ec e (fun z => nomatch z))]
    exact ec
end
section
variable {X : Cx} {pins : List (Addr × Obj)} {σ : St} {H : Hp} {s : Shared} {a : Addr} {kvs : List (Key × V)} {k : Key} {u : Value} {A : Around} {E : Value → Shared → Prop}
end
def NoSl (i : Expr) : Prop := ∀ ov iv, subscripted i false ov iv = operate [ov, iv] (getItem ov iv)
theorem subD_of {prog : Program} {w : World} {A : Around} {E : Value → Shared → Prop} {s : Shared} {env : Env} {value slice : Expr} {pos : Pos} {T id : String} {Q : Value → Shared → Prop}
    (hl : typeLookup (.type T) "__getitem__" = pure (some (.builtin id))) (hs : NoSl slice)
    (h : wpAny (model prog w) A (eval value env) (fun o s₁ => wpAny (model prog w) A (eval slice env) (fun i s₂ => s₂.TypeIs o T ∧ wpAny (model prog w) A (getItem o i) Q E s₂) E s₁) E s) :
    wpAny (model prog w) A (eval (.Subscript value slice pos) env) Q E s := by
  refine Subscript_ (wpAny_mono h (fun o s₁ h₁ => wpAny_mono h₁ (fun i s₂ h₂ => ?_) fun _ _ x => x) fun _ _ x => x)
  obtain ⟨hT, h₂⟩ := h₂
  unfold subscriptTail
  refine wpAny_bind ?_
  rw [getitemInPython_of_ne hT.not_modules]
  refine wpAny_bind (wpAny_specialOf hT hl ?_)
  have fin : wpAny (model prog w) A (subscripted slice false o i) (fun r s₃ => wpAny (model prog w) A (letTemporaryGo value o r >>= fun _ => pure r) Q E s₃) E s₂ := by
    rw [hs o i]
    exact wpAny_operating (wpAny_mono h₂ (fun r s₃ h₃ => wpAny_bind (wpAny_letTemporaryGo (wpAny_pure h₃))) fun _ _ x => x)
  first
    | exact wpAny_pure (wpAny_bind fin)
    | exact wpAny_bind (wpAny_pure (wpAny_bind fin))
    | exact wpAny_bind fin
theorem dict_typeIs {X : Cx} {pins : List (Addr × Obj)} {σ : St} {H : Hp} {s : Shared} {a : Addr} {y : V} {o : Option V} (I : Inv X pins σ H s) (g : DGet H a y o) : s.TypeIs (.ref a) "dict" := by
  rcases g with ⟨kvs, k, e, _, _⟩ | ⟨kvs, k, b, e, _, _, _⟩
  · obtain ⟨_, _, vs, _, dd⟩ := dk_rd I.hok e
    exact dd.typeIs
  · obtain ⟨_, _, xs, _, dd⟩ := dt_rd I.hok e
    exact dd.typeIs
section
variable {X : Cx} {o i e value : Expr} {pos pos' tpos : Pos} {td ty tv : TE}
end
theorem dk_empty {P : Program} {w : World} {H : Hp} (h : Heap) (hb : sysModules < h.objs.size) : ObjOk P w H (h.push { cls := .type "dict", data := .dict #[] }) h.objs.size (.dK []) :=
  ⟨Nat.zero_le _, beq_eq_false_iff_ne.mpr (Ne.symm (Nat.ne_of_lt hb)), [], .nil, Heap.DictOf.new h⟩
section
variable {X : Cx} {pos : Pos}
end
def tPairs : List (TE × TE) → St → Hp → (List (V × V) → Hp → Prop) → Prop
  | [], _, H, Q => Q [] H
  | (tk, tv) :: r, σ, H, Q => tk σ H fun x H1 => tv σ H1 fun y H2 => tPairs r σ H2 fun ps H3 => Q ((x, y) :: ps) H3
abbrev VV : List (V × V) → List (Value × Value) → Prop := Paired fun p q => RelV p.1 q.1 ∧ RelV p.2 q.2
def PPs (X : Cx) (pos : Pos) (keys : List (Option Expr)) (values : List Expr) (trs : List (TE × TE)) : Prop :=
  ∀ (pins : List (Addr × Obj)) (s : Shared) (σ : St) (H : Hp) (Q : List (V × V) → Hp → Prop), Inv X pins σ H s → tPairs trs σ H Q →
    wpAny (model X.prog X.w) X.A (evalPairs (pairTrees keys values X.env pos)) (fun vs s' => ∃ ps H', Inv X pins σ H' s' ∧ VV ps vs ∧ Q ps H') X.xe s
theorem pps_nil {X : Cx} {pos : Pos} : PPs X pos [] [] [] := fun pins s σ H Q I h => pairTrees_nil_walk ⟨[], H, I, .nil, h⟩
theorem pps_cons {X : Cx} {pos : Pos} {k v : Expr} {ks : List (Option Expr)} {vs : List Expr} {tk tv : TE} {trs : List (TE × TE)} (hk : PE X k tk) (hv : PE X v tv) (hr : PPs X pos ks vs trs) :
    PPs X pos (some k :: ks) (v :: vs) ((tk, tv) :: trs) := fun pins s σ H Q I h =>
  pairTrees_cons_walk (thn (hk pins s σ H _ I h) fun u s1 ⟨x, H1, I1, rx, q1⟩ => thn (hv pins s1 σ H1 _ I1 q1) fun w2 s2 ⟨y, H2, I2, ry, q2⟩ =>
    thn (hr pins s2 σ H2 _ I2 q2) fun ws s3 ⟨ps, H3, I3, rel, q3⟩ => ⟨(x, y) :: ps, H3, I3, .cons ⟨rx, ry⟩ rel, q3⟩)
def mergeK (kvs more : List (Key × V)) : List (Key × V) := more.foldl (fun acc kv => putK acc kv.1 kv.2) kvs
theorem KV.merge : ∀ {more : List (Key × V)} {rs : List (Key × Value)} {kvs : List (Key × V)} {vs : List (Key × Value)}, KV more rs → KV kvs vs → KV (mergeK kvs more) (merged vs rs) := by
  intro more rs kvs vs r
  unfold KV at r
  induction r generalizing kvs vs with
  | nil => intro q; exact q
  | @cons p q ps qs h t ih =>
    intro r0
    have e : KV (putK kvs p.1 p.2) (stored vs q.1 q.2) := by
      have := r0.put p.1 h.2
      rw [← h.1]; exact this
    exact ih e
theorem length_mergeK : ∀ (more kvs : List (Key × V)), (mergeK kvs more).length ≤ kvs.length + more.length
  | [], kvs => by show kvs.length ≤ kvs.length + 0; omega
  | p :: r, kvs => by
    have h1 := length_mergeK r (putK kvs p.1 p.2)
    have h2 := length_putK kvs p.1 p.2
    show (mergeK (putK kvs p.1 p.2) r).length ≤ _
    rw [List.length_cons]; omega
theorem carries_of {P : Program} {w : World} : ∀ {kvs : List (Key × V)} {ws : List (Value × Value)}, VV (kvs.map fun kv => (kV kv.1, kv.2)) ws → ∃ rs, Carries (mixKind P w) ws rs ∧ KV kvs rs
  | [], _, r => by rw [List.map_nil] at r; cases r; exact ⟨[], True.intro, .nil⟩
  | p :: kvs, _, r => by
    rw [List.map_cons] at r
    cases r with
    | @cons a b as bs h t =>
      obtain ⟨rs, c, q⟩ := carries_of (P := P) (w := w) t
      obtain ⟨b1, b2⟩ := b
      exact ⟨(p.1, b2) :: rs, ⟨kV_is h.1, rfl, c⟩, .cons ⟨rfl, h.2⟩ q⟩
def tDisp (trs : List (TE × TE)) : TE := fun σ H Q => ∀ p, H p = none → tPairs trs σ (upd H p (.dK [])) fun ps H2 => H2 p = some (.dK []) ∧ ∃ kvs : List (Key × V), ps = kvs.map (fun kv => (kV kv.1, kv.2)) ∧ kvs.length ≤ 15 ∧ Q (.ref p) (upd H2 p (.dK (mergeK [] kvs)))
theorem pe_disp {X : Cx} {pos : Pos} {keys : List (Option Expr)} {values : List Expr} {trs : List (TE × TE)} (h : PPs X pos keys values trs) (hall : keys.all (·.isSome) = true) (hl : keys.length = values.length) (h0 : keys ≠ [])
    (h15 : keys.length ≤ 15) : PE X (.Dict keys values pos) (tDisp trs) := by
  intro pins s σ H Q I q
  have hn := I.hok.fresh (Nat.le_refl s.heap.objs.size)
  have I1 := I.laid (a := s.heap.objs.size) (o := .dK []) (h' := s.heap.push { cls := .type "dict", data := .dict #[] }) (t' := s.toks) (fun _ _ q => Heap.get?_push_of_some _ q) (Nat.le_refl _) (dk_empty s.heap I.big)
  refine wpAny_Dict_walk (knd := mixKind X.prog X.w) hall hl h0 h15 (thn (h pins _ σ _ _ I1 (q _ hn)) fun ws s2 ⟨ps, H2, I2, rel, e, kvs, ep, lk, q2⟩ => ?_)
  subst ep
  obtain ⟨rs, c, rk⟩ := carries_of (P := X.prog) (w := X.w) rel
  obtain ⟨z, hd, vs0, r0, dd⟩ := dk_of I2.hok e
  cases r0
  refine ⟨rs, c, dd, fun h' dd' hs => ⟨.ref s.heap.objs.size, _, ?_, rfl, q2⟩⟩
  have hz : (mergeK [] kvs).length ≤ sizeLine := by
    have h1 := length_mergeK kvs []
    rw [List.length_nil] at h1
    rw [sizeLine_eq]; omega
  have he : ∃ q, h'.get? s.heap.objs.size = some q := let ⟨q, _, _, hq, _⟩ := dd'; ⟨q, hq⟩
  exact d_write I2 (by rw [e]; exact True.intro) hs he (dk_new hz hd (rk.merge .nil) dd')
structure M1 (X : Cx) (o : Expr) (m : Str) (apos : Pos) (e : Expr) (cpos : Pos) : Prop where
  base : attributeBase o m X.env (eval o X.env) = eval o X.env
  few : ((backTo cpos (starEach [e] X.env)).all (fun x => !x.1) && (backToKw cpos (keywordEach [] X.env)).all (fun x => x.1.isSome)
    && decide (([e] : List Expr).length + ([] : List Keyword).length + (if ([] : List Keyword).isEmpty then 0 else 1) < 30)) = true
  line : (apos.endLine == cpos.line) = true
  trees : backTo cpos (starEach [e] X.env) = [(false, eval e X.env)]
structure M2 (X : Cx) (o : Expr) (m : Str) (apos : Pos) (e f : Expr) (cpos : Pos) : Prop where
  base : attributeBase o m X.env (eval o X.env) = eval o X.env
  few : ((backTo cpos (starEach [e, f] X.env)).all (fun x => !x.1) && (backToKw cpos (keywordEach [] X.env)).all (fun x => x.1.isSome)
    && decide (([e, f] : List Expr).length + ([] : List Keyword).length + (if ([] : List Keyword).isEmpty then 0 else 1) < 30)) = true
  line : (apos.endLine == cpos.line) = true
  trees : backTo cpos (starEach [e, f] X.env) = [(false, eval e X.env), (false, eval f X.env)]
section
variable {X : Cx} {pins : List (Addr × Obj)} {σ : St} {H : Hp} {s : Shared} {a : Addr} {y d : V} {u r : Value} {o : Option V} {A : Around} {E : Value → Shared → Prop}
end
section
variable {X : Cx} {o e f : Expr} {apos cpos : Pos} {td ty tx : TE}
end
section
variable {X : Cx} {pins : List (Addr × Obj)} {σ : St} {H : Hp} {s : Shared} {a : Addr} {kvs : List (Key × V)} {A : Around} {E : Value → Shared → Prop}
end
section
variable {X : Cx} {pins : List (Addr × Obj)} {σ : St} {H : Hp} {s : Shared} {a : Addr} {y : V} {u : Value} {A : Around} {E : Value → Shared → Prop}
end
end L2
namespace Att
open PySem PySem.W PySem.Calls PyProof.Rows
end Att
namespace L2
open PySem PySem.Spec PyProof.Rows
end L2
namespace L2
open PySem PySem.Spec PyProof.Rows
end L2
namespace L2
open PySem PySem.Spec PyProof.Rows
section
variable {X : Cx}
end
section
variable {κ : Type} [DecidableEq κ]
end
end L2
end
section
set_option Elab.async false
set_option linter.all false
set_option maxRecDepth 100000
namespace L2
open PySem PySem.Spec PyProof.Rows
def rGetK (x y : V) (H : Hp) (Q : VK) : Prop := ∃ a kvs k v, x = .ref a ∧ y = .str k ∧ H a = some (.dK kvs) ∧ valV kvs (Sum.inr k) = some v ∧ Q v H
def rSetK (x y v : V) (H : Hp) (Q : Hp → Prop) : Prop := ∃ a kvs k, x = .ref a ∧ y = .str k ∧ H a = some (.dK kvs) ∧ kvs.length < sizeLine ∧ Q (upd H a (.dK (putK kvs (Sum.inr k) v)))
theorem dget_k {H : Hp} {a : Addr} {kvs : List (Key × V)} {k : Str} {v : V} (e : H a = some (.dK kvs)) (hv : valV kvs (Sum.inr k) = some v) : DGet H a (.str k) (some v) := by
  have := DGet.k (k := Sum.inr k) e
  rw [hv] at this
  exact this
section
variable {X : Cx}
theorem set_key (hu : X.A.units + 1 < cLine) : PSet X rSetK := by
  intro pins s σ H o i v ov iv u Q I ro ri rv h
  obtain ⟨a, kvs, k, rfl, rfl, e, l, q⟩ := h
  obtain rfl : ov = Value.ref a := ro
  exact d_setItem hu I (DPut.k (k := Sum.inr k) e l) ri rv fun s' I' => ⟨_, I', q⟩
theorem get_key (hu : X.A.units + 1 < cLine) : PGet X rGetK := by
  intro pins s σ H o i ov iv Q I ro ri h
  obtain ⟨a, kvs, k, v, rfl, rfl, e, hv, q⟩ := h
  obtain rfl : ov = Value.ref a := ro
  exact d_getItem hu I (dget_k e hv) ri fun w' s' I' rw' => ⟨v, H, I', rw', q⟩
theorem pe_kget {o i : Expr} {pos : Pos} {td ti : TE} (hu : X.A.units + 1 < cLine) (ho : PE X o td) (hi : PE X i ti) (hs : NoSl i) : PE X (.Subscript o i pos) (tOp rGetK td ti) := by
  intro pins s σ H Q I h
  refine subD_of PySem.F.slot_dict_getitem.lookup hs (thn (ho pins s σ H _ I h) fun u s1 ⟨x, H1, I1, rx, q1⟩ => thn (hi pins s1 σ H1 _ I1 q1) fun iv s2 ⟨y, H2, I2, ry, a, kvs, k, v, ex, ey, e, hv, q2⟩ => ?_)
  subst ex ey
  obtain rfl : u = Value.ref a := rx
  have g := dget_k e hv
  exact ⟨dict_typeIs I2 g, d_getItem hu I2 g ry fun w' s3 I3 rw' => ⟨v, H2, I3, rw', q2⟩⟩
theorem op_mulB : OpR X (binaryOp .Mult) (rI IntMulOk fun i j => .int (i * j)) := opI fun _ _ _ _ _ _ _ hc q => mul_int q hc
end
theorem a_rGetK {x y : V} {H : Hp} {Q : VK} : rGetK x y H Q = ∃ a kvs k v, x = .ref a ∧ y = .str k ∧ H a = some (.dK kvs) ∧ valV kvs (Sum.inr k) = some v ∧ Q v H := rfl
theorem a_rSetK {x y v : V} {H : Hp} {Q : Hp → Prop} : rSetK x y v H Q = ∃ a kvs k, x = .ref a ∧ y = .str k ∧ H a = some (.dK kvs) ∧ kvs.length < sizeLine ∧ Q (upd H a (.dK (putK kvs (Sum.inr k) v))) := rfl
theorem a_tAugS {to ti te : TE} {tget : V → V → Hp → VK → Prop} {tip : TIp} {tset : TSet} {D : Ends} {σ : St} {H : Hp} : tAugS to ti te tget tip tset D σ H = to σ H fun o H1 => ti σ H1 fun i H2 => tget o i H2 fun x H3 => te σ H3 fun y H4 => tip x y H4 fun z H5 => tset o i z H5 fun H6 => D.nx σ H6 := rfl
theorem a_ipI {f : Int → Int → Int} {x y : V} {H : Hp} {Q : VK} : ipI f x y H Q = ∃ i j, x = .int i ∧ y = .int j ∧ Q (.int (f i j)) H := rfl
theorem a_tDisp {trs : List (TE × TE)} {σ : St} {H : Hp} {Q : VK} : tDisp trs σ H Q = ∀ p, H p = none → tPairs trs σ (upd H p (.dK [])) fun ps H2 => H2 p = some (.dK []) ∧ ∃ kvs : List (Key × V), ps = kvs.map (fun kv => (kV kv.1, kv.2)) ∧ kvs.length ≤ 15 ∧ Q (.ref p) (upd H2 p (.dK (mergeK [] kvs))) := rfl
theorem a_prs0 {σ : St} {H : Hp} {Q : List (V × V) → Hp → Prop} : tPairs [] σ H Q = Q [] H := rfl
theorem a_prs {tk tv : TE} {r : List (TE × TE)} {σ : St} {H : Hp} {Q : List (V × V) → Hp → Prop} : tPairs ((tk, tv) :: r) σ H Q = tk σ H fun x H1 => tv σ H1 fun y H2 => tPairs r σ H2 fun ps H3 => Q ((x, y) :: ps) H3 := rfl
theorem a_tAug {i : Nat} {te : TE} {ti : TIp} {D : Ends} {σ : St} {H : Hp} : tAug i te ti D σ H = ∃ x, σ[i]? = some (some x) ∧ te σ H fun y H1 => ti x y H1 fun z H2 => D.nx (σ.set i (some z)) H2 := rfl
end L2
end
section
set_option Elab.async false
set_option linter.all false
set_option maxRecDepth 100000
namespace L2
open PySem PySem.Spec PyProof.Rows
def CpAt (op : CmpOp) (A : Around) (s : Shared) (y x : Value) (b : Bool) : Prop := ∀ (prog : Program) (w : World) (E : Value → Shared → Prop) (Q : Value → Shared → Prop), Q (.bool b) s → wpAny (model prog w) A (richCompare op y x) Q E s
def lexB (e c : Nat → Bool) (last : Bool) : List Nat → Bool
  | [] => last
  | i :: r => if e i = true then lexB e c last r else c i
theorem tuple_gtAt (l b : Addr) (items items2 : Array Value) (n n2 : Nat) (dd dd2 : Option Addr) (sl sl2 : Array (Option Value)) (e c : Nat → Bool) :
    Meets (Builtin.«tuple.__gt__» ⟨[.ref l, .ref b], []⟩) (fun A R s => s.heap.get? l = some { cls := .type "tuple", dict := dd, data := .seq items n, slots := sl } ∧ s.heap.get? b = some { cls := .type "tuple", dict := dd2, data := .seq items2 n2, slots := sl2 } ∧
        (∀ j (h1 : j < items.size) (h2 : j < items2.size), SeqAt.EqAt A.in1 s items[j] items2[j] (e j)) ∧ (∀ j (h1 : j < items.size) (h2 : j < items2.size), e j = false → CpAt .Gt A.in1 s items[j] items2[j] (c j)) ∧ R (.ok (.ret (.bool (lexB e c (decide (items.size > items2.size)) (List.range (min items.size items2.size)))))) s) :=
  .of_wp fun prog w A R s h => by
    obtain ⟨hp, g, d, tk, os⟩ := s; obtain ⟨hl, hb, he, hcp, h⟩ := h
    have f2 := AutoSeq1.sub_tuple_tuple
    have zl : (items.toList.zip items2.toList).length = min items.size items2.size := by simp
    wp_walk using wpAny_loadPart' hl, wpAny_loadPart' hb, wpAny_forIn_list _ (fun rest b s' => b.1 = none ∧ s' = ⟨hp, g, d, tk, os⟩ ∧ ∃ i, rest = (items.toList.zip items2.toList).drop i ∧ R (.ok (.ret (.bool (lexB e c (decide (items.size > items2.size)) ((List.range (min items.size items2.size)).drop i))))) ⟨hp, g, d, tk, os⟩) _
    case turn =>
      rintro ⟨y, x⟩ rest b s' ⟨hb', rfl, i, hz, hR⟩
      have lt : i < (items.toList.zip items2.toList).length := by
        rcases Nat.lt_or_ge i (items.toList.zip items2.toList).length with q | q
        · exact q
        · rw [List.drop_of_length_le q] at hz; cases hz
      have lm : i < min items.size items2.size := zl ▸ lt
      have l1 : i < items.size := by omega
      have l2 : i < items2.size := by omega
      rw [List.drop_eq_getElem_cons lt] at hz
      injection hz with z1 z2
      have hy : y = items[i] := by have := congrArg Prod.fst z1; simpa using this
      have hx : x = items2[i] := by have := congrArg Prod.snd z1; simpa using this
      subst hy hx
      have dr := range_drop lm
      refine wpAny_bind (he i l1 l2 prog w _ _ ?_)
      cases hc : e i with
      | true =>
        rw [dr, lexB, if_pos hc] at hR
        exact wpAny_pure ⟨rfl, rfl, i + 1, z2, hR⟩
      | false =>
        rw [dr, lexB, if_neg (by rw [hc]; exact Bool.false_ne_true)] at hR
        have hq := hcp i l1 l2 hc prog w
        wp_walk using hq _ _
        exact ⟨_, rfl, hR⟩
    case fin =>
      rintro ⟨b1, b2⟩ s' ⟨hb', rfl, i, hz, hR⟩
      cases (show b1 = none from hb')
      have ge : min items.size items2.size ≤ i := by
        rcases Nat.lt_or_ge i (items.toList.zip items2.toList).length with q | q
        · rw [List.drop_eq_getElem_cons q] at hz; cases hz
        · exact zl ▸ q
      rw [List.drop_of_length_le (by simpa using ge), lexB] at hR
      wp_walk
      exact ⟨_, rfl, hR⟩
    case h => exact ⟨rfl, rfl, 0, rfl, by rw [List.drop_zero]; exact h⟩
theorem cp_gt {A : Around} {s : Shared} {a b : Addr} {its its2 : List Value} (p1 : IsTup s.heap a its.toArray) (p2 : IsTup s.heap b its2.toArray) (hu : A.units < cLine) (e c : Nat → Bool)
    (he : ∀ j (h1 : j < its.length) (h2 : j < its2.length), SeqAt.EqAt A.in1 s its[j] its2[j] (e j)) (hc : ∀ j (h1 : j < its.length) (h2 : j < its2.length), e j = false → CpAt .Gt A.in1 s its[j] its2[j] (c j)) :
    CpAt .Gt A s (.ref a) (.ref b) (lexB e c (decide (its.length > its2.length)) (List.range (min its.length its2.length))) := by
  intro prog w E Q h
  obtain ⟨⟨c1, d1, da1, sl1⟩, o1, k1, n1, g1⟩ := id p1
  obtain ⟨⟨c2, d2, da2, sl2⟩, o2, k2, n2, g2⟩ := id p2
  simp only at k1 g1 k2 g2
  subst k1 g1 k2 g2
  refine richCompare_meets_room (op := .Gt) ⟨_, o1, rfl⟩ ⟨_, o2, rfl⟩ F.slot_tuple_gt F.entry_tuple_gt (F.args_tuple_gt_2 _ _) (tuple_gtAt a b its.toArray its2.toArray n1 n2 d1 d2 sl1 sl2 e c) ⟨o1, o2, fun j h1 h2 => by simpa using he j (by simpa using h1) (by simpa using h2), fun j h1 h2 z => by simpa using hc j (by simpa using h1) (by simpa using h2) z, ?_⟩ hu
  refine ⟨(fun z => nomatch z), ?_⟩
  simpa using h
inductive Ky where
  | i (n : Int)
  | t (a : Addr) (ns : List Int)
def kyV : Ky → V
  | .i n => .int n
  | .t a _ => .ref a
def kyOk (H : Hp) : Ky → Prop
  | .i _ => True
  | .t a ns => H a = some (.tup (ns.map V.int))
def kyF : Ky → List Int
  | .i n => [n]
  | .t _ ns => ns
def kyS : Ky → Option Nat
  | .i _ => none
  | .t _ ns => some ns.length
def flatK (ks : List Ky) : List Int := (ks.map kyF).flatten
def kEq (k l : Ky) : Bool := decide (kyF k = kyF l)
def kLt (k l : Ky) : Bool := HT.lexLt (kyF k) (kyF l)
def lexL : List Ky → List Ky → Bool
  | k :: ks, l :: ls => if kEq k l = true then lexL ks ls else kLt k l
  | _, _ => false
theorem lex_app : ∀ (a b x y : List Int), a.length = b.length → HT.lexLt (a ++ x) (b ++ y) = if a = b then HT.lexLt x y else HT.lexLt a b
  | [], [], x, y, _ => by simp
  | p :: a, q :: b, x, y, h => by
    have ih := lex_app a b x y (by simpa using h)
    rw [List.cons_append, List.cons_append, HT.lexLt_cons, HT.lexLt_cons, ih]
    by_cases e : p = q
    · subst e
      simp
    · simp [e]
  | [], _ :: _, _, _, h => by simp at h
  | _ :: _, [], _, _, h => by simp at h
theorem kyF_len {k l : Ky} (h : kyS k = kyS l) : (kyF k).length = (kyF l).length := by
  cases k <;> cases l <;> simp_all [kyS, kyF]
theorem lexL_flat : ∀ (ks ls : List Ky), ks.map kyS = ls.map kyS → lexL ks ls = HT.lexLt (flatK ks) (flatK ls)
  | [], [], _ => by simp [lexL, flatK, HT.lexLt_nil_nil]
  | k :: ks, l :: ls, h => by
    have h1 : kyS k = kyS l := by simpa using congrArg List.head? h
    have h2 : ks.map kyS = ls.map kyS := by simpa using congrArg List.tail h
    have ih := lexL_flat ks ls h2
    have e1 : flatK (k :: ks) = kyF k ++ flatK ks := by simp [flatK]
    have e2 : flatK (l :: ls) = kyF l ++ flatK ls := by simp [flatK]
    rw [e1, e2, lex_app _ _ _ _ (kyF_len h1), lexL, ih]
    by_cases z : kyF k = kyF l <;> simp [kEq, kLt, z]
  | [], _ :: _, h => by simp at h
  | _ :: _, [], h => by simp at h
theorem lexB_map (e c : Nat → Bool) (last : Bool) : ∀ l : List Nat, lexB e c last (l.map Nat.succ) = lexB (fun j => e (j + 1)) (fun j => c (j + 1)) last l
  | [] => rfl
  | i :: r => by rw [List.map_cons, lexB, lexB, lexB_map e c last r]
def k0 : Ky := .i 0
theorem lexB_L : ∀ (ks ls : List Ky), ks.length = ls.length → lexB (fun j => kEq (ks.getD j k0) (ls.getD j k0)) (fun j => kLt (ks.getD j k0) (ls.getD j k0)) false (List.range ks.length) = lexL ks ls
  | [], [], _ => rfl
  | k :: ks, l :: ls, h => by
    have ih := lexB_L ks ls (by simpa using h)
    rw [List.length_cons, List.range_succ_eq_map, lexB, lexB_map, lexL]
    simp only [List.getD_cons_zero, List.getD_cons_succ]
    rw [ih]
  | [], _ :: _, h => by simp at h
  | _ :: _, [], h => by simp at h
theorem kEq_comm (k l : Ky) : kEq k l = kEq l k := by unfold kEq; rw [decide_eq_decide]; exact eq_comm
section
variable {X : Cx}
theorem ky_at {ks : List Ky} {its : List Value} (r : Vals (ks.map kyV) its) {j : Nat} (h : j < its.length) : RelV (kyV (ks.getD j k0)) its[j] := by
  have hl := r.length
  rw [List.length_map] at hl
  obtain ⟨u, hu, ru⟩ := r.get (i := j) (x := kyV (ks[j]'(by omega))) (by simp [show j < ks.length by omega])
  rw [List.getElem?_eq_getElem h] at hu
  cases hu
  have : ks.getD j k0 = ks[j]'(by omega) := by simp [List.getD_eq_getElem?_getD, show j < ks.length by omega]
  rw [this]
  exact ru
theorem kyS_at {ks ls : List Ky} (h : ks.map kyS = ls.map kyS) (j : Nat) : kyS (ks.getD j k0) = kyS (ls.getD j k0) := by
  have := congrArg (fun l => l[j]?) h
  simp only [List.getElem?_map] at this
  rw [List.getD_eq_getElem?_getD, List.getD_eq_getElem?_getD]
  cases e : ks[j]? <;> cases e2 : ls[j]? <;> simp_all
theorem kyOk_at {H : Hp} {ks : List Ky} (h : ∀ k ∈ ks, kyOk H k) (j : Nat) : kyOk H (ks.getD j k0) := by
  rw [List.getD_eq_getElem?_getD]
  cases e : ks[j]? with
  | none => trivial
  | some k => exact h k (List.mem_of_getElem? e)
theorem ky_eq {pins : List (Addr × Obj)} {σ : St} {H : Hp} {s : Shared} {A : Around} (I : Inv X pins σ H s) (hu : A.units < cLine) {k l : Ky} {u v : Value} (ru : RelV (kyV k) u) (rv : RelV (kyV l) v) (ok : kyOk H k) (ol : kyOk H l) (sh : kyS k = kyS l) : SeqAt.EqAt A s u v (kEq k l) := by
  cases k with
  | i n =>
    cases l with
    | i m =>
      have := eqAt_V (A := A) (s := s) ru rv rfl rfl
      have e : eqV (kyV (.i n)) (kyV (.i m)) = kEq (.i n) (.i m) := by
        show (n == m) = decide ([n] = [m])
        rw [Bool.eq_iff_iff]
        simp
      rw [e] at this
      exact this
    | t b ms => simp [kyS] at sh
  | t a ns =>
    cases l with
    | i m => simp [kyS] at sh
    | t b ms =>
      cases ru
      cases rv
      exact eqAt_tup I ok ol hu
theorem dec_lt (n m : Int) : (n == m) = decide ([n] = [m]) := by rw [Bool.eq_iff_iff]; simp
theorem dec_gt (n m : Int) : (n == m) = decide ([m] = [n]) := by rw [dec_lt, decide_eq_decide]; exact eq_comm
theorem one_lt (n m : Int) : decide (n < m) = HT.lexLt [n] [m] := by
  rw [HT.lexLt_cons, HT.lexLt_nil_nil]
  by_cases z : n = m
  · rw [if_pos z]
    exact decide_eq_false (by omega)
  · rw [if_neg z]
theorem one_gt (n m : Int) : decide (n > m) = HT.lexLt [m] [n] := one_lt m n
theorem ky_int (ns : List Int) (j : Nat) {a : Addr} {xs : List Int} : (ns.map Ky.i).getD j k0 ≠ .t a xs := by
  rw [List.getD_eq_getElem?_getD, List.getElem?_map]
  cases ns[j]? <;> simp [k0]
theorem int_gt {A : Around} {s : Shared} {n m : Int} {u v : Value} (ru : RelV (.int n) u) (rv : RelV (.int m) v) : CpAt .Gt A s u v (decide (n > m)) := by
  intro prog w E Q h
  obtain ⟨t, rfl⟩ := ru
  obtain ⟨t', rfl⟩ := rv
  exact CmpOf.ints_gt (P := fun i v => ∃ t, v = .int (if i = 0 then n else m) t) (fun i => if i = 0 then n else m) (fun i v h => h) 0 1 _ _ s Q E ⟨t, rfl⟩ ⟨t', rfl⟩ h
theorem ints_gt {pins : List (Addr × Obj)} {σ : St} {H : Hp} {s : Shared} {A : Around} {a b : Addr} {ns ms : List Int} (I : Inv X pins σ H s) (ha : H a = some (.tup (ns.map V.int))) (hb : H b = some (.tup (ms.map V.int))) (hl : ns.length = ms.length) (hu : A.units < cLine) : CpAt .Gt A s (.ref a) (.ref b) (HT.lexLt ms ns) := by
  obtain ⟨its, r1, p1, _⟩ := I.tuple (SqT.of ha)
  obtain ⟨its2, r2, p2, _⟩ := I.tuple (SqT.of hb)
  have r1' : Vals ((ns.map Ky.i).map kyV) its := by rw [List.map_map]; exact r1
  have r2' : Vals ((ms.map Ky.i).map kyV) its2 := by rw [List.map_map]; exact r2
  have l1 := r1.length
  have l2 := r2.length
  rw [List.length_map] at l1 l2
  have sh : (ns.map Ky.i).map kyS = (ms.map Ky.i).map kyS := by
    rw [List.map_map, List.map_map]
    show ns.map (fun _ => none) = ms.map fun _ => none
    rw [List.map_const', List.map_const', hl]
  have ok : ∀ (xs : List Int) k, k ∈ xs.map Ky.i → kyOk H k := fun xs k hk => by
    obtain ⟨x, _, rfl⟩ := List.mem_map.mp hk
    trivial
  have fl : ∀ xs : List Int, flatK (xs.map Ky.i) = xs := fun xs => by
    unfold flatK
    rw [List.map_map]
    show (xs.map fun x => [x]).flatten = xs
    induction xs with
    | nil => rfl
    | cons x xs ih => rw [List.map_cons, List.flatten_cons, ih]; rfl
  have key := cp_gt (A := A) p1 p2 hu (fun j => kEq ((ms.map Ky.i).getD j k0) ((ns.map Ky.i).getD j k0)) (fun j => kLt ((ms.map Ky.i).getD j k0) ((ns.map Ky.i).getD j k0)) (fun j h1 h2 => ?_) fun j h1 h2 _ => ?_
  · rw [show min its.length its2.length = (ms.map Ky.i).length by rw [List.length_map]; omega, show decide (its.length > its2.length) = false from decide_eq_false (by omega), lexB_L _ _ (by simp [hl]), lexL_flat _ _ sh.symm, fl, fl] at key
    exact key
  · have := eqAt_V (A := A.in1) (s := s) (ky_at r1' h1) (ky_at r2' h2) (by cases e : (ns.map Ky.i).getD j k0 with | i n => rfl | t a xs => exact absurd e (ky_int ns j)) (by cases e : (ms.map Ky.i).getD j k0 with | i n => rfl | t a xs => exact absurd e (ky_int ms j))
    revert this
    cases e1 : (ns.map Ky.i).getD j k0 with
    | t a xs => exact absurd e1 (ky_int ns j)
    | i n =>
      cases e2 : (ms.map Ky.i).getD j k0 with
      | t a xs => exact absurd e2 (ky_int ms j)
      | i m =>
        intro this
        have e : eqV (kyV (.i n)) (kyV (.i m)) = kEq (.i m) (.i n) := by
          exact dec_gt n m
        rw [e] at this
        exact this
  · have q1 := ky_at r1' h1
    have q2 := ky_at r2' h2
    revert q1 q2
    cases e1 : (ns.map Ky.i).getD j k0 with
    | t a xs => exact absurd e1 (ky_int ns j)
    | i n =>
      cases e2 : (ms.map Ky.i).getD j k0 with
      | t a xs => exact absurd e2 (ky_int ms j)
      | i m =>
        intro q1 q2
        have := int_gt (A := A.in1) (s := s) q1 q2
        have e : decide (n > m) = kLt (.i m) (.i n) := by
          exact one_gt n m
        rw [e] at this
        exact this
theorem ky_gt {pins : List (Addr × Obj)} {σ : St} {H : Hp} {s : Shared} {A : Around} (I : Inv X pins σ H s) (hu : A.units < cLine) {k l : Ky} {u v : Value} (q1 : RelV (kyV k) u) (q2 : RelV (kyV l) v) (o1 : kyOk H k) (o2 : kyOk H l) (hs : kyS k = kyS l) : CpAt .Gt A s u v (kLt l k) := by
  cases k with
  | i n =>
    cases l with
    | t b ms => simp [kyS] at hs
    | i m =>
      have := int_gt (A := A) (s := s) q1 q2
      have e : decide (n > m) = kLt (.i m) (.i n) := by
        exact one_gt n m
      rw [e] at this
      exact this
  | t a ns =>
    cases l with
    | i m => simp [kyS] at hs
    | t b ms =>
      cases q1
      cases q2
      exact ints_gt I o1 o2 (kyF_len hs) hu
theorem rows_gt {pins : List (Addr × Obj)} {σ : St} {H : Hp} {s : Shared} {A : Around} {a b : Addr} {ks ls : List Ky} (I : Inv X pins σ H s) (ha : H a = some (.tup (ks.map kyV))) (hb : H b = some (.tup (ls.map kyV))) (ok : ∀ k ∈ ks, kyOk H k) (ol : ∀ k ∈ ls, kyOk H k) (sh : ks.map kyS = ls.map kyS) (hu : A.units + 64 < cLine) : CpAt .Gt A s (.ref a) (.ref b) (HT.lexLt (flatK ls) (flatK ks)) := by
  obtain ⟨its, r1, p1, _⟩ := I.tuple (SqT.of ha)
  obtain ⟨its2, r2, p2, _⟩ := I.tuple (SqT.of hb)
  have l1 := r1.length
  have l2 := r2.length
  rw [List.length_map] at l1 l2
  have hl : ks.length = ls.length := by simpa using congrArg List.length sh
  have hu1 : A.in1.units < cLine := by simp only [Around.in1_units]; omega
  have key := cp_gt (A := A) p1 p2 (by omega) (fun j => kEq (ls.getD j k0) (ks.getD j k0)) (fun j => kLt (ls.getD j k0) (ks.getD j k0)) (fun j h1 h2 => ?_) fun j h1 h2 _ => ?_
  · rw [show min its.length its2.length = ls.length by omega, show decide (its.length > its2.length) = false from decide_eq_false (by omega), lexB_L _ _ (by omega), lexL_flat _ _ sh.symm] at key
    exact key
  · have := ky_eq I hu1 (ky_at r1 h1) (ky_at r2 h2) (kyOk_at ok j) (kyOk_at ol j) (kyS_at sh j)
    rw [kEq_comm] at this
    exact this
  · exact ky_gt I hu1 (ky_at r1 h1) (ky_at r2 h2) (kyOk_at ok j) (kyOk_at ol j) (kyS_at sh j)
end
section
variable {prog : Program} {w : World} {A : Around} {R : Result → Shared → Prop} {it : Addr} {fp wr : List Addr} {n : Nat} {Pv : Nat → Value → Prop} {St : Nat → Heap → Prop} {D : Shared → Prop}
end
section
variable {prog : Program} {w : World} {A : Around} {R : Result → Shared → Prop} {it : Addr} {fp wr : List Addr} {n : Nat} {Pv : Nat → Value → Prop} {St : Nat → Heap → Prop} {D : Shared → Prop}
theorem max_loopD (W : Walks prog w A.in1 it fp wr n Pv St) (bt : Nat → Nat → Bool) (hc : ∀ i j x y (s : Shared) (Q E : Value → Shared → Prop), D s → Pv i x → Pv j y → Q (.bool (bt i j)) s → wpAny (model prog w) A.in1 (richCompare .Gt x y) Q E s) (Z : Addr) (zf : Z ∉ fp) :
    ∀ (k j : Nat) (s : Shared) (x : Value) (c : Nat), n - (j + 1) = k → j + 1 ≤ n → St (j + 1) s.heap → Pv (argBest bt j) x →
    s.heap.get? Z = some { cls := .type "list", dict := none, data := .seq #[x, x] c, slots := #[] } → (∀ h' tk, (∀ b o, b ∉ wr → b ≠ Z → s.heap.get? b = some o → h'.get? b = some o) → D { s with heap := h', toks := tk }) →
    (∀ v h' tk, Pv (argBest bt (n - 1)) v → (∀ b o, b ∉ wr → b ≠ Z → s.heap.get? b = some o → h'.get? b = some o) → R (.ok (.ret v)) { s with heap := h', toks := tk }) →
    codeAny (model prog w) A (.builtin "max.loop" ⟨[.ref it, .none, .ref Z], []⟩) R s := by
  have zw : Z ∉ wr := fun h => zf (W.sub _ h)
  have nm : (toString "max" ++ toString ".loop" : String) = "max.loop" := by decide
  intro k
  induction k with
  | zero =>
    intro j s x c hk hj st px ez dd hR
    have jn : j + 1 = n := by omega
    refine codeAny_builtin F.entry_max_loop ?_
    rw [Around.under_plainId F.plain_max_loop _]
    show wpAny (model prog w) A.in1 (seqItems? (.ref Z) >>= _) _ _ s
    refine wpAny_bind (wpAny_seqItems ez rfl ?_)
    show wpAny (model prog w) A.in1 (tryCatch (pyNext (.ref it)) _ >>= _) _ _ s
    refine wpAny_bind (wpAny_tryCatch (W.done s _ _ (jn ▸ st) fun h' tk keep => ?_))
    have ez' := keep Z _ zw ez
    show wpAny (model prog w) A.in1 (updateSeq Z (fun _ => #[]) >>= _) _ _ _
    refine wpAny_bind ?_
    refine wpAny_updateSeq ez' rfl (wpAny_bind (wpAny_letGo (wpAny_pure ?_)))
    exact hR x _ tk (by rw [← jn]; exact px) fun b o b1 b2 e => (Heap.get?_update_other _ _ (Ne.symm b2)).trans (keep b o b1 e)
  | succ k ih =>
    intro j s x c hk hj st px ez dd hR
    have jl : j + 1 < n := by omega
    refine codeAny_builtin F.entry_max_loop ?_
    rw [Around.under_plainId F.plain_max_loop _]
    show wpAny (model prog w) A.in1 (seqItems? (.ref Z) >>= _) _ _ s
    refine wpAny_bind (wpAny_seqItems ez rfl ?_)
    show wpAny (model prog w) A.in1 (tryCatch (pyNext (.ref it)) _ >>= _) _ _ s
    refine wpAny_bind (wpAny_tryCatch (W.item (j + 1) s _ _ jl st fun v h' tk pv st' keep => ?_))
    have ez' := keep Z _ zw ez
    show wpAny (model prog w) A.in1 (tryCatch (holding [v, v] (richCompare .Gt v x >>= _)) _ >>= _) _ _ _
    refine wpAny_bind (wpAny_tryCatch (wpAny_holding (wpAny_bind (hc (j + 1) (argBest bt j) v x _ _ _ (dd h' tk fun b o b1 _ e => keep b o b1 e) pv px ?_))))
    refine wpAny_bind (wpAny_holding (wpAny_truthy_bool ?_))
    refine wpAny_bind (wpAny_letGo (wpAny_pure ?_))
    cases hb : bt (j + 1) (argBest bt j) with
    | true =>
      simp only [if_true]
      refine wpAny_bind ?_
      refine wpAny_updateSeq ez' rfl (wpAny_bind (wpAny_letGo ?_))
      rw [nm]
      refine wpAny_pure ⟨plainId_quiet F.plain_max_loop _, ih (j + 1) _ v _ (by omega) jl (W.frame _ _ _ st' fun b bf o e => ?_) (by simp only [argBest, hb, if_true]; exact pv) (Heap.get?_update_self _ ez' rfl) (fun h2 t2 k2 => dd h2 t2 fun b o b1 b2 e => k2 b o b1 b2 ((Heap.get?_update_other _ _ (Ne.symm b2)).trans (keep b o b1 e))) fun v2 h2 t2 p2 k2 => ?_⟩
      · exact (Heap.get?_update_other _ _ (fun h : Z = b => zf (by rw [h]; exact bf))).trans e
      · exact hR v2 h2 t2 p2 fun b o b1 b2 e => k2 b o b1 b2 ((Heap.get?_update_other _ _ (Ne.symm b2)).trans (keep b o b1 e))
    | false =>
      simp only [Bool.false_eq_true, if_false]
      refine wpAny_bind (wpAny_letGo ?_)
      rw [nm]
      refine wpAny_pure ⟨plainId_quiet F.plain_max_loop _, ih (j + 1) _ x c (by omega) jl st' (by simp only [argBest, hb, Bool.false_eq_true, if_false]; exact px) ez' (fun h2 t2 k2 => dd h2 t2 fun b o b1 b2 e => k2 b o b1 b2 (keep b o b1 e)) fun v2 h2 t2 p2 k2 => ?_⟩
      exact hR v2 h2 t2 p2 fun b o b1 b2 e => k2 b o b1 b2 (keep b o b1 e)
theorem max_firstD (W : Walks prog w A.in1 it fp wr n Pv St) (bt : Nat → Nat → Bool) (hc : ∀ i j x y (s : Shared) (Q E : Value → Shared → Prop), D s → Pv i x → Pv j y → Q (.bool (bt i j)) s → wpAny (model prog w) A.in1 (richCompare .Gt x y) Q E s) (Z : Addr) (zf : Z ∉ fp) (n0 : 0 < n) {s : Shared} {c : Nat} (st : St 0 s.heap)
    (ez : s.heap.get? Z = some { cls := .type "list", dict := none, data := .seq #[] c, slots := #[] }) (dd : ∀ h' tk, (∀ b o, b ∉ wr → b ≠ Z → s.heap.get? b = some o → h'.get? b = some o) → D { s with heap := h', toks := tk })
    (hR : ∀ v h' tk, Pv (argBest bt (n - 1)) v → (∀ b o, b ∉ wr → b ≠ Z → s.heap.get? b = some o → h'.get? b = some o) → R (.ok (.ret v)) { s with heap := h', toks := tk }) :
    codeAny (model prog w) A (.builtin "max.loop" ⟨[.ref it, .none, .ref Z], []⟩) R s := by
  have zw : Z ∉ wr := fun h => zf (W.sub _ h)
  have nm : (toString "max" ++ toString ".loop" : String) = "max.loop" := by decide
  refine codeAny_builtin F.entry_max_loop ?_
  rw [Around.under_plainId F.plain_max_loop _]
  show wpAny (model prog w) A.in1 (seqItems? (.ref Z) >>= _) _ _ s
  refine wpAny_bind (wpAny_seqItems ez rfl ?_)
  show wpAny (model prog w) A.in1 (tryCatch (pyNext (.ref it)) _ >>= _) _ _ s
  refine wpAny_bind (wpAny_tryCatch (W.item 0 s _ _ n0 st fun v h' tk pv st' keep => ?_))
  have ez' := keep Z _ zw ez
  show wpAny (model prog w) A.in1 (updateSeq Z (fun _ => #[v, v]) >>= _) _ _ _
  refine wpAny_bind ?_
  refine wpAny_updateSeq ez' rfl ?_
  rw [nm]
  refine wpAny_pure ⟨plainId_quiet F.plain_max_loop _, max_loopD W bt hc Z zf _ 0 _ v _ rfl n0 (W.frame _ _ _ st' fun b bf o e => ?_) pv (Heap.get?_update_self _ ez' rfl) (fun h2 t2 k2 => dd h2 t2 fun b o b1 b2 e => k2 b o b1 b2 ((Heap.get?_update_other _ _ (Ne.symm b2)).trans (keep b o b1 e))) fun v2 h2 t2 p2 k2 => ?_⟩
  · exact (Heap.get?_update_other _ _ (fun h : Z = b => zf (by rw [h]; exact bf))).trans e
  · exact hR v2 h2 t2 p2 fun b o b1 b2 e => k2 b o b1 b2 ((Heap.get?_update_other _ _ (Ne.symm b2)).trans (keep b o b1 e))
end
theorem max_walkD {prog : Program} {w : World} {A : Around} {E : Value → Shared → Prop} {s : Shared} {x : Value} {Q : Value → Shared → Prop}
    (h : wpAny (model prog w) A.in1 (pyIter x) (fun v s2 => ∃ it fp wr n Pv St bt, ∃ D : Shared → Prop, v = .ref it ∧ Walks prog w A.in1 it fp wr n Pv St ∧ St 0 s2.heap ∧ (∀ b ∈ fp, b < s2.heap.objs.size) ∧ 0 < n ∧
      (∀ i j x y (s : Shared) (Q E : Value → Shared → Prop), D s → Pv i x → Pv j y → Q (.bool (bt i j)) s → wpAny (model prog w) A.in1 (richCompare .Gt x y) Q E s) ∧ (∀ h' tk, (∀ b o, b ∉ wr → s2.heap.get? b = some o → h'.get? b = some o) → D { s2 with heap := h', toks := tk }) ∧
      ∀ v h' tk, Pv (argBest bt (n - 1)) v → (∀ b o, b ∉ wr → s2.heap.get? b = some o → h'.get? b = some o) → Q v { s2 with heap := h', toks := tk }) E s) :
    wpAny (model prog w) A (call (.builtin "max") [x]) Q E s := by
  have nm : (toString "max" ++ toString ".loop" : String) = "max.loop" := by decide
  refine call_function_tree F.kind_max F.plain_max F.entry_max (F.args_max1 _) ?_
  show wpAny (model prog w) A.in1 (Builtin.Builtins.bindParams "max" ["key", "default"] 0 ⟨[], []⟩ >>= _) _ _ s
  refine wpAny_bind (wpAny_of_eq (show Builtin.Builtins.bindParams "max" ["key", "default"] 0 ⟨[], []⟩ = pure [none, none] by rfl) ?_)
  refine wpAny_bind (wpAny_pure ?_)
  refine wpAny_bind (wpAny_mono h (fun v s2 h2 => ?_) fun _ _ e => e)
  obtain ⟨it, fp, wr, n, Pv, St, bt, D, rfl, W, st, hfp, n0, hc, dd, hQ⟩ := h2
  refine wpAny_bind (wpAny_newObj_type ?_)
  have zf : s2.heap.objs.size ∉ fp := fun hm => Nat.lt_irrefl _ (hfp _ hm)
  rw [nm]
  refine wpAny_pure ⟨plainId_quiet F.plain_max_loop _, max_firstD (D := D) W bt hc s2.heap.objs.size zf n0 (W.frame _ _ _ st fun b _ o e => Heap.get?_push_of_some _ e) (Heap.get?_push_size _ rfl) (fun h' tk k => dd h' tk fun b o b1 e => k b o b1 (Nat.ne_of_lt (Heap.lt_size e)) (Heap.get?_push_of_some _ e)) fun v h' tk pv k => ?_⟩
  exact hQ v h' tk pv fun b o b1 e => k b o b1 (Nat.ne_of_lt (Heap.lt_size e)) (Heap.get?_push_of_some _ e)
theorem flat_len : ∀ ks : List Ky, (flatK ks).length = ((ks.map kyS).map fun o => o.getD 1).sum
  | [] => rfl
  | k :: ks => by
    have ih := flat_len ks
    have e : flatK (k :: ks) = kyF k ++ flatK ks := by simp [flatK]
    rw [e, List.length_append, ih, List.map_cons, List.map_cons, List.sum_cons]
    cases k <;> rfl
theorem lex_irrefl : ∀ a : List Int, HT.lexLt a a = false
  | [] => HT.lexLt_nil_nil
  | x :: a => by rw [HT.lexLt_cons, if_pos rfl]; exact lex_irrefl a
theorem lex_trans : ∀ a b c : List Int, a.length = b.length → b.length = c.length → HT.lexLt a b = true → HT.lexLt b c = true → HT.lexLt a c = true
  | [], [], [], _, _, h, _ => by rw [HT.lexLt_nil_nil] at h; cases h
  | x :: a, y :: b, z :: c, l1, l2, h1, h2 => by
    rw [HT.lexLt_cons] at h1 h2 ⊢
    by_cases e1 : x = y
    · subst e1
      rw [if_pos rfl] at h1
      by_cases e2 : x = z
      · subst e2
        rw [if_pos rfl] at h2 ⊢
        exact lex_trans a b c (by simpa using l1) (by simpa using l2) h1 h2
      · rw [if_neg e2] at h2 ⊢
        exact h2
    · rw [if_neg e1] at h1
      have h1' := of_decide_eq_true h1
      by_cases e2 : y = z
      · subst e2
        rw [if_neg e1]
        exact h1
      · rw [if_neg e2] at h2
        have h2' := of_decide_eq_true h2
        rw [if_neg (by omega)]
        exact decide_eq_true (by omega)
  | [], _ :: _, _, l1, _, _, _ => by simp at l1
  | _ :: _, [], _, l1, _, _, _ => by simp at l1
  | [], [], _ :: _, _, l2, _, _ => by simp at l2
  | _ :: _, _ :: _, [], _, l2, _, _ => by simp at l2
theorem best_gt (val : Nat → List Int) (n : Nat) : ∀ k, (∀ i, i ≤ k → (val i).length = n) → argBest (fun i j => HT.lexLt (val j) (val i)) k ≤ k ∧ ∀ j, j ≤ k → HT.lexLt (val (argBest (fun i j => HT.lexLt (val j) (val i)) k)) (val j) = false
  | 0, _ => ⟨Nat.le_refl _, fun j hj => by
    have : j = 0 := by omega
    subst this
    exact lex_irrefl _⟩
  | k + 1, hl => by
    obtain ⟨i1, i2⟩ := best_gt val n k fun i hi => hl i (by omega)
    have lb := hl _ (Nat.le_trans i1 (Nat.le_succ k))
    have ln := hl (k + 1) (Nat.le_refl _)
    rw [argBest]
    generalize argBest (fun i j => HT.lexLt (val j) (val i)) k = b at *
    cases e : HT.lexLt (val b) (val (k + 1)) with
    | true =>
      rw [if_pos rfl]
      refine ⟨Nat.le_refl _, fun j hj => ?_⟩
      rcases Nat.lt_or_ge j (k + 1) with z | z
      · cases e2 : HT.lexLt (val (k + 1)) (val j) with
        | false => rfl
        | true =>
          have lj := hl j (by omega)
          have := lex_trans _ _ _ (by omega) (by omega) e e2
          rw [i2 j (by omega)] at this
          cases this
      · have : j = k + 1 := by omega
        subst this
        exact lex_irrefl _
    | false =>
      rw [if_neg Bool.false_ne_true]
      refine ⟨by omega, fun j hj => ?_⟩
      rcases Nat.lt_or_ge j (k + 1) with z | z
      · exact i2 j (by omega)
      · have : j = k + 1 := by omega
        subst this
        exact e
section
variable {X : Cx}
def RowsK (H : Hp) (rs : List (Addr × List Ky)) : Prop := (∀ r ∈ rs, H r.1 = some (.tup (r.2.map kyV)) ∧ ∀ k ∈ r.2, kyOk H k) ∧ ∃ sh, ∀ r ∈ rs, r.2.map kyS = sh
theorem maxP0 (hc : X.calm = true) (hu : X.A.units + 128 < cLine) : CallR X (.builtin "max") (fun xs H Q => ∃ (p : Addr) (rs : List (Addr × List Ky)), xs = [.ref p] ∧ sq H p = some (rs.map fun r => V.ref r.1) ∧ RowsK H rs ∧ rs ≠ [] ∧ ∀ m, m ∈ rs → (∀ r ∈ rs, HT.lexLt (flatK m.2) (flatK r.2) = false) → Q (.ref m.1) H) := by
  intro pins s σ H xs us Q I r h
  obtain ⟨p, rs, rfl, hq, ⟨rk, sh, hsh⟩, hne, q⟩ := h
  obtain ⟨u, rfl, ru⟩ := r.one
  cases ru
  have hp : 0 < rs.length := List.length_pos_iff.mpr hne
  refine max_walkD (I.walk hc hq fun it its s2 St fp rv W st hfp hsz J => ?_)
  have hl := rv.length
  rw [List.length_map] at hl
  have at_ : ∀ i v, its[i]? = some v → i < rs.length ∧ ∃ r ∈ rs, rs[i]? = some r ∧ v = .ref r.1 := fun i v hv => by
    have hi : i < rs.length := by rw [hl]; exact (List.getElem?_eq_some_iff.mp hv).1
    obtain ⟨u, hu', ru⟩ := rv.get (i := i) (x := V.ref rs[i].1) (by simp [hi])
    rw [hv] at hu'
    cases hu'
    cases ru
    exact ⟨hi, rs[i], List.getElem_mem hi, List.getElem?_eq_getElem hi, rfl⟩
  let val : Nat → List Int := fun i => flatK ((rs[i]?.map fun r => r.2).getD [])
  refine ⟨it, fp, [it], its.length, _, St, fun i j => HT.lexLt (val j) (val i), fun s => Inv X pins σ H s, rfl, W, st, hfp, by omega, fun i j x y s' Q' E' D hi hj hQ => ?_, fun h' tk k => J h' tk k, fun v h' tk hv k => ?_⟩
  · obtain ⟨_, r1, m1, e1, rfl⟩ := at_ i x hi
    obtain ⟨_, r2, m2, e2, rfl⟩ := at_ j y hj
    have key := rows_gt D (rk r1 m1).1 (rk r2 m2).1 (rk r1 m1).2 (rk r2 m2).2 ((hsh r1 m1).trans (hsh r2 m2).symm) (A := X.A.in1) (by simp only [Around.in1_units]; omega)
    refine key _ _ E' Q' ?_
    have v1 : val i = flatK r1.2 := by simp only [val, e1, Option.map_some, Option.getD_some]
    have v2 : val j = flatK r2.2 := by simp only [val, e2, Option.map_some, Option.getD_some]
    rw [← v1, ← v2]
    exact hQ
  · have lens : ∀ i, i < rs.length → (val i).length = (sh.map fun o => o.getD 1).sum := fun i hi => by
      have e : val i = flatK rs[i].2 := by simp only [val, List.getElem?_eq_getElem hi, Option.map_some, Option.getD_some]
      rw [e, ← hsh rs[i] (List.getElem_mem hi)]
      exact flat_len _
    obtain ⟨b1, b2⟩ := best_gt val (sh.map fun o => o.getD 1).sum (its.length - 1) fun i hi => lens i (by omega)
    obtain ⟨hj, r, mr, er, rfl⟩ := at_ _ v hv
    refine ⟨.ref r.1, H, J h' tk k, rfl, q r mr fun r' hr' => ?_⟩
    obtain ⟨i, hi, rfl⟩ := List.mem_iff_getElem.mp hr'
    have v1 : val (argBest (fun i j => HT.lexLt (val j) (val i)) (its.length - 1)) = flatK r.2 := by simp only [val, er, Option.map_some, Option.getD_some]
    have v2 : val i = flatK rs[i].2 := by simp only [val, List.getElem?_eq_getElem hi, Option.map_some, Option.getD_some]
    rw [← v1, ← v2]
    exact b2 i (by omega)
end
theorem hu128 {A : Around} {k : Nat} (hr : Room k A) : A.units + 128 < cLine := by have := hr.un; omega
end L2
end
section
set_option Elab.async false
set_option linter.all false
set_option maxRecDepth 100000
set_option maxHeartbeats 8000000
namespace K44
open PySem L2
local macro_rules | `(tactic| walk_at "rd") => `(tactic| (try simp only [V.str.injEq, HO.dK.injEq, a_tAug, a_tDisp, a_prs0, a_prs, a_rGetK, a_rSetK, a_tAugS, a_ipI, a_tPar3, a_tListR, a_iS0, a_tPop0, a_tCalK, g3r_is, g2r_is, g2_is, g1_is, a_rNePP, a_iEnum, a_tSeqL, a_tChain, a_tDict, a_tLstA, a_rEqT, a_tIns, a_tRev, a_rSlA, a_rCatA, a_rCatL, a_tSeq, a_tFor, a_rIxL, a_iZip, a_tSortR, a_tSl, a_rSlL0, a_tNoPart, a_tPart, a_tApp, a_tRet, a_tRetN, a_tNext, a_tDrop, a_tAsg, a_gSub, a_gName, a_gNil, a_gCons, a_gTup0, a_rSetL, a_tIfS, a_tAnd, a_tOr, a_tNot, a_tTest, a_tB, a_tTrue, a_tIf, a_tAndV, a_tOrV, a_tNotV, a_tOp, a_tUn, a_rU, a_tVar, a_tC, a_rI0, a_rI, a_rEq, a_rNe, a_rIx0, a_rIn0, a_tCB, a_tCal, a_tCons, a_tNil, a_tTupA, a_tLst, a_tPar, a_tBits, a_tLC, a_iRng1, a_iRng2, a_iT0, a_iL0, a_tEmit, frS, scal, V.ty.injEq, tyN, subN, String.reduceEq, String.reduceBEq, Bool.true_or, Bool.false_or, Bool.or_false, Bool.true_and, Bool.false_and, Bool.and_false, or_true, true_or, beq_self_eq_true, decide_true, decide_false, List.map_cons, List.map_nil, List.length_cons, List.length_nil, List.getElem?_cons_zero, List.getElem?_cons_succ, List.getElem?_nil, List.set_cons_zero, List.set_cons_succ, Option.some.injEq, Option.bind_some, Option.bind_none, id, exists_eq_left', exists_eq_left, exists_and_left, exists_eq_right, V.int.injEq, V.bl.injEq, V.ref.injEq, List.cons.injEq, and_true, true_and, and_assoc, exists_const, atI0, atI1, atI2, ixN30, ixN31, ixN32, upd_same, upd_upd, sq_updL, sq_updT, Nat.zero_add, Nat.reduceAdd, reduceCtorEq, false_and, and_false, exists_false, false_or, or_false, List.length_map, HO.lst.injEq, HO.tup.injEq, Bool.false_eq_true, if_false, if_true, decide_eq_true_eq, ite_true, ite_false, reduceIte, Int.reduceLT, Int.reduceLE, Nat.reduceLT, Int.zero_add, Bool.not_true, Bool.not_false]))
def top (i : Nat) : Stmt := PySem.Challenge.pw_wantprices_k44_meetings_of_any_kind.main.body.getD i (.Pass ⟨0, 0, 0, 0⟩)
abbrev s_has : Stmt := top 1
abbrev s_things_in : Stmt := top 2
abbrev s_heap_of : Stmt := top 3
abbrev s_heap_of_side : Stmt := top 4
abbrev s_is_whole : Stmt := top 6
abbrev s_is_whole_from : Stmt := top 7
abbrev s_are_wholes : Stmt := top 8
abbrev s_are_wholes_from : Stmt := top 9
abbrev s_is_dealing : Stmt := top 12
abbrev s_heaps_of : Stmt := top 13
abbrev s_left_of : Stmt := top 14
abbrev s_costs : Stmt := top 16
abbrev s_gains : Stmt := top 17
abbrev s_best_heaps : Stmt := top 18
abbrev s_in_parts : Stmt := top 20
abbrev s_meets : Stmt := top 21
abbrev s_shows_meeting : Stmt := top 22
abbrev s__law_spool : Stmt := top 24
abbrev s__law_wound : Stmt := top 25
abbrev s__law_draw : Stmt := top 26
abbrev s__law_alone : Stmt := top 27
abbrev s__law_bad : Stmt := top 28
abbrev s_law : Stmt := top 29
structure Txt (mg : Str → Option Value) : Prop where
  len_ : mg "len" = none
  sum_ : mg "sum" = none
  isinstance_ : mg "isinstance" = none
  max_ : mg "max" = none
  range_ : mg "range" = none
  tuple_ : mg "tuple" = none
  list_ : mg "list" = none
  int_ : mg "int" = none
  bool_ : mg "bool" = none
  zip_ : mg "zip" = none
  enumerate_ : mg "enumerate" = none
  sorted_ : mg "sorted" = none
  all_ : mg "all" = none
  LEFT_c : ∃ t, mg "LEFT" = some (.int (-1) t)
section
variable {P : Program} {w : World} {K : PySem.W.Frag} {mg : Str → Option Value} {base : Heap} {f : Addr} {fd : FuncData}
theorem at_int {ns : List Int} {n : Nat} (h : n < ns.length) : atI (ns.map V.int) (n : Int) = some (V.int (ns.getD n 0)) := atI_nat (by simp [h, List.getD_eq_getElem?_getD])
def sdl (l : Addr) (a g f m x : Int) : List (Key × V) := [(Sum.inr "cells", .ref l), (Sum.inr "at", .int a), (Sum.inr "great", .int g), (Sum.inr "left", .int f), (Sum.inr "many", .int m), (Sum.inr "mixed", .int x)]
section
variable {l : Addr} {a g f m x : Int}
theorem vk_cells : valV (sdl l a g f m x) (Sum.inr "cells") = some (.ref l) := by rfl
theorem vk_at : valV (sdl l a g f m x) (Sum.inr "at") = some (.int a) := by rfl
theorem vk_great : valV (sdl l a g f m x) (Sum.inr "great") = some (.int g) := by rfl
theorem vk_left : valV (sdl l a g f m x) (Sum.inr "left") = some (.int f) := by rfl
theorem vk_many : valV (sdl l a g f m x) (Sum.inr "many") = some (.int m) := by rfl
theorem vk_mixed : valV (sdl l a g f m x) (Sum.inr "mixed") = some (.int x) := by rfl
theorem pk_at {v : Int} : putK (sdl l a g f m x) (Sum.inr "at") (.int v) = sdl l v g f m x := by rfl
theorem pk_great {v : Int} : putK (sdl l a g f m x) (Sum.inr "great") (.int v) = sdl l a v f m x := by rfl
theorem pk_left {v : Int} : putK (sdl l a g f m x) (Sum.inr "left") (.int v) = sdl l a g v m x := by rfl
theorem pk_many {v : Int} : putK (sdl l a g f m x) (Sum.inr "many") (.int v) = sdl l a g f v x := by rfl
theorem pk_mixed {v : Int} : putK (sdl l a g f m x) (Sum.inr "mixed") (.int v) = sdl l a g f m v := by rfl
theorem sdl_len : ((sdl l a g f m x).length < sizeLine) = True := eq_true (by show 6 < sizeLine; decide)
end
def Spool (H : Hp) (p l : Addr) : Prop := ∃ (ns : List Int) (a g f m x : Int), H p = some (.dK (sdl l a g f m x)) ∧ H l = some (.lst (ns.map V.int)) ∧ l ≠ p ∧ 0 ≤ a
theorem Spool.same {H H' : Hp} {p l : Addr} (s : Same H H') (h : Spool H p l) : Spool H' p l := by
  obtain ⟨ns, a, g, f, m, x, e, el, n, a0⟩ := h
  exact ⟨ns, a, g, f, m, x, s _ _ e, s _ _ el, n, a0⟩
theorem Spool.nep {H : Hp} {p l c : Addr} (h : Spool H p l) (n : H c = none) : p ≠ c := by
  obtain ⟨ns, a, g, f, m, x, e, el, _, a0⟩ := h
  exact ne_of_none e n
theorem Spool.nel {H : Hp} {p l c : Addr} (h : Spool H p l) (n : H c = none) : l ≠ c := by
  obtain ⟨ns, a, g, f, m, x, e, el, _, a0⟩ := h
  exact ne_of_none el n
theorem Spool.upd {H : Hp} {p l c : Addr} {o : HO} (h : Spool H p l) (n : p ≠ c) (k : l ≠ c) : Spool (upd H c o) p l := by
  obtain ⟨ns, a, g, f, m, x, e, el, z, a0⟩ := h
  exact ⟨ns, a, g, f, m, x, by rw [upd_ne n]; exact e, by rw [upd_ne k]; exact el, z, a0⟩
theorem none_same {l : Addr} {H H1 : Hp} (s : Same H H1) (n : H1 l = none) : H l = none := by
  cases e : H l with
  | none => rfl
  | some o => rw [s _ _ e] at n; cases n
def MadeS (p l c : Addr) (Pd : Int → Prop) (τ : List (Option V)) (G : Hp) (i : Nat) (σ : St) (H : Hp) : Prop := ∃ (v : Option V) (ws : List Int), σ = v :: τ ∧ ws.length = i ∧ (∀ x ∈ ws, Pd x) ∧ Spool H p l ∧ (∀ b o, b ≠ p → b ≠ c → G b = some o → H b = some o) ∧ H c = some (.lst (ws.map V.int))
theorem MadeS.zero {p l c : Addr} {Pd : Int → Prop} {τ : List (Option V)} {G : Hp} (sp : Spool G p l) (nc : G c = none) : MadeS p l c Pd τ G 0 (none :: τ) (upd G c (.lst [])) :=
  ⟨none, [], rfl, rfl, fun _ h => absurd h (by simp), sp.upd (sp.nep nc) (sp.nel nc), fun b o _ n e => by rw [upd_ne n]; exact e, upd_same⟩
theorem MadeS.more {p l c : Addr} {Pd : Int → Prop} {τ : List (Option V)} {G H H2 : Hp} {ws : List Int} {v : Option V} {r : Int} (np : p ≠ c) (nl : l ≠ c) (hbd : ∀ x ∈ ws, Pd x) (k : ∀ b o, b ≠ p → b ≠ c → G b = some o → H b = some o) (s : SameX p H H2) (sp : Spool H2 p l) (hr : Pd r) :
    MadeS p l c Pd τ G (ws.length + 1) (v :: τ) (upd H2 c (.lst (ws.map V.int ++ [V.int r]))) :=
  ⟨v, ws ++ [r], rfl, by simp, fun x hx => by
    rcases List.mem_append.mp hx with z | z
    · exact hbd x z
    · rw [List.mem_singleton.mp z]; exact hr, sp.upd np nl, fun b o n1 n2 e => by rw [upd_ne n2]; exact s _ _ n1 (k b o n1 n2 e), by rw [upd_same]; simp⟩
def sp_wound : Sp := fun vs H Q _ => ∃ n t : Int, vs = [.int n, .int t] ∧ ∀ r : Int, 0 ≤ r → r < 2147483563 → Q (.int r) H
theorem sc__law_wound : FnScope ["_law_number", "_law_turn", "_law_one"] ["_law_number", "_law_turn"] (defScope s__law_wound) := ⟨rfl, rfl, rfl, by decide +kernel, rfl, by decide +kernel, by decide +kernel⟩
theorem ok_wound (F : Fun K "_law_wound" "_law_wound" s__law_wound f fd) (hm : mg "_law_wound" = some (.ref f)) (hb : Binds K fd ["_law_number", "_law_turn"] []) (T : Txt mg) : Cal P w K mg base "_law_wound" ["_law_number", "_law_turn"] 1 sp_wound := by
  refine cal_of F hm hb sc__law_wound (fun vs H Q E h => ?_) (fun cdv A outer s H vs Q E hr h => ?_)
  · obtain ⟨_, _, rfl, _⟩ := h; rfl
  · obtain ⟨n, t, rfl, q⟩ := h
    have sc := sc__law_wound
    refine ⟨_, pss_cons (ps_set (i := 2) sc.nd rfl (Or.inl rfl) (pe_op op_mod (pe_op op_mul (pe_op op_mod (pe_op op_add (pe_op op_add (pv 0) (pe_op op_mul pe_int (pv 1))) pe_int) pe_int) pe_int) pe_int))
      (pss_one (ps_ret (pe_op op_mod (pe_op op_add (pe_op op_mul (pv 2) (pe_op op_add (pe_op op_mod (pv 2) pe_int) pe_int)) (pe_op op_mul pe_int (pv 1))) pe_int))), ?_⟩
    rw [show L2.start ["_law_number", "_law_turn", "_law_one"] [.int n, .int t] = [some (.int n), some (.int t), none] from rfl]
    (walk_at "rd")
    refine ⟨.inl ⟨by decide, by decide⟩, .inr ⟨by decide, by decide⟩, .inr ⟨by omega, by omega⟩, .inl ⟨by decide, by decide⟩, ?_⟩
    exact q _ (Int.emod_nonneg _ (by decide)) (Int.emod_lt_of_pos _ (by decide))
def spDraw : Sp := fun vs H Q _ => ∃ (p l : Addr) (many : Int), vs = [.ref p, .int many] ∧ Spool H p l ∧ 0 < many ∧ many < 1073741824 ∧ ∀ (r : Int) (H' : Hp), 0 ≤ r → r < many → Spool H' p l → SameX p H H' → Q (.int r) H'
theorem sc__law_draw : FnScope ["_law_spool_here", "_law_many", "_law_cell", "_law_drawn"] ["_law_spool_here", "_law_many"] (defScope s__law_draw) := ⟨rfl, rfl, rfl, by decide +kernel, rfl, by decide +kernel, by decide +kernel⟩
theorem ok_draw (F : Fun K "_law_draw" "_law_draw" s__law_draw f fd) (hm : mg "_law_draw" = some (.ref f)) (hb : Binds K fd ["_law_spool_here", "_law_many"] []) (T : Txt mg) (c__law_wound : Cal P w K mg base "_law_wound" ["_law_number", "_law_turn"] 1 sp_wound) : Cal P w K mg base "_law_draw" ["_law_spool_here", "_law_many"] 2 spDraw := by
  refine cal_of F hm hb sc__law_draw (fun vs H Q E h => ?_) (fun cdv A outer s H vs Q E hr h => ?_)
  · obtain ⟨_, _, _, rfl, _⟩ := h; rfl
  · obtain ⟨p, l, many, rfl, ⟨ns, a, g, f', m, x, hp, hl, nlp, a0⟩, h1, h2, q⟩ := h
    have sc := sc__law_draw
    refine ⟨_, pss_consL (ps_augS (pv 0) pe_str (get_key (hu_of hr)) pe_int ip_add (set_key (hu_of hr)))
      (pss_consL (ps_if (PW.pt (pw_and (pt_cmpR op_eq (pe_kget (hu_of hr) (pv 0) pe_str (fun _ _ => rfl)) pe_int (nomark _)) (pw_and1 (pt_cmpR op_lt (pe_kget (hu_of hr) (pv 0) pe_str (fun _ _ => rfl)) (pe_callB len0 rfl T.len_ bt_len (pa_cns (pe_kget (hu_of hr) (pv 0) pe_str (fun _ _ => rfl)) pa_nil)) (nomark _))))) (pss_consL (ps_set (i := 2) sc.nd rfl (Or.inl rfl) (pe_ix ix0 (pe_kget (hu_of hr) (pv 0) pe_str (fun _ _ => rfl)) (pe_kget (hu_of hr) (pv 0) pe_str (fun _ _ => rfl)) (fun _ _ => rfl)))
      (pss_consL (ps_augS (pv 0) pe_str (get_key (hu_of hr)) pe_int ip_add (set_key (hu_of hr)))
      (pss_consL (ps_asg (pe_cal c__law_wound hr (pa_cns (pe_op op_add (pe_kget (hu_of hr) (pv 0) pe_str (fun _ _ => rfl)) (pe_op op_mod (pv 2) pe_int)) (pa_cns (pe_kget (hu_of hr) (pv 0) pe_str (fun _ _ => rfl)) pa_nil))) (pg_sub (pv 0) pe_str (set_key (hu_of hr))))
      (pss_one (ps_if (pt_cmpR op_ge (pv 2) (pe_op op_pow pe_int pe_int) (nomark _)) (pss_one (ps_asg (pe_tupA (pa_cns (pe_op op_mod (pv 2) (pe_op op_mulB (pe_op op_pow pe_int pe_int) (pe_op op_pow pe_int pe_int))) (pa_cns pe_int pa_nil))) (pg_tup0 (n := 2) rfl (pgs_cons (pg_sub (pv 0) pe_str (set_key (hu_of hr))) (pgs_cons (pg_sub (pv 0) pe_str (set_key (hu_of hr))) pgs_nil))))) pss_nil))))) pss_nil)
      (pss_consL (ps_if (PW.pt (pw_and (pt_cmpR op_gt (pe_kget (hu_of hr) (pv 0) pe_str (fun _ _ => rfl)) pe_int (nomark _)) (pw_and1 (pt_cmpR op_gt (pe_kget (hu_of hr) (pv 0) pe_str (fun _ _ => rfl)) pe_int (nomark _))))) (pss_consL (ps_set (i := 3) sc.nd rfl (Or.inl rfl) (pe_op op_mod (pe_kget (hu_of hr) (pv 0) pe_str (fun _ _ => rfl)) (pv 1)))
      (pss_consL (ps_asg (pe_op op_fdiv (pe_kget (hu_of hr) (pv 0) pe_str (fun _ _ => rfl)) (pv 1)) (pg_sub (pv 0) pe_str (set_key (hu_of hr))))
      (pss_consL (ps_augS (pv 0) pe_str (get_key (hu_of hr)) pe_int ip_sub (set_key (hu_of hr)))
      (pss_one (ps_ret (pv 3)))))) pss_nil)
      (pss_consL (ps_asg pe_int (pg_sub (pv 0) pe_str (set_key (hu_of hr))))
      (pss_consL (ps_asg (pe_cal c__law_wound hr (pa_cns (pe_kget (hu_of hr) (pv 0) pe_str (fun _ _ => rfl)) (pa_cns (pe_kget (hu_of hr) (pv 0) pe_str (fun _ _ => rfl)) pa_nil))) (pg_sub (pv 0) pe_str (set_key (hu_of hr))))
      (pss_one (ps_ret (pe_op op_mod (pe_op op_fdiv (pe_cal c__law_wound hr (pa_cns (pe_kget (hu_of hr) (pv 0) pe_str (fun _ _ => rfl)) (pa_cns pe_int pa_nil))) pe_int) (pv 1)))))))), ?_⟩
    rw [show L2.start ["_law_spool_here", "_law_many", "_law_cell", "_law_drawn"] [.ref p, .int many] = [some (.ref p), some (.int many), none, none] from rfl]
    (try simp only [V.str.injEq, HO.dK.injEq, a_tAug, a_tDisp, a_prs0, a_prs, a_rGetK, a_rSetK, a_tAugS, a_ipI, a_tPar3, a_tListR, a_iS0, a_tPop0, a_tCalK, g3r_is, g2r_is, g2_is, g1_is, a_rNePP, a_iEnum, a_tSeqL, a_tChain, a_tDict, a_tLstA, a_rEqT, a_tIns, a_tRev, a_rSlA, a_rCatA, a_rCatL, a_tSeq, a_tFor, a_rIxL, a_iZip, a_tSortR, a_tSl, a_rSlL0, a_tNoPart, a_tPart, a_tApp, a_tRet, a_tRetN, a_tNext, a_tDrop, a_tAsg, a_gSub, a_gName, a_gNil, a_gCons, a_gTup0, a_rSetL, a_tIfS, a_tAnd, a_tOr, a_tNot, a_tTest, a_tB, a_tTrue, a_tIf, a_tAndV, a_tOrV, a_tNotV, a_tOp, a_tUn, a_rU, a_tVar, a_tC, a_rI0, a_rI, a_rEq, a_rNe, a_rIx0, a_rIn0, a_tCB, a_tCal, a_tCons, a_tNil, a_tTupA, a_tLst, a_tPar, a_tBits, a_tLC, a_iRng1, a_iRng2, a_iT0, a_iL0, a_tEmit, frS, scal, V.ty.injEq, tyN, subN, String.reduceEq, String.reduceBEq, Bool.true_or, Bool.false_or, Bool.or_false, Bool.true_and, Bool.false_and, Bool.and_false, or_true, true_or, beq_self_eq_true, decide_true, decide_false, List.map_cons, List.map_nil, List.length_cons, List.length_nil, List.getElem?_cons_zero, List.getElem?_cons_succ, List.getElem?_nil, List.set_cons_zero, List.set_cons_succ, Option.some.injEq, Option.bind_some, Option.bind_none, id, exists_eq_left', exists_eq_left, exists_and_left, exists_eq_right, V.int.injEq, V.bl.injEq, V.ref.injEq, List.cons.injEq, and_true, true_and, and_assoc, exists_const, atI0, atI1, atI2, ixN30, ixN31, ixN32, upd_same, upd_upd, sq_updL, sq_updT, Nat.zero_add, Nat.reduceAdd, reduceCtorEq, false_and, and_false, exists_false, false_or, or_false, List.length_map, HO.lst.injEq, HO.tup.injEq, Bool.false_eq_true, if_false, if_true, decide_eq_true_eq, ite_true, ite_false, reduceIte, Int.reduceLT, Int.reduceLE, Nat.reduceLT, Int.zero_add, Bool.not_true, Bool.not_false, hp, vk_cells, vk_at, vk_great, vk_left, vk_many, vk_mixed, pk_at, pk_great, pk_left, pk_many, pk_mixed, sdl_len])
    have VK : True := trivial
    (simp only [a_later])
    have hl1 : upd H p (HO.dK (sdl l a g f' (m + 1) x)) l = some (.lst (ns.map V.int)) := by rw [upd_ne nlp]; exact hl
    have hs1 := sq_lst hl1
    (try simp only [V.str.injEq, HO.dK.injEq, a_tAug, a_tDisp, a_prs0, a_prs, a_rGetK, a_rSetK, a_tAugS, a_ipI, a_tPar3, a_tListR, a_iS0, a_tPop0, a_tCalK, g3r_is, g2r_is, g2_is, g1_is, a_rNePP, a_iEnum, a_tSeqL, a_tChain, a_tDict, a_tLstA, a_rEqT, a_tIns, a_tRev, a_rSlA, a_rCatA, a_rCatL, a_tSeq, a_tFor, a_rIxL, a_iZip, a_tSortR, a_tSl, a_rSlL0, a_tNoPart, a_tPart, a_tApp, a_tRet, a_tRetN, a_tNext, a_tDrop, a_tAsg, a_gSub, a_gName, a_gNil, a_gCons, a_gTup0, a_rSetL, a_tIfS, a_tAnd, a_tOr, a_tNot, a_tTest, a_tB, a_tTrue, a_tIf, a_tAndV, a_tOrV, a_tNotV, a_tOp, a_tUn, a_rU, a_tVar, a_tC, a_rI0, a_rI, a_rEq, a_rNe, a_rIx0, a_rIn0, a_tCB, a_tCal, a_tCons, a_tNil, a_tTupA, a_tLst, a_tPar, a_tBits, a_tLC, a_iRng1, a_iRng2, a_iT0, a_iL0, a_tEmit, frS, scal, V.ty.injEq, tyN, subN, String.reduceEq, String.reduceBEq, Bool.true_or, Bool.false_or, Bool.or_false, Bool.true_and, Bool.false_and, Bool.and_false, or_true, true_or, beq_self_eq_true, decide_true, decide_false, List.map_cons, List.map_nil, List.length_cons, List.length_nil, List.getElem?_cons_zero, List.getElem?_cons_succ, List.getElem?_nil, List.set_cons_zero, List.set_cons_succ, Option.some.injEq, Option.bind_some, Option.bind_none, id, exists_eq_left', exists_eq_left, exists_and_left, exists_eq_right, V.int.injEq, V.bl.injEq, V.ref.injEq, List.cons.injEq, and_true, true_and, and_assoc, exists_const, atI0, atI1, atI2, ixN30, ixN31, ixN32, upd_same, upd_upd, sq_updL, sq_updT, Nat.zero_add, Nat.reduceAdd, reduceCtorEq, false_and, and_false, exists_false, false_or, or_false, List.length_map, HO.lst.injEq, HO.tup.injEq, Bool.false_eq_true, if_false, if_true, decide_eq_true_eq, ite_true, ite_false, reduceIte, Int.reduceLT, Int.reduceLE, Nat.reduceLT, Int.zero_add, Bool.not_true, Bool.not_false, hs1, vk_cells, vk_at, vk_great, vk_left, vk_many, vk_mixed, pk_at, pk_great, pk_left, pk_many, pk_mixed, sdl_len])
    have fin : ∀ (G : Hp) (z a' g' f'' m' x' : Int), SameX p H G → G l = some (.lst (ns.map V.int)) → 0 ≤ a' → Q (V.int (z % many)) (upd G p (HO.dK (sdl l a' g' f'' m' x'))) := fun G z a' g' f'' m' x' sx hg ha => q _ _ (Int.emod_nonneg _ (by omega)) (Int.emod_lt_of_pos _ h1) ⟨ns, a', g', f'', m', x', upd_same, by rw [upd_ne nlp]; exact hg, nlp, ha⟩ (sx.trans SameX.upd)
    have SX0 : SameX p H H := SameX.refl
    by_cases c1 : f' = 0
    · rw [if_pos c1]
      by_cases c2 : a < (ns.length : Int)
      · rw [if_pos c2]
        obtain ⟨an, rfl⟩ := Int.eq_ofNat_of_zero_le a0
        refine ⟨_, at_int (ns := ns) (n := an) (by omega), ?_⟩
        (simp only [a_later])
        (try simp only [V.str.injEq, HO.dK.injEq, a_tAug, a_tDisp, a_prs0, a_prs, a_rGetK, a_rSetK, a_tAugS, a_ipI, a_tPar3, a_tListR, a_iS0, a_tPop0, a_tCalK, g3r_is, g2r_is, g2_is, g1_is, a_rNePP, a_iEnum, a_tSeqL, a_tChain, a_tDict, a_tLstA, a_rEqT, a_tIns, a_tRev, a_rSlA, a_rCatA, a_rCatL, a_tSeq, a_tFor, a_rIxL, a_iZip, a_tSortR, a_tSl, a_rSlL0, a_tNoPart, a_tPart, a_tApp, a_tRet, a_tRetN, a_tNext, a_tDrop, a_tAsg, a_gSub, a_gName, a_gNil, a_gCons, a_gTup0, a_rSetL, a_tIfS, a_tAnd, a_tOr, a_tNot, a_tTest, a_tB, a_tTrue, a_tIf, a_tAndV, a_tOrV, a_tNotV, a_tOp, a_tUn, a_rU, a_tVar, a_tC, a_rI0, a_rI, a_rEq, a_rNe, a_rIx0, a_rIn0, a_tCB, a_tCal, a_tCons, a_tNil, a_tTupA, a_tLst, a_tPar, a_tBits, a_tLC, a_iRng1, a_iRng2, a_iT0, a_iL0, a_tEmit, frS, scal, V.ty.injEq, tyN, subN, String.reduceEq, String.reduceBEq, Bool.true_or, Bool.false_or, Bool.or_false, Bool.true_and, Bool.false_and, Bool.and_false, or_true, true_or, beq_self_eq_true, decide_true, decide_false, List.map_cons, List.map_nil, List.length_cons, List.length_nil, List.getElem?_cons_zero, List.getElem?_cons_succ, List.getElem?_nil, List.set_cons_zero, List.set_cons_succ, Option.some.injEq, Option.bind_some, Option.bind_none, id, exists_eq_left', exists_eq_left, exists_and_left, exists_eq_right, V.int.injEq, V.bl.injEq, V.ref.injEq, List.cons.injEq, and_true, true_and, and_assoc, exists_const, atI0, atI1, atI2, ixN30, ixN31, ixN32, upd_same, upd_upd, sq_updL, sq_updT, Nat.zero_add, Nat.reduceAdd, reduceCtorEq, false_and, and_false, exists_false, false_or, or_false, List.length_map, HO.lst.injEq, HO.tup.injEq, Bool.false_eq_true, if_false, if_true, decide_eq_true_eq, ite_true, ite_false, reduceIte, Int.reduceLT, Int.reduceLE, Nat.reduceLT, Int.zero_add, Bool.not_true, Bool.not_false, vk_cells, vk_at, vk_great, vk_left, vk_many, vk_mixed, pk_at, pk_great, pk_left, pk_many, pk_mixed, sdl_len])
        (simp only [a_later])
        (try simp only [V.str.injEq, HO.dK.injEq, a_tAug, a_tDisp, a_prs0, a_prs, a_rGetK, a_rSetK, a_tAugS, a_ipI, a_tPar3, a_tListR, a_iS0, a_tPop0, a_tCalK, g3r_is, g2r_is, g2_is, g1_is, a_rNePP, a_iEnum, a_tSeqL, a_tChain, a_tDict, a_tLstA, a_rEqT, a_tIns, a_tRev, a_rSlA, a_rCatA, a_rCatL, a_tSeq, a_tFor, a_rIxL, a_iZip, a_tSortR, a_tSl, a_rSlL0, a_tNoPart, a_tPart, a_tApp, a_tRet, a_tRetN, a_tNext, a_tDrop, a_tAsg, a_gSub, a_gName, a_gNil, a_gCons, a_gTup0, a_rSetL, a_tIfS, a_tAnd, a_tOr, a_tNot, a_tTest, a_tB, a_tTrue, a_tIf, a_tAndV, a_tOrV, a_tNotV, a_tOp, a_tUn, a_rU, a_tVar, a_tC, a_rI0, a_rI, a_rEq, a_rNe, a_rIx0, a_rIn0, a_tCB, a_tCal, a_tCons, a_tNil, a_tTupA, a_tLst, a_tPar, a_tBits, a_tLC, a_iRng1, a_iRng2, a_iT0, a_iL0, a_tEmit, frS, scal, V.ty.injEq, tyN, subN, String.reduceEq, String.reduceBEq, Bool.true_or, Bool.false_or, Bool.or_false, Bool.true_and, Bool.false_and, Bool.and_false, or_true, true_or, beq_self_eq_true, decide_true, decide_false, List.map_cons, List.map_nil, List.length_cons, List.length_nil, List.getElem?_cons_zero, List.getElem?_cons_succ, List.getElem?_nil, List.set_cons_zero, List.set_cons_succ, Option.some.injEq, Option.bind_some, Option.bind_none, id, exists_eq_left', exists_eq_left, exists_and_left, exists_eq_right, V.int.injEq, V.bl.injEq, V.ref.injEq, List.cons.injEq, and_true, true_and, and_assoc, exists_const, atI0, atI1, atI2, ixN30, ixN31, ixN32, upd_same, upd_upd, sq_updL, sq_updT, Nat.zero_add, Nat.reduceAdd, reduceCtorEq, false_and, and_false, exists_false, false_or, or_false, List.length_map, HO.lst.injEq, HO.tup.injEq, Bool.false_eq_true, if_false, if_true, decide_eq_true_eq, ite_true, ite_false, reduceIte, Int.reduceLT, Int.reduceLE, Nat.reduceLT, Int.zero_add, Bool.not_true, Bool.not_false, vk_cells, vk_at, vk_great, vk_left, vk_many, vk_mixed, pk_at, pk_great, pk_left, pk_many, pk_mixed, sdl_len])
        refine ⟨_, _, rfl, fun r r0 r1 => ?_⟩
        (try simp only [V.str.injEq, HO.dK.injEq, a_tAug, a_tDisp, a_prs0, a_prs, a_rGetK, a_rSetK, a_tAugS, a_ipI, a_tPar3, a_tListR, a_iS0, a_tPop0, a_tCalK, g3r_is, g2r_is, g2_is, g1_is, a_rNePP, a_iEnum, a_tSeqL, a_tChain, a_tDict, a_tLstA, a_rEqT, a_tIns, a_tRev, a_rSlA, a_rCatA, a_rCatL, a_tSeq, a_tFor, a_rIxL, a_iZip, a_tSortR, a_tSl, a_rSlL0, a_tNoPart, a_tPart, a_tApp, a_tRet, a_tRetN, a_tNext, a_tDrop, a_tAsg, a_gSub, a_gName, a_gNil, a_gCons, a_gTup0, a_rSetL, a_tIfS, a_tAnd, a_tOr, a_tNot, a_tTest, a_tB, a_tTrue, a_tIf, a_tAndV, a_tOrV, a_tNotV, a_tOp, a_tUn, a_rU, a_tVar, a_tC, a_rI0, a_rI, a_rEq, a_rNe, a_rIx0, a_rIn0, a_tCB, a_tCal, a_tCons, a_tNil, a_tTupA, a_tLst, a_tPar, a_tBits, a_tLC, a_iRng1, a_iRng2, a_iT0, a_iL0, a_tEmit, frS, scal, V.ty.injEq, tyN, subN, String.reduceEq, String.reduceBEq, Bool.true_or, Bool.false_or, Bool.or_false, Bool.true_and, Bool.false_and, Bool.and_false, or_true, true_or, beq_self_eq_true, decide_true, decide_false, List.map_cons, List.map_nil, List.length_cons, List.length_nil, List.getElem?_cons_zero, List.getElem?_cons_succ, List.getElem?_nil, List.set_cons_zero, List.set_cons_succ, Option.some.injEq, Option.bind_some, Option.bind_none, id, exists_eq_left', exists_eq_left, exists_and_left, exists_eq_right, V.int.injEq, V.bl.injEq, V.ref.injEq, List.cons.injEq, and_true, true_and, and_assoc, exists_const, atI0, atI1, atI2, ixN30, ixN31, ixN32, upd_same, upd_upd, sq_updL, sq_updT, Nat.zero_add, Nat.reduceAdd, reduceCtorEq, false_and, and_false, exists_false, false_or, or_false, List.length_map, HO.lst.injEq, HO.tup.injEq, Bool.false_eq_true, if_false, if_true, decide_eq_true_eq, ite_true, ite_false, reduceIte, Int.reduceLT, Int.reduceLE, Nat.reduceLT, Int.zero_add, Bool.not_true, Bool.not_false, vk_cells, vk_at, vk_great, vk_left, vk_many, vk_mixed, pk_at, pk_great, pk_left, pk_many, pk_mixed, sdl_len])
        (simp only [a_later])
        (try simp only [V.str.injEq, HO.dK.injEq, a_tAug, a_tDisp, a_prs0, a_prs, a_rGetK, a_rSetK, a_tAugS, a_ipI, a_tPar3, a_tListR, a_iS0, a_tPop0, a_tCalK, g3r_is, g2r_is, g2_is, g1_is, a_rNePP, a_iEnum, a_tSeqL, a_tChain, a_tDict, a_tLstA, a_rEqT, a_tIns, a_tRev, a_rSlA, a_rCatA, a_rCatL, a_tSeq, a_tFor, a_rIxL, a_iZip, a_tSortR, a_tSl, a_rSlL0, a_tNoPart, a_tPart, a_tApp, a_tRet, a_tRetN, a_tNext, a_tDrop, a_tAsg, a_gSub, a_gName, a_gNil, a_gCons, a_gTup0, a_rSetL, a_tIfS, a_tAnd, a_tOr, a_tNot, a_tTest, a_tB, a_tTrue, a_tIf, a_tAndV, a_tOrV, a_tNotV, a_tOp, a_tUn, a_rU, a_tVar, a_tC, a_rI0, a_rI, a_rEq, a_rNe, a_rIx0, a_rIn0, a_tCB, a_tCal, a_tCons, a_tNil, a_tTupA, a_tLst, a_tPar, a_tBits, a_tLC, a_iRng1, a_iRng2, a_iT0, a_iL0, a_tEmit, frS, scal, V.ty.injEq, tyN, subN, String.reduceEq, String.reduceBEq, Bool.true_or, Bool.false_or, Bool.or_false, Bool.true_and, Bool.false_and, Bool.and_false, or_true, true_or, beq_self_eq_true, decide_true, decide_false, List.map_cons, List.map_nil, List.length_cons, List.length_nil, List.getElem?_cons_zero, List.getElem?_cons_succ, List.getElem?_nil, List.set_cons_zero, List.set_cons_succ, Option.some.injEq, Option.bind_some, Option.bind_none, id, exists_eq_left', exists_eq_left, exists_and_left, exists_eq_right, V.int.injEq, V.bl.injEq, V.ref.injEq, List.cons.injEq, and_true, true_and, and_assoc, exists_const, atI0, atI1, atI2, ixN30, ixN31, ixN32, upd_same, upd_upd, sq_updL, sq_updT, Nat.zero_add, Nat.reduceAdd, reduceCtorEq, false_and, and_false, exists_false, false_or, or_false, List.length_map, HO.lst.injEq, HO.tup.injEq, Bool.false_eq_true, if_false, if_true, decide_eq_true_eq, ite_true, ite_false, reduceIte, Int.reduceLT, Int.reduceLE, Nat.reduceLT, Int.zero_add, Bool.not_true, Bool.not_false, vk_cells, vk_at, vk_great, vk_left, vk_many, vk_mixed, pk_at, pk_great, pk_left, pk_many, pk_mixed, sdl_len])
        refine ⟨⟨by decide, by decide, by decide⟩, ?_⟩
        split
        · refine ⟨⟨by decide, by decide, by decide⟩, ⟨by decide, by decide, by decide⟩, by unfold IntMulOk; decide +kernel, by decide +kernel, by decide, fun tt G nt st et => ?_⟩
          have ep : G p = some (.dK (sdl l ((an : Int) + 1) g f' (m + 1) r)) := st _ _ upd_same
          have sxG : SameX p H G := SameX.upd.trans st.x
          have hlG : G l = some (.lst (ns.map V.int)) := st _ _ (by rw [upd_ne nlp]; exact hl)
          (try simp only [V.str.injEq, HO.dK.injEq, a_tAug, a_tDisp, a_prs0, a_prs, a_rGetK, a_rSetK, a_tAugS, a_ipI, a_tPar3, a_tListR, a_iS0, a_tPop0, a_tCalK, g3r_is, g2r_is, g2_is, g1_is, a_rNePP, a_iEnum, a_tSeqL, a_tChain, a_tDict, a_tLstA, a_rEqT, a_tIns, a_tRev, a_rSlA, a_rCatA, a_rCatL, a_tSeq, a_tFor, a_rIxL, a_iZip, a_tSortR, a_tSl, a_rSlL0, a_tNoPart, a_tPart, a_tApp, a_tRet, a_tRetN, a_tNext, a_tDrop, a_tAsg, a_gSub, a_gName, a_gNil, a_gCons, a_gTup0, a_rSetL, a_tIfS, a_tAnd, a_tOr, a_tNot, a_tTest, a_tB, a_tTrue, a_tIf, a_tAndV, a_tOrV, a_tNotV, a_tOp, a_tUn, a_rU, a_tVar, a_tC, a_rI0, a_rI, a_rEq, a_rNe, a_rIx0, a_rIn0, a_tCB, a_tCal, a_tCons, a_tNil, a_tTupA, a_tLst, a_tPar, a_tBits, a_tLC, a_iRng1, a_iRng2, a_iT0, a_iL0, a_tEmit, frS, scal, V.ty.injEq, tyN, subN, String.reduceEq, String.reduceBEq, Bool.true_or, Bool.false_or, Bool.or_false, Bool.true_and, Bool.false_and, Bool.and_false, or_true, true_or, beq_self_eq_true, decide_true, decide_false, List.map_cons, List.map_nil, List.length_cons, List.length_nil, List.getElem?_cons_zero, List.getElem?_cons_succ, List.getElem?_nil, List.set_cons_zero, List.set_cons_succ, Option.some.injEq, Option.bind_some, Option.bind_none, id, exists_eq_left', exists_eq_left, exists_and_left, exists_eq_right, V.int.injEq, V.bl.injEq, V.ref.injEq, List.cons.injEq, and_true, true_and, and_assoc, exists_const, atI0, atI1, atI2, ixN30, ixN31, ixN32, upd_same, upd_upd, sq_updL, sq_updT, Nat.zero_add, Nat.reduceAdd, reduceCtorEq, false_and, and_false, exists_false, false_or, or_false, List.length_map, HO.lst.injEq, HO.tup.injEq, Bool.false_eq_true, if_false, if_true, decide_eq_true_eq, ite_true, ite_false, reduceIte, Int.reduceLT, Int.reduceLE, Nat.reduceLT, Int.zero_add, Bool.not_true, Bool.not_false, et, ep, vk_cells, vk_at, vk_great, vk_left, vk_many, vk_mixed, pk_at, pk_great, pk_left, pk_many, pk_mixed, sdl_len])
          (simp only [a_later])
          (try simp only [V.str.injEq, HO.dK.injEq, a_tAug, a_tDisp, a_prs0, a_prs, a_rGetK, a_rSetK, a_tAugS, a_ipI, a_tPar3, a_tListR, a_iS0, a_tPop0, a_tCalK, g3r_is, g2r_is, g2_is, g1_is, a_rNePP, a_iEnum, a_tSeqL, a_tChain, a_tDict, a_tLstA, a_rEqT, a_tIns, a_tRev, a_rSlA, a_rCatA, a_rCatL, a_tSeq, a_tFor, a_rIxL, a_iZip, a_tSortR, a_tSl, a_rSlL0, a_tNoPart, a_tPart, a_tApp, a_tRet, a_tRetN, a_tNext, a_tDrop, a_tAsg, a_gSub, a_gName, a_gNil, a_gCons, a_gTup0, a_rSetL, a_tIfS, a_tAnd, a_tOr, a_tNot, a_tTest, a_tB, a_tTrue, a_tIf, a_tAndV, a_tOrV, a_tNotV, a_tOp, a_tUn, a_rU, a_tVar, a_tC, a_rI0, a_rI, a_rEq, a_rNe, a_rIx0, a_rIn0, a_tCB, a_tCal, a_tCons, a_tNil, a_tTupA, a_tLst, a_tPar, a_tBits, a_tLC, a_iRng1, a_iRng2, a_iT0, a_iL0, a_tEmit, frS, scal, V.ty.injEq, tyN, subN, String.reduceEq, String.reduceBEq, Bool.true_or, Bool.false_or, Bool.or_false, Bool.true_and, Bool.false_and, Bool.and_false, or_true, true_or, beq_self_eq_true, decide_true, decide_false, List.map_cons, List.map_nil, List.length_cons, List.length_nil, List.getElem?_cons_zero, List.getElem?_cons_succ, List.getElem?_nil, List.set_cons_zero, List.set_cons_succ, Option.some.injEq, Option.bind_some, Option.bind_none, id, exists_eq_left', exists_eq_left, exists_and_left, exists_eq_right, V.int.injEq, V.bl.injEq, V.ref.injEq, List.cons.injEq, and_true, true_and, and_assoc, exists_const, atI0, atI1, atI2, ixN30, ixN31, ixN32, upd_same, upd_upd, sq_updL, sq_updT, Nat.zero_add, Nat.reduceAdd, reduceCtorEq, false_and, and_false, exists_false, false_or, or_false, List.length_map, HO.lst.injEq, HO.tup.injEq, Bool.false_eq_true, if_false, if_true, decide_eq_true_eq, ite_true, ite_false, reduceIte, Int.reduceLT, Int.reduceLE, Nat.reduceLT, Int.zero_add, Bool.not_true, Bool.not_false, vk_cells, vk_at, vk_great, vk_left, vk_many, vk_mixed, pk_at, pk_great, pk_left, pk_many, pk_mixed, sdl_len])
          split
          · refine ⟨h1, ?_⟩
            (simp only [a_later])
            (try simp only [V.str.injEq, HO.dK.injEq, a_tAug, a_tDisp, a_prs0, a_prs, a_rGetK, a_rSetK, a_tAugS, a_ipI, a_tPar3, a_tListR, a_iS0, a_tPop0, a_tCalK, g3r_is, g2r_is, g2_is, g1_is, a_rNePP, a_iEnum, a_tSeqL, a_tChain, a_tDict, a_tLstA, a_rEqT, a_tIns, a_tRev, a_rSlA, a_rCatA, a_rCatL, a_tSeq, a_tFor, a_rIxL, a_iZip, a_tSortR, a_tSl, a_rSlL0, a_tNoPart, a_tPart, a_tApp, a_tRet, a_tRetN, a_tNext, a_tDrop, a_tAsg, a_gSub, a_gName, a_gNil, a_gCons, a_gTup0, a_rSetL, a_tIfS, a_tAnd, a_tOr, a_tNot, a_tTest, a_tB, a_tTrue, a_tIf, a_tAndV, a_tOrV, a_tNotV, a_tOp, a_tUn, a_rU, a_tVar, a_tC, a_rI0, a_rI, a_rEq, a_rNe, a_rIx0, a_rIn0, a_tCB, a_tCal, a_tCons, a_tNil, a_tTupA, a_tLst, a_tPar, a_tBits, a_tLC, a_iRng1, a_iRng2, a_iT0, a_iL0, a_tEmit, frS, scal, V.ty.injEq, tyN, subN, String.reduceEq, String.reduceBEq, Bool.true_or, Bool.false_or, Bool.or_false, Bool.true_and, Bool.false_and, Bool.and_false, or_true, true_or, beq_self_eq_true, decide_true, decide_false, List.map_cons, List.map_nil, List.length_cons, List.length_nil, List.getElem?_cons_zero, List.getElem?_cons_succ, List.getElem?_nil, List.set_cons_zero, List.set_cons_succ, Option.some.injEq, Option.bind_some, Option.bind_none, id, exists_eq_left', exists_eq_left, exists_and_left, exists_eq_right, V.int.injEq, V.bl.injEq, V.ref.injEq, List.cons.injEq, and_true, true_and, and_assoc, exists_const, atI0, atI1, atI2, ixN30, ixN31, ixN32, upd_same, upd_upd, sq_updL, sq_updT, Nat.zero_add, Nat.reduceAdd, reduceCtorEq, false_and, and_false, exists_false, false_or, or_false, List.length_map, HO.lst.injEq, HO.tup.injEq, Bool.false_eq_true, if_false, if_true, decide_eq_true_eq, ite_true, ite_false, reduceIte, Int.reduceLT, Int.reduceLE, Nat.reduceLT, Int.zero_add, Bool.not_true, Bool.not_false, vk_cells, vk_at, vk_great, vk_left, vk_many, vk_mixed, pk_at, pk_great, pk_left, pk_many, pk_mixed, sdl_len])
            refine ⟨⟨h1, h2⟩, ?_⟩
            (simp only [a_later])
            (try simp only [V.str.injEq, HO.dK.injEq, a_tAug, a_tDisp, a_prs0, a_prs, a_rGetK, a_rSetK, a_tAugS, a_ipI, a_tPar3, a_tListR, a_iS0, a_tPop0, a_tCalK, g3r_is, g2r_is, g2_is, g1_is, a_rNePP, a_iEnum, a_tSeqL, a_tChain, a_tDict, a_tLstA, a_rEqT, a_tIns, a_tRev, a_rSlA, a_rCatA, a_rCatL, a_tSeq, a_tFor, a_rIxL, a_iZip, a_tSortR, a_tSl, a_rSlL0, a_tNoPart, a_tPart, a_tApp, a_tRet, a_tRetN, a_tNext, a_tDrop, a_tAsg, a_gSub, a_gName, a_gNil, a_gCons, a_gTup0, a_rSetL, a_tIfS, a_tAnd, a_tOr, a_tNot, a_tTest, a_tB, a_tTrue, a_tIf, a_tAndV, a_tOrV, a_tNotV, a_tOp, a_tUn, a_rU, a_tVar, a_tC, a_rI0, a_rI, a_rEq, a_rNe, a_rIx0, a_rIn0, a_tCB, a_tCal, a_tCons, a_tNil, a_tTupA, a_tLst, a_tPar, a_tBits, a_tLC, a_iRng1, a_iRng2, a_iT0, a_iL0, a_tEmit, frS, scal, V.ty.injEq, tyN, subN, String.reduceEq, String.reduceBEq, Bool.true_or, Bool.false_or, Bool.or_false, Bool.true_and, Bool.false_and, Bool.and_false, or_true, true_or, beq_self_eq_true, decide_true, decide_false, List.map_cons, List.map_nil, List.length_cons, List.length_nil, List.getElem?_cons_zero, List.getElem?_cons_succ, List.getElem?_nil, List.set_cons_zero, List.set_cons_succ, Option.some.injEq, Option.bind_some, Option.bind_none, id, exists_eq_left', exists_eq_left, exists_and_left, exists_eq_right, V.int.injEq, V.bl.injEq, V.ref.injEq, List.cons.injEq, and_true, true_and, and_assoc, exists_const, atI0, atI1, atI2, ixN30, ixN31, ixN32, upd_same, upd_upd, sq_updL, sq_updT, Nat.zero_add, Nat.reduceAdd, reduceCtorEq, false_and, and_false, exists_false, false_or, or_false, List.length_map, HO.lst.injEq, HO.tup.injEq, Bool.false_eq_true, if_false, if_true, decide_eq_true_eq, ite_true, ite_false, reduceIte, Int.reduceLT, Int.reduceLE, Nat.reduceLT, Int.zero_add, Bool.not_true, Bool.not_false, vk_cells, vk_at, vk_great, vk_left, vk_many, vk_mixed, pk_at, pk_great, pk_left, pk_many, pk_mixed, sdl_len])
            (simp only [a_later])
            (try simp only [V.str.injEq, HO.dK.injEq, a_tAug, a_tDisp, a_prs0, a_prs, a_rGetK, a_rSetK, a_tAugS, a_ipI, a_tPar3, a_tListR, a_iS0, a_tPop0, a_tCalK, g3r_is, g2r_is, g2_is, g1_is, a_rNePP, a_iEnum, a_tSeqL, a_tChain, a_tDict, a_tLstA, a_rEqT, a_tIns, a_tRev, a_rSlA, a_rCatA, a_rCatL, a_tSeq, a_tFor, a_rIxL, a_iZip, a_tSortR, a_tSl, a_rSlL0, a_tNoPart, a_tPart, a_tApp, a_tRet, a_tRetN, a_tNext, a_tDrop, a_tAsg, a_gSub, a_gName, a_gNil, a_gCons, a_gTup0, a_rSetL, a_tIfS, a_tAnd, a_tOr, a_tNot, a_tTest, a_tB, a_tTrue, a_tIf, a_tAndV, a_tOrV, a_tNotV, a_tOp, a_tUn, a_rU, a_tVar, a_tC, a_rI0, a_rI, a_rEq, a_rNe, a_rIx0, a_rIn0, a_tCB, a_tCal, a_tCons, a_tNil, a_tTupA, a_tLst, a_tPar, a_tBits, a_tLC, a_iRng1, a_iRng2, a_iT0, a_iL0, a_tEmit, frS, scal, V.ty.injEq, tyN, subN, String.reduceEq, String.reduceBEq, Bool.true_or, Bool.false_or, Bool.or_false, Bool.true_and, Bool.false_and, Bool.and_false, or_true, true_or, beq_self_eq_true, decide_true, decide_false, List.map_cons, List.map_nil, List.length_cons, List.length_nil, List.getElem?_cons_zero, List.getElem?_cons_succ, List.getElem?_nil, List.set_cons_zero, List.set_cons_succ, Option.some.injEq, Option.bind_some, Option.bind_none, id, exists_eq_left', exists_eq_left, exists_and_left, exists_eq_right, V.int.injEq, V.bl.injEq, V.ref.injEq, List.cons.injEq, and_true, true_and, and_assoc, exists_const, atI0, atI1, atI2, ixN30, ixN31, ixN32, upd_same, upd_upd, sq_updL, sq_updT, Nat.zero_add, Nat.reduceAdd, reduceCtorEq, false_and, and_false, exists_false, false_or, or_false, List.length_map, HO.lst.injEq, HO.tup.injEq, Bool.false_eq_true, if_false, if_true, decide_eq_true_eq, ite_true, ite_false, reduceIte, Int.reduceLT, Int.reduceLE, Nat.reduceLT, Int.zero_add, Bool.not_true, Bool.not_false, vk_cells, vk_at, vk_great, vk_left, vk_many, vk_mixed, pk_at, pk_great, pk_left, pk_many, pk_mixed, sdl_len])
            exact fin _ _ _ _ _ _ _ sxG hlG (by omega)
          · (simp only [a_later])
            (try simp only [V.str.injEq, HO.dK.injEq, a_tAug, a_tDisp, a_prs0, a_prs, a_rGetK, a_rSetK, a_tAugS, a_ipI, a_tPar3, a_tListR, a_iS0, a_tPop0, a_tCalK, g3r_is, g2r_is, g2_is, g1_is, a_rNePP, a_iEnum, a_tSeqL, a_tChain, a_tDict, a_tLstA, a_rEqT, a_tIns, a_tRev, a_rSlA, a_rCatA, a_rCatL, a_tSeq, a_tFor, a_rIxL, a_iZip, a_tSortR, a_tSl, a_rSlL0, a_tNoPart, a_tPart, a_tApp, a_tRet, a_tRetN, a_tNext, a_tDrop, a_tAsg, a_gSub, a_gName, a_gNil, a_gCons, a_gTup0, a_rSetL, a_tIfS, a_tAnd, a_tOr, a_tNot, a_tTest, a_tB, a_tTrue, a_tIf, a_tAndV, a_tOrV, a_tNotV, a_tOp, a_tUn, a_rU, a_tVar, a_tC, a_rI0, a_rI, a_rEq, a_rNe, a_rIx0, a_rIn0, a_tCB, a_tCal, a_tCons, a_tNil, a_tTupA, a_tLst, a_tPar, a_tBits, a_tLC, a_iRng1, a_iRng2, a_iT0, a_iL0, a_tEmit, frS, scal, V.ty.injEq, tyN, subN, String.reduceEq, String.reduceBEq, Bool.true_or, Bool.false_or, Bool.or_false, Bool.true_and, Bool.false_and, Bool.and_false, or_true, true_or, beq_self_eq_true, decide_true, decide_false, List.map_cons, List.map_nil, List.length_cons, List.length_nil, List.getElem?_cons_zero, List.getElem?_cons_succ, List.getElem?_nil, List.set_cons_zero, List.set_cons_succ, Option.some.injEq, Option.bind_some, Option.bind_none, id, exists_eq_left', exists_eq_left, exists_and_left, exists_eq_right, V.int.injEq, V.bl.injEq, V.ref.injEq, List.cons.injEq, and_true, true_and, and_assoc, exists_const, atI0, atI1, atI2, ixN30, ixN31, ixN32, upd_same, upd_upd, sq_updL, sq_updT, Nat.zero_add, Nat.reduceAdd, reduceCtorEq, false_and, and_false, exists_false, false_or, or_false, List.length_map, HO.lst.injEq, HO.tup.injEq, Bool.false_eq_true, if_false, if_true, decide_eq_true_eq, ite_true, ite_false, reduceIte, Int.reduceLT, Int.reduceLE, Nat.reduceLT, Int.zero_add, Bool.not_true, Bool.not_false, vk_cells, vk_at, vk_great, vk_left, vk_many, vk_mixed, pk_at, pk_great, pk_left, pk_many, pk_mixed, sdl_len])
            (simp only [a_later])
            (try simp only [V.str.injEq, HO.dK.injEq, a_tAug, a_tDisp, a_prs0, a_prs, a_rGetK, a_rSetK, a_tAugS, a_ipI, a_tPar3, a_tListR, a_iS0, a_tPop0, a_tCalK, g3r_is, g2r_is, g2_is, g1_is, a_rNePP, a_iEnum, a_tSeqL, a_tChain, a_tDict, a_tLstA, a_rEqT, a_tIns, a_tRev, a_rSlA, a_rCatA, a_rCatL, a_tSeq, a_tFor, a_rIxL, a_iZip, a_tSortR, a_tSl, a_rSlL0, a_tNoPart, a_tPart, a_tApp, a_tRet, a_tRetN, a_tNext, a_tDrop, a_tAsg, a_gSub, a_gName, a_gNil, a_gCons, a_gTup0, a_rSetL, a_tIfS, a_tAnd, a_tOr, a_tNot, a_tTest, a_tB, a_tTrue, a_tIf, a_tAndV, a_tOrV, a_tNotV, a_tOp, a_tUn, a_rU, a_tVar, a_tC, a_rI0, a_rI, a_rEq, a_rNe, a_rIx0, a_rIn0, a_tCB, a_tCal, a_tCons, a_tNil, a_tTupA, a_tLst, a_tPar, a_tBits, a_tLC, a_iRng1, a_iRng2, a_iT0, a_iL0, a_tEmit, frS, scal, V.ty.injEq, tyN, subN, String.reduceEq, String.reduceBEq, Bool.true_or, Bool.false_or, Bool.or_false, Bool.true_and, Bool.false_and, Bool.and_false, or_true, true_or, beq_self_eq_true, decide_true, decide_false, List.map_cons, List.map_nil, List.length_cons, List.length_nil, List.getElem?_cons_zero, List.getElem?_cons_succ, List.getElem?_nil, List.set_cons_zero, List.set_cons_succ, Option.some.injEq, Option.bind_some, Option.bind_none, id, exists_eq_left', exists_eq_left, exists_and_left, exists_eq_right, V.int.injEq, V.bl.injEq, V.ref.injEq, List.cons.injEq, and_true, true_and, and_assoc, exists_const, atI0, atI1, atI2, ixN30, ixN31, ixN32, upd_same, upd_upd, sq_updL, sq_updT, Nat.zero_add, Nat.reduceAdd, reduceCtorEq, false_and, and_false, exists_false, false_or, or_false, List.length_map, HO.lst.injEq, HO.tup.injEq, Bool.false_eq_true, if_false, if_true, decide_eq_true_eq, ite_true, ite_false, reduceIte, Int.reduceLT, Int.reduceLE, Nat.reduceLT, Int.zero_add, Bool.not_true, Bool.not_false, vk_cells, vk_at, vk_great, vk_left, vk_many, vk_mixed, pk_at, pk_great, pk_left, pk_many, pk_mixed, sdl_len])
            refine ⟨_, _, rfl, fun y0 u0 u1 => ?_⟩
            (try simp only [V.str.injEq, HO.dK.injEq, a_tAug, a_tDisp, a_prs0, a_prs, a_rGetK, a_rSetK, a_tAugS, a_ipI, a_tPar3, a_tListR, a_iS0, a_tPop0, a_tCalK, g3r_is, g2r_is, g2_is, g1_is, a_rNePP, a_iEnum, a_tSeqL, a_tChain, a_tDict, a_tLstA, a_rEqT, a_tIns, a_tRev, a_rSlA, a_rCatA, a_rCatL, a_tSeq, a_tFor, a_rIxL, a_iZip, a_tSortR, a_tSl, a_rSlL0, a_tNoPart, a_tPart, a_tApp, a_tRet, a_tRetN, a_tNext, a_tDrop, a_tAsg, a_gSub, a_gName, a_gNil, a_gCons, a_gTup0, a_rSetL, a_tIfS, a_tAnd, a_tOr, a_tNot, a_tTest, a_tB, a_tTrue, a_tIf, a_tAndV, a_tOrV, a_tNotV, a_tOp, a_tUn, a_rU, a_tVar, a_tC, a_rI0, a_rI, a_rEq, a_rNe, a_rIx0, a_rIn0, a_tCB, a_tCal, a_tCons, a_tNil, a_tTupA, a_tLst, a_tPar, a_tBits, a_tLC, a_iRng1, a_iRng2, a_iT0, a_iL0, a_tEmit, frS, scal, V.ty.injEq, tyN, subN, String.reduceEq, String.reduceBEq, Bool.true_or, Bool.false_or, Bool.or_false, Bool.true_and, Bool.false_and, Bool.and_false, or_true, true_or, beq_self_eq_true, decide_true, decide_false, List.map_cons, List.map_nil, List.length_cons, List.length_nil, List.getElem?_cons_zero, List.getElem?_cons_succ, List.getElem?_nil, List.set_cons_zero, List.set_cons_succ, Option.some.injEq, Option.bind_some, Option.bind_none, id, exists_eq_left', exists_eq_left, exists_and_left, exists_eq_right, V.int.injEq, V.bl.injEq, V.ref.injEq, List.cons.injEq, and_true, true_and, and_assoc, exists_const, atI0, atI1, atI2, ixN30, ixN31, ixN32, upd_same, upd_upd, sq_updL, sq_updT, Nat.zero_add, Nat.reduceAdd, reduceCtorEq, false_and, and_false, exists_false, false_or, or_false, List.length_map, HO.lst.injEq, HO.tup.injEq, Bool.false_eq_true, if_false, if_true, decide_eq_true_eq, ite_true, ite_false, reduceIte, Int.reduceLT, Int.reduceLE, Nat.reduceLT, Int.zero_add, Bool.not_true, Bool.not_false, vk_cells, vk_at, vk_great, vk_left, vk_many, vk_mixed, pk_at, pk_great, pk_left, pk_many, pk_mixed, sdl_len])
            (simp only [a_later])
            (try simp only [V.str.injEq, HO.dK.injEq, a_tAug, a_tDisp, a_prs0, a_prs, a_rGetK, a_rSetK, a_tAugS, a_ipI, a_tPar3, a_tListR, a_iS0, a_tPop0, a_tCalK, g3r_is, g2r_is, g2_is, g1_is, a_rNePP, a_iEnum, a_tSeqL, a_tChain, a_tDict, a_tLstA, a_rEqT, a_tIns, a_tRev, a_rSlA, a_rCatA, a_rCatL, a_tSeq, a_tFor, a_rIxL, a_iZip, a_tSortR, a_tSl, a_rSlL0, a_tNoPart, a_tPart, a_tApp, a_tRet, a_tRetN, a_tNext, a_tDrop, a_tAsg, a_gSub, a_gName, a_gNil, a_gCons, a_gTup0, a_rSetL, a_tIfS, a_tAnd, a_tOr, a_tNot, a_tTest, a_tB, a_tTrue, a_tIf, a_tAndV, a_tOrV, a_tNotV, a_tOp, a_tUn, a_rU, a_tVar, a_tC, a_rI0, a_rI, a_rEq, a_rNe, a_rIx0, a_rIn0, a_tCB, a_tCal, a_tCons, a_tNil, a_tTupA, a_tLst, a_tPar, a_tBits, a_tLC, a_iRng1, a_iRng2, a_iT0, a_iL0, a_tEmit, frS, scal, V.ty.injEq, tyN, subN, String.reduceEq, String.reduceBEq, Bool.true_or, Bool.false_or, Bool.or_false, Bool.true_and, Bool.false_and, Bool.and_false, or_true, true_or, beq_self_eq_true, decide_true, decide_false, List.map_cons, List.map_nil, List.length_cons, List.length_nil, List.getElem?_cons_zero, List.getElem?_cons_succ, List.getElem?_nil, List.set_cons_zero, List.set_cons_succ, Option.some.injEq, Option.bind_some, Option.bind_none, id, exists_eq_left', exists_eq_left, exists_and_left, exists_eq_right, V.int.injEq, V.bl.injEq, V.ref.injEq, List.cons.injEq, and_true, true_and, and_assoc, exists_const, atI0, atI1, atI2, ixN30, ixN31, ixN32, upd_same, upd_upd, sq_updL, sq_updT, Nat.zero_add, Nat.reduceAdd, reduceCtorEq, false_and, and_false, exists_false, false_or, or_false, List.length_map, HO.lst.injEq, HO.tup.injEq, Bool.false_eq_true, if_false, if_true, decide_eq_true_eq, ite_true, ite_false, reduceIte, Int.reduceLT, Int.reduceLE, Nat.reduceLT, Int.zero_add, Bool.not_true, Bool.not_false, vk_cells, vk_at, vk_great, vk_left, vk_many, vk_mixed, pk_at, pk_great, pk_left, pk_many, pk_mixed, sdl_len])
            refine ⟨_, _, rfl, fun y1 u2 u3 => ?_⟩
            (try simp only [V.str.injEq, HO.dK.injEq, a_tAug, a_tDisp, a_prs0, a_prs, a_rGetK, a_rSetK, a_tAugS, a_ipI, a_tPar3, a_tListR, a_iS0, a_tPop0, a_tCalK, g3r_is, g2r_is, g2_is, g1_is, a_rNePP, a_iEnum, a_tSeqL, a_tChain, a_tDict, a_tLstA, a_rEqT, a_tIns, a_tRev, a_rSlA, a_rCatA, a_rCatL, a_tSeq, a_tFor, a_rIxL, a_iZip, a_tSortR, a_tSl, a_rSlL0, a_tNoPart, a_tPart, a_tApp, a_tRet, a_tRetN, a_tNext, a_tDrop, a_tAsg, a_gSub, a_gName, a_gNil, a_gCons, a_gTup0, a_rSetL, a_tIfS, a_tAnd, a_tOr, a_tNot, a_tTest, a_tB, a_tTrue, a_tIf, a_tAndV, a_tOrV, a_tNotV, a_tOp, a_tUn, a_rU, a_tVar, a_tC, a_rI0, a_rI, a_rEq, a_rNe, a_rIx0, a_rIn0, a_tCB, a_tCal, a_tCons, a_tNil, a_tTupA, a_tLst, a_tPar, a_tBits, a_tLC, a_iRng1, a_iRng2, a_iT0, a_iL0, a_tEmit, frS, scal, V.ty.injEq, tyN, subN, String.reduceEq, String.reduceBEq, Bool.true_or, Bool.false_or, Bool.or_false, Bool.true_and, Bool.false_and, Bool.and_false, or_true, true_or, beq_self_eq_true, decide_true, decide_false, List.map_cons, List.map_nil, List.length_cons, List.length_nil, List.getElem?_cons_zero, List.getElem?_cons_succ, List.getElem?_nil, List.set_cons_zero, List.set_cons_succ, Option.some.injEq, Option.bind_some, Option.bind_none, id, exists_eq_left', exists_eq_left, exists_and_left, exists_eq_right, V.int.injEq, V.bl.injEq, V.ref.injEq, List.cons.injEq, and_true, true_and, and_assoc, exists_const, atI0, atI1, atI2, ixN30, ixN31, ixN32, upd_same, upd_upd, sq_updL, sq_updT, Nat.zero_add, Nat.reduceAdd, reduceCtorEq, false_and, and_false, exists_false, false_or, or_false, List.length_map, HO.lst.injEq, HO.tup.injEq, Bool.false_eq_true, if_false, if_true, decide_eq_true_eq, ite_true, ite_false, reduceIte, Int.reduceLT, Int.reduceLE, Nat.reduceLT, Int.zero_add, Bool.not_true, Bool.not_false, vk_cells, vk_at, vk_great, vk_left, vk_many, vk_mixed, pk_at, pk_great, pk_left, pk_many, pk_mixed, sdl_len])
            exact ⟨⟨by decide, by decide⟩, h1, fin _ _ _ _ _ _ _ sxG hlG (by omega)⟩
        · have sxG := SX0
          have hlG := hl
          (simp only [a_later])
          (try simp only [V.str.injEq, HO.dK.injEq, a_tAug, a_tDisp, a_prs0, a_prs, a_rGetK, a_rSetK, a_tAugS, a_ipI, a_tPar3, a_tListR, a_iS0, a_tPop0, a_tCalK, g3r_is, g2r_is, g2_is, g1_is, a_rNePP, a_iEnum, a_tSeqL, a_tChain, a_tDict, a_tLstA, a_rEqT, a_tIns, a_tRev, a_rSlA, a_rCatA, a_rCatL, a_tSeq, a_tFor, a_rIxL, a_iZip, a_tSortR, a_tSl, a_rSlL0, a_tNoPart, a_tPart, a_tApp, a_tRet, a_tRetN, a_tNext, a_tDrop, a_tAsg, a_gSub, a_gName, a_gNil, a_gCons, a_gTup0, a_rSetL, a_tIfS, a_tAnd, a_tOr, a_tNot, a_tTest, a_tB, a_tTrue, a_tIf, a_tAndV, a_tOrV, a_tNotV, a_tOp, a_tUn, a_rU, a_tVar, a_tC, a_rI0, a_rI, a_rEq, a_rNe, a_rIx0, a_rIn0, a_tCB, a_tCal, a_tCons, a_tNil, a_tTupA, a_tLst, a_tPar, a_tBits, a_tLC, a_iRng1, a_iRng2, a_iT0, a_iL0, a_tEmit, frS, scal, V.ty.injEq, tyN, subN, String.reduceEq, String.reduceBEq, Bool.true_or, Bool.false_or, Bool.or_false, Bool.true_and, Bool.false_and, Bool.and_false, or_true, true_or, beq_self_eq_true, decide_true, decide_false, List.map_cons, List.map_nil, List.length_cons, List.length_nil, List.getElem?_cons_zero, List.getElem?_cons_succ, List.getElem?_nil, List.set_cons_zero, List.set_cons_succ, Option.some.injEq, Option.bind_some, Option.bind_none, id, exists_eq_left', exists_eq_left, exists_and_left, exists_eq_right, V.int.injEq, V.bl.injEq, V.ref.injEq, List.cons.injEq, and_true, true_and, and_assoc, exists_const, atI0, atI1, atI2, ixN30, ixN31, ixN32, upd_same, upd_upd, sq_updL, sq_updT, Nat.zero_add, Nat.reduceAdd, reduceCtorEq, false_and, and_false, exists_false, false_or, or_false, List.length_map, HO.lst.injEq, HO.tup.injEq, Bool.false_eq_true, if_false, if_true, decide_eq_true_eq, ite_true, ite_false, reduceIte, Int.reduceLT, Int.reduceLE, Nat.reduceLT, Int.zero_add, Bool.not_true, Bool.not_false, vk_cells, vk_at, vk_great, vk_left, vk_many, vk_mixed, pk_at, pk_great, pk_left, pk_many, pk_mixed, sdl_len])
          split
          · split
            · refine ⟨h1, ?_⟩
              (simp only [a_later])
              (try simp only [V.str.injEq, HO.dK.injEq, a_tAug, a_tDisp, a_prs0, a_prs, a_rGetK, a_rSetK, a_tAugS, a_ipI, a_tPar3, a_tListR, a_iS0, a_tPop0, a_tCalK, g3r_is, g2r_is, g2_is, g1_is, a_rNePP, a_iEnum, a_tSeqL, a_tChain, a_tDict, a_tLstA, a_rEqT, a_tIns, a_tRev, a_rSlA, a_rCatA, a_rCatL, a_tSeq, a_tFor, a_rIxL, a_iZip, a_tSortR, a_tSl, a_rSlL0, a_tNoPart, a_tPart, a_tApp, a_tRet, a_tRetN, a_tNext, a_tDrop, a_tAsg, a_gSub, a_gName, a_gNil, a_gCons, a_gTup0, a_rSetL, a_tIfS, a_tAnd, a_tOr, a_tNot, a_tTest, a_tB, a_tTrue, a_tIf, a_tAndV, a_tOrV, a_tNotV, a_tOp, a_tUn, a_rU, a_tVar, a_tC, a_rI0, a_rI, a_rEq, a_rNe, a_rIx0, a_rIn0, a_tCB, a_tCal, a_tCons, a_tNil, a_tTupA, a_tLst, a_tPar, a_tBits, a_tLC, a_iRng1, a_iRng2, a_iT0, a_iL0, a_tEmit, frS, scal, V.ty.injEq, tyN, subN, String.reduceEq, String.reduceBEq, Bool.true_or, Bool.false_or, Bool.or_false, Bool.true_and, Bool.false_and, Bool.and_false, or_true, true_or, beq_self_eq_true, decide_true, decide_false, List.map_cons, List.map_nil, List.length_cons, List.length_nil, List.getElem?_cons_zero, List.getElem?_cons_succ, List.getElem?_nil, List.set_cons_zero, List.set_cons_succ, Option.some.injEq, Option.bind_some, Option.bind_none, id, exists_eq_left', exists_eq_left, exists_and_left, exists_eq_right, V.int.injEq, V.bl.injEq, V.ref.injEq, List.cons.injEq, and_true, true_and, and_assoc, exists_const, atI0, atI1, atI2, ixN30, ixN31, ixN32, upd_same, upd_upd, sq_updL, sq_updT, Nat.zero_add, Nat.reduceAdd, reduceCtorEq, false_and, and_false, exists_false, false_or, or_false, List.length_map, HO.lst.injEq, HO.tup.injEq, Bool.false_eq_true, if_false, if_true, decide_eq_true_eq, ite_true, ite_false, reduceIte, Int.reduceLT, Int.reduceLE, Nat.reduceLT, Int.zero_add, Bool.not_true, Bool.not_false, vk_cells, vk_at, vk_great, vk_left, vk_many, vk_mixed, pk_at, pk_great, pk_left, pk_many, pk_mixed, sdl_len])
              refine ⟨⟨h1, h2⟩, ?_⟩
              (simp only [a_later])
              (try simp only [V.str.injEq, HO.dK.injEq, a_tAug, a_tDisp, a_prs0, a_prs, a_rGetK, a_rSetK, a_tAugS, a_ipI, a_tPar3, a_tListR, a_iS0, a_tPop0, a_tCalK, g3r_is, g2r_is, g2_is, g1_is, a_rNePP, a_iEnum, a_tSeqL, a_tChain, a_tDict, a_tLstA, a_rEqT, a_tIns, a_tRev, a_rSlA, a_rCatA, a_rCatL, a_tSeq, a_tFor, a_rIxL, a_iZip, a_tSortR, a_tSl, a_rSlL0, a_tNoPart, a_tPart, a_tApp, a_tRet, a_tRetN, a_tNext, a_tDrop, a_tAsg, a_gSub, a_gName, a_gNil, a_gCons, a_gTup0, a_rSetL, a_tIfS, a_tAnd, a_tOr, a_tNot, a_tTest, a_tB, a_tTrue, a_tIf, a_tAndV, a_tOrV, a_tNotV, a_tOp, a_tUn, a_rU, a_tVar, a_tC, a_rI0, a_rI, a_rEq, a_rNe, a_rIx0, a_rIn0, a_tCB, a_tCal, a_tCons, a_tNil, a_tTupA, a_tLst, a_tPar, a_tBits, a_tLC, a_iRng1, a_iRng2, a_iT0, a_iL0, a_tEmit, frS, scal, V.ty.injEq, tyN, subN, String.reduceEq, String.reduceBEq, Bool.true_or, Bool.false_or, Bool.or_false, Bool.true_and, Bool.false_and, Bool.and_false, or_true, true_or, beq_self_eq_true, decide_true, decide_false, List.map_cons, List.map_nil, List.length_cons, List.length_nil, List.getElem?_cons_zero, List.getElem?_cons_succ, List.getElem?_nil, List.set_cons_zero, List.set_cons_succ, Option.some.injEq, Option.bind_some, Option.bind_none, id, exists_eq_left', exists_eq_left, exists_and_left, exists_eq_right, V.int.injEq, V.bl.injEq, V.ref.injEq, List.cons.injEq, and_true, true_and, and_assoc, exists_const, atI0, atI1, atI2, ixN30, ixN31, ixN32, upd_same, upd_upd, sq_updL, sq_updT, Nat.zero_add, Nat.reduceAdd, reduceCtorEq, false_and, and_false, exists_false, false_or, or_false, List.length_map, HO.lst.injEq, HO.tup.injEq, Bool.false_eq_true, if_false, if_true, decide_eq_true_eq, ite_true, ite_false, reduceIte, Int.reduceLT, Int.reduceLE, Nat.reduceLT, Int.zero_add, Bool.not_true, Bool.not_false, vk_cells, vk_at, vk_great, vk_left, vk_many, vk_mixed, pk_at, pk_great, pk_left, pk_many, pk_mixed, sdl_len])
              (simp only [a_later])
              (try simp only [V.str.injEq, HO.dK.injEq, a_tAug, a_tDisp, a_prs0, a_prs, a_rGetK, a_rSetK, a_tAugS, a_ipI, a_tPar3, a_tListR, a_iS0, a_tPop0, a_tCalK, g3r_is, g2r_is, g2_is, g1_is, a_rNePP, a_iEnum, a_tSeqL, a_tChain, a_tDict, a_tLstA, a_rEqT, a_tIns, a_tRev, a_rSlA, a_rCatA, a_rCatL, a_tSeq, a_tFor, a_rIxL, a_iZip, a_tSortR, a_tSl, a_rSlL0, a_tNoPart, a_tPart, a_tApp, a_tRet, a_tRetN, a_tNext, a_tDrop, a_tAsg, a_gSub, a_gName, a_gNil, a_gCons, a_gTup0, a_rSetL, a_tIfS, a_tAnd, a_tOr, a_tNot, a_tTest, a_tB, a_tTrue, a_tIf, a_tAndV, a_tOrV, a_tNotV, a_tOp, a_tUn, a_rU, a_tVar, a_tC, a_rI0, a_rI, a_rEq, a_rNe, a_rIx0, a_rIn0, a_tCB, a_tCal, a_tCons, a_tNil, a_tTupA, a_tLst, a_tPar, a_tBits, a_tLC, a_iRng1, a_iRng2, a_iT0, a_iL0, a_tEmit, frS, scal, V.ty.injEq, tyN, subN, String.reduceEq, String.reduceBEq, Bool.true_or, Bool.false_or, Bool.or_false, Bool.true_and, Bool.false_and, Bool.and_false, or_true, true_or, beq_self_eq_true, decide_true, decide_false, List.map_cons, List.map_nil, List.length_cons, List.length_nil, List.getElem?_cons_zero, List.getElem?_cons_succ, List.getElem?_nil, List.set_cons_zero, List.set_cons_succ, Option.some.injEq, Option.bind_some, Option.bind_none, id, exists_eq_left', exists_eq_left, exists_and_left, exists_eq_right, V.int.injEq, V.bl.injEq, V.ref.injEq, List.cons.injEq, and_true, true_and, and_assoc, exists_const, atI0, atI1, atI2, ixN30, ixN31, ixN32, upd_same, upd_upd, sq_updL, sq_updT, Nat.zero_add, Nat.reduceAdd, reduceCtorEq, false_and, and_false, exists_false, false_or, or_false, List.length_map, HO.lst.injEq, HO.tup.injEq, Bool.false_eq_true, if_false, if_true, decide_eq_true_eq, ite_true, ite_false, reduceIte, Int.reduceLT, Int.reduceLE, Nat.reduceLT, Int.zero_add, Bool.not_true, Bool.not_false, vk_cells, vk_at, vk_great, vk_left, vk_many, vk_mixed, pk_at, pk_great, pk_left, pk_many, pk_mixed, sdl_len])
              exact fin _ _ _ _ _ _ _ sxG hlG (by omega)
            · (simp only [a_later])
              (try simp only [V.str.injEq, HO.dK.injEq, a_tAug, a_tDisp, a_prs0, a_prs, a_rGetK, a_rSetK, a_tAugS, a_ipI, a_tPar3, a_tListR, a_iS0, a_tPop0, a_tCalK, g3r_is, g2r_is, g2_is, g1_is, a_rNePP, a_iEnum, a_tSeqL, a_tChain, a_tDict, a_tLstA, a_rEqT, a_tIns, a_tRev, a_rSlA, a_rCatA, a_rCatL, a_tSeq, a_tFor, a_rIxL, a_iZip, a_tSortR, a_tSl, a_rSlL0, a_tNoPart, a_tPart, a_tApp, a_tRet, a_tRetN, a_tNext, a_tDrop, a_tAsg, a_gSub, a_gName, a_gNil, a_gCons, a_gTup0, a_rSetL, a_tIfS, a_tAnd, a_tOr, a_tNot, a_tTest, a_tB, a_tTrue, a_tIf, a_tAndV, a_tOrV, a_tNotV, a_tOp, a_tUn, a_rU, a_tVar, a_tC, a_rI0, a_rI, a_rEq, a_rNe, a_rIx0, a_rIn0, a_tCB, a_tCal, a_tCons, a_tNil, a_tTupA, a_tLst, a_tPar, a_tBits, a_tLC, a_iRng1, a_iRng2, a_iT0, a_iL0, a_tEmit, frS, scal, V.ty.injEq, tyN, subN, String.reduceEq, String.reduceBEq, Bool.true_or, Bool.false_or, Bool.or_false, Bool.true_and, Bool.false_and, Bool.and_false, or_true, true_or, beq_self_eq_true, decide_true, decide_false, List.map_cons, List.map_nil, List.length_cons, List.length_nil, List.getElem?_cons_zero, List.getElem?_cons_succ, List.getElem?_nil, List.set_cons_zero, List.set_cons_succ, Option.some.injEq, Option.bind_some, Option.bind_none, id, exists_eq_left', exists_eq_left, exists_and_left, exists_eq_right, V.int.injEq, V.bl.injEq, V.ref.injEq, List.cons.injEq, and_true, true_and, and_assoc, exists_const, atI0, atI1, atI2, ixN30, ixN31, ixN32, upd_same, upd_upd, sq_updL, sq_updT, Nat.zero_add, Nat.reduceAdd, reduceCtorEq, false_and, and_false, exists_false, false_or, or_false, List.length_map, HO.lst.injEq, HO.tup.injEq, Bool.false_eq_true, if_false, if_true, decide_eq_true_eq, ite_true, ite_false, reduceIte, Int.reduceLT, Int.reduceLE, Nat.reduceLT, Int.zero_add, Bool.not_true, Bool.not_false, vk_cells, vk_at, vk_great, vk_left, vk_many, vk_mixed, pk_at, pk_great, pk_left, pk_many, pk_mixed, sdl_len])
              (simp only [a_later])
              (try simp only [V.str.injEq, HO.dK.injEq, a_tAug, a_tDisp, a_prs0, a_prs, a_rGetK, a_rSetK, a_tAugS, a_ipI, a_tPar3, a_tListR, a_iS0, a_tPop0, a_tCalK, g3r_is, g2r_is, g2_is, g1_is, a_rNePP, a_iEnum, a_tSeqL, a_tChain, a_tDict, a_tLstA, a_rEqT, a_tIns, a_tRev, a_rSlA, a_rCatA, a_rCatL, a_tSeq, a_tFor, a_rIxL, a_iZip, a_tSortR, a_tSl, a_rSlL0, a_tNoPart, a_tPart, a_tApp, a_tRet, a_tRetN, a_tNext, a_tDrop, a_tAsg, a_gSub, a_gName, a_gNil, a_gCons, a_gTup0, a_rSetL, a_tIfS, a_tAnd, a_tOr, a_tNot, a_tTest, a_tB, a_tTrue, a_tIf, a_tAndV, a_tOrV, a_tNotV, a_tOp, a_tUn, a_rU, a_tVar, a_tC, a_rI0, a_rI, a_rEq, a_rNe, a_rIx0, a_rIn0, a_tCB, a_tCal, a_tCons, a_tNil, a_tTupA, a_tLst, a_tPar, a_tBits, a_tLC, a_iRng1, a_iRng2, a_iT0, a_iL0, a_tEmit, frS, scal, V.ty.injEq, tyN, subN, String.reduceEq, String.reduceBEq, Bool.true_or, Bool.false_or, Bool.or_false, Bool.true_and, Bool.false_and, Bool.and_false, or_true, true_or, beq_self_eq_true, decide_true, decide_false, List.map_cons, List.map_nil, List.length_cons, List.length_nil, List.getElem?_cons_zero, List.getElem?_cons_succ, List.getElem?_nil, List.set_cons_zero, List.set_cons_succ, Option.some.injEq, Option.bind_some, Option.bind_none, id, exists_eq_left', exists_eq_left, exists_and_left, exists_eq_right, V.int.injEq, V.bl.injEq, V.ref.injEq, List.cons.injEq, and_true, true_and, and_assoc, exists_const, atI0, atI1, atI2, ixN30, ixN31, ixN32, upd_same, upd_upd, sq_updL, sq_updT, Nat.zero_add, Nat.reduceAdd, reduceCtorEq, false_and, and_false, exists_false, false_or, or_false, List.length_map, HO.lst.injEq, HO.tup.injEq, Bool.false_eq_true, if_false, if_true, decide_eq_true_eq, ite_true, ite_false, reduceIte, Int.reduceLT, Int.reduceLE, Nat.reduceLT, Int.zero_add, Bool.not_true, Bool.not_false, vk_cells, vk_at, vk_great, vk_left, vk_many, vk_mixed, pk_at, pk_great, pk_left, pk_many, pk_mixed, sdl_len])
              refine ⟨_, _, rfl, fun y0 u0 u1 => ?_⟩
              (try simp only [V.str.injEq, HO.dK.injEq, a_tAug, a_tDisp, a_prs0, a_prs, a_rGetK, a_rSetK, a_tAugS, a_ipI, a_tPar3, a_tListR, a_iS0, a_tPop0, a_tCalK, g3r_is, g2r_is, g2_is, g1_is, a_rNePP, a_iEnum, a_tSeqL, a_tChain, a_tDict, a_tLstA, a_rEqT, a_tIns, a_tRev, a_rSlA, a_rCatA, a_rCatL, a_tSeq, a_tFor, a_rIxL, a_iZip, a_tSortR, a_tSl, a_rSlL0, a_tNoPart, a_tPart, a_tApp, a_tRet, a_tRetN, a_tNext, a_tDrop, a_tAsg, a_gSub, a_gName, a_gNil, a_gCons, a_gTup0, a_rSetL, a_tIfS, a_tAnd, a_tOr, a_tNot, a_tTest, a_tB, a_tTrue, a_tIf, a_tAndV, a_tOrV, a_tNotV, a_tOp, a_tUn, a_rU, a_tVar, a_tC, a_rI0, a_rI, a_rEq, a_rNe, a_rIx0, a_rIn0, a_tCB, a_tCal, a_tCons, a_tNil, a_tTupA, a_tLst, a_tPar, a_tBits, a_tLC, a_iRng1, a_iRng2, a_iT0, a_iL0, a_tEmit, frS, scal, V.ty.injEq, tyN, subN, String.reduceEq, String.reduceBEq, Bool.true_or, Bool.false_or, Bool.or_false, Bool.true_and, Bool.false_and, Bool.and_false, or_true, true_or, beq_self_eq_true, decide_true, decide_false, List.map_cons, List.map_nil, List.length_cons, List.length_nil, List.getElem?_cons_zero, List.getElem?_cons_succ, List.getElem?_nil, List.set_cons_zero, List.set_cons_succ, Option.some.injEq, Option.bind_some, Option.bind_none, id, exists_eq_left', exists_eq_left, exists_and_left, exists_eq_right, V.int.injEq, V.bl.injEq, V.ref.injEq, List.cons.injEq, and_true, true_and, and_assoc, exists_const, atI0, atI1, atI2, ixN30, ixN31, ixN32, upd_same, upd_upd, sq_updL, sq_updT, Nat.zero_add, Nat.reduceAdd, reduceCtorEq, false_and, and_false, exists_false, false_or, or_false, List.length_map, HO.lst.injEq, HO.tup.injEq, Bool.false_eq_true, if_false, if_true, decide_eq_true_eq, ite_true, ite_false, reduceIte, Int.reduceLT, Int.reduceLE, Nat.reduceLT, Int.zero_add, Bool.not_true, Bool.not_false, vk_cells, vk_at, vk_great, vk_left, vk_many, vk_mixed, pk_at, pk_great, pk_left, pk_many, pk_mixed, sdl_len])
              (simp only [a_later])
              (try simp only [V.str.injEq, HO.dK.injEq, a_tAug, a_tDisp, a_prs0, a_prs, a_rGetK, a_rSetK, a_tAugS, a_ipI, a_tPar3, a_tListR, a_iS0, a_tPop0, a_tCalK, g3r_is, g2r_is, g2_is, g1_is, a_rNePP, a_iEnum, a_tSeqL, a_tChain, a_tDict, a_tLstA, a_rEqT, a_tIns, a_tRev, a_rSlA, a_rCatA, a_rCatL, a_tSeq, a_tFor, a_rIxL, a_iZip, a_tSortR, a_tSl, a_rSlL0, a_tNoPart, a_tPart, a_tApp, a_tRet, a_tRetN, a_tNext, a_tDrop, a_tAsg, a_gSub, a_gName, a_gNil, a_gCons, a_gTup0, a_rSetL, a_tIfS, a_tAnd, a_tOr, a_tNot, a_tTest, a_tB, a_tTrue, a_tIf, a_tAndV, a_tOrV, a_tNotV, a_tOp, a_tUn, a_rU, a_tVar, a_tC, a_rI0, a_rI, a_rEq, a_rNe, a_rIx0, a_rIn0, a_tCB, a_tCal, a_tCons, a_tNil, a_tTupA, a_tLst, a_tPar, a_tBits, a_tLC, a_iRng1, a_iRng2, a_iT0, a_iL0, a_tEmit, frS, scal, V.ty.injEq, tyN, subN, String.reduceEq, String.reduceBEq, Bool.true_or, Bool.false_or, Bool.or_false, Bool.true_and, Bool.false_and, Bool.and_false, or_true, true_or, beq_self_eq_true, decide_true, decide_false, List.map_cons, List.map_nil, List.length_cons, List.length_nil, List.getElem?_cons_zero, List.getElem?_cons_succ, List.getElem?_nil, List.set_cons_zero, List.set_cons_succ, Option.some.injEq, Option.bind_some, Option.bind_none, id, exists_eq_left', exists_eq_left, exists_and_left, exists_eq_right, V.int.injEq, V.bl.injEq, V.ref.injEq, List.cons.injEq, and_true, true_and, and_assoc, exists_const, atI0, atI1, atI2, ixN30, ixN31, ixN32, upd_same, upd_upd, sq_updL, sq_updT, Nat.zero_add, Nat.reduceAdd, reduceCtorEq, false_and, and_false, exists_false, false_or, or_false, List.length_map, HO.lst.injEq, HO.tup.injEq, Bool.false_eq_true, if_false, if_true, decide_eq_true_eq, ite_true, ite_false, reduceIte, Int.reduceLT, Int.reduceLE, Nat.reduceLT, Int.zero_add, Bool.not_true, Bool.not_false, vk_cells, vk_at, vk_great, vk_left, vk_many, vk_mixed, pk_at, pk_great, pk_left, pk_many, pk_mixed, sdl_len])
              refine ⟨_, _, rfl, fun y1 u2 u3 => ?_⟩
              (try simp only [V.str.injEq, HO.dK.injEq, a_tAug, a_tDisp, a_prs0, a_prs, a_rGetK, a_rSetK, a_tAugS, a_ipI, a_tPar3, a_tListR, a_iS0, a_tPop0, a_tCalK, g3r_is, g2r_is, g2_is, g1_is, a_rNePP, a_iEnum, a_tSeqL, a_tChain, a_tDict, a_tLstA, a_rEqT, a_tIns, a_tRev, a_rSlA, a_rCatA, a_rCatL, a_tSeq, a_tFor, a_rIxL, a_iZip, a_tSortR, a_tSl, a_rSlL0, a_tNoPart, a_tPart, a_tApp, a_tRet, a_tRetN, a_tNext, a_tDrop, a_tAsg, a_gSub, a_gName, a_gNil, a_gCons, a_gTup0, a_rSetL, a_tIfS, a_tAnd, a_tOr, a_tNot, a_tTest, a_tB, a_tTrue, a_tIf, a_tAndV, a_tOrV, a_tNotV, a_tOp, a_tUn, a_rU, a_tVar, a_tC, a_rI0, a_rI, a_rEq, a_rNe, a_rIx0, a_rIn0, a_tCB, a_tCal, a_tCons, a_tNil, a_tTupA, a_tLst, a_tPar, a_tBits, a_tLC, a_iRng1, a_iRng2, a_iT0, a_iL0, a_tEmit, frS, scal, V.ty.injEq, tyN, subN, String.reduceEq, String.reduceBEq, Bool.true_or, Bool.false_or, Bool.or_false, Bool.true_and, Bool.false_and, Bool.and_false, or_true, true_or, beq_self_eq_true, decide_true, decide_false, List.map_cons, List.map_nil, List.length_cons, List.length_nil, List.getElem?_cons_zero, List.getElem?_cons_succ, List.getElem?_nil, List.set_cons_zero, List.set_cons_succ, Option.some.injEq, Option.bind_some, Option.bind_none, id, exists_eq_left', exists_eq_left, exists_and_left, exists_eq_right, V.int.injEq, V.bl.injEq, V.ref.injEq, List.cons.injEq, and_true, true_and, and_assoc, exists_const, atI0, atI1, atI2, ixN30, ixN31, ixN32, upd_same, upd_upd, sq_updL, sq_updT, Nat.zero_add, Nat.reduceAdd, reduceCtorEq, false_and, and_false, exists_false, false_or, or_false, List.length_map, HO.lst.injEq, HO.tup.injEq, Bool.false_eq_true, if_false, if_true, decide_eq_true_eq, ite_true, ite_false, reduceIte, Int.reduceLT, Int.reduceLE, Nat.reduceLT, Int.zero_add, Bool.not_true, Bool.not_false, vk_cells, vk_at, vk_great, vk_left, vk_many, vk_mixed, pk_at, pk_great, pk_left, pk_many, pk_mixed, sdl_len])
              exact ⟨⟨by decide, by decide⟩, h1, fin _ _ _ _ _ _ _ sxG hlG (by omega)⟩
          · (simp only [a_later])
            (try simp only [V.str.injEq, HO.dK.injEq, a_tAug, a_tDisp, a_prs0, a_prs, a_rGetK, a_rSetK, a_tAugS, a_ipI, a_tPar3, a_tListR, a_iS0, a_tPop0, a_tCalK, g3r_is, g2r_is, g2_is, g1_is, a_rNePP, a_iEnum, a_tSeqL, a_tChain, a_tDict, a_tLstA, a_rEqT, a_tIns, a_tRev, a_rSlA, a_rCatA, a_rCatL, a_tSeq, a_tFor, a_rIxL, a_iZip, a_tSortR, a_tSl, a_rSlL0, a_tNoPart, a_tPart, a_tApp, a_tRet, a_tRetN, a_tNext, a_tDrop, a_tAsg, a_gSub, a_gName, a_gNil, a_gCons, a_gTup0, a_rSetL, a_tIfS, a_tAnd, a_tOr, a_tNot, a_tTest, a_tB, a_tTrue, a_tIf, a_tAndV, a_tOrV, a_tNotV, a_tOp, a_tUn, a_rU, a_tVar, a_tC, a_rI0, a_rI, a_rEq, a_rNe, a_rIx0, a_rIn0, a_tCB, a_tCal, a_tCons, a_tNil, a_tTupA, a_tLst, a_tPar, a_tBits, a_tLC, a_iRng1, a_iRng2, a_iT0, a_iL0, a_tEmit, frS, scal, V.ty.injEq, tyN, subN, String.reduceEq, String.reduceBEq, Bool.true_or, Bool.false_or, Bool.or_false, Bool.true_and, Bool.false_and, Bool.and_false, or_true, true_or, beq_self_eq_true, decide_true, decide_false, List.map_cons, List.map_nil, List.length_cons, List.length_nil, List.getElem?_cons_zero, List.getElem?_cons_succ, List.getElem?_nil, List.set_cons_zero, List.set_cons_succ, Option.some.injEq, Option.bind_some, Option.bind_none, id, exists_eq_left', exists_eq_left, exists_and_left, exists_eq_right, V.int.injEq, V.bl.injEq, V.ref.injEq, List.cons.injEq, and_true, true_and, and_assoc, exists_const, atI0, atI1, atI2, ixN30, ixN31, ixN32, upd_same, upd_upd, sq_updL, sq_updT, Nat.zero_add, Nat.reduceAdd, reduceCtorEq, false_and, and_false, exists_false, false_or, or_false, List.length_map, HO.lst.injEq, HO.tup.injEq, Bool.false_eq_true, if_false, if_true, decide_eq_true_eq, ite_true, ite_false, reduceIte, Int.reduceLT, Int.reduceLE, Nat.reduceLT, Int.zero_add, Bool.not_true, Bool.not_false, vk_cells, vk_at, vk_great, vk_left, vk_many, vk_mixed, pk_at, pk_great, pk_left, pk_many, pk_mixed, sdl_len])
            (simp only [a_later])
            (try simp only [V.str.injEq, HO.dK.injEq, a_tAug, a_tDisp, a_prs0, a_prs, a_rGetK, a_rSetK, a_tAugS, a_ipI, a_tPar3, a_tListR, a_iS0, a_tPop0, a_tCalK, g3r_is, g2r_is, g2_is, g1_is, a_rNePP, a_iEnum, a_tSeqL, a_tChain, a_tDict, a_tLstA, a_rEqT, a_tIns, a_tRev, a_rSlA, a_rCatA, a_rCatL, a_tSeq, a_tFor, a_rIxL, a_iZip, a_tSortR, a_tSl, a_rSlL0, a_tNoPart, a_tPart, a_tApp, a_tRet, a_tRetN, a_tNext, a_tDrop, a_tAsg, a_gSub, a_gName, a_gNil, a_gCons, a_gTup0, a_rSetL, a_tIfS, a_tAnd, a_tOr, a_tNot, a_tTest, a_tB, a_tTrue, a_tIf, a_tAndV, a_tOrV, a_tNotV, a_tOp, a_tUn, a_rU, a_tVar, a_tC, a_rI0, a_rI, a_rEq, a_rNe, a_rIx0, a_rIn0, a_tCB, a_tCal, a_tCons, a_tNil, a_tTupA, a_tLst, a_tPar, a_tBits, a_tLC, a_iRng1, a_iRng2, a_iT0, a_iL0, a_tEmit, frS, scal, V.ty.injEq, tyN, subN, String.reduceEq, String.reduceBEq, Bool.true_or, Bool.false_or, Bool.or_false, Bool.true_and, Bool.false_and, Bool.and_false, or_true, true_or, beq_self_eq_true, decide_true, decide_false, List.map_cons, List.map_nil, List.length_cons, List.length_nil, List.getElem?_cons_zero, List.getElem?_cons_succ, List.getElem?_nil, List.set_cons_zero, List.set_cons_succ, Option.some.injEq, Option.bind_some, Option.bind_none, id, exists_eq_left', exists_eq_left, exists_and_left, exists_eq_right, V.int.injEq, V.bl.injEq, V.ref.injEq, List.cons.injEq, and_true, true_and, and_assoc, exists_const, atI0, atI1, atI2, ixN30, ixN31, ixN32, upd_same, upd_upd, sq_updL, sq_updT, Nat.zero_add, Nat.reduceAdd, reduceCtorEq, false_and, and_false, exists_false, false_or, or_false, List.length_map, HO.lst.injEq, HO.tup.injEq, Bool.false_eq_true, if_false, if_true, decide_eq_true_eq, ite_true, ite_false, reduceIte, Int.reduceLT, Int.reduceLE, Nat.reduceLT, Int.zero_add, Bool.not_true, Bool.not_false, vk_cells, vk_at, vk_great, vk_left, vk_many, vk_mixed, pk_at, pk_great, pk_left, pk_many, pk_mixed, sdl_len])
            refine ⟨_, _, rfl, fun y0 u0 u1 => ?_⟩
            (try simp only [V.str.injEq, HO.dK.injEq, a_tAug, a_tDisp, a_prs0, a_prs, a_rGetK, a_rSetK, a_tAugS, a_ipI, a_tPar3, a_tListR, a_iS0, a_tPop0, a_tCalK, g3r_is, g2r_is, g2_is, g1_is, a_rNePP, a_iEnum, a_tSeqL, a_tChain, a_tDict, a_tLstA, a_rEqT, a_tIns, a_tRev, a_rSlA, a_rCatA, a_rCatL, a_tSeq, a_tFor, a_rIxL, a_iZip, a_tSortR, a_tSl, a_rSlL0, a_tNoPart, a_tPart, a_tApp, a_tRet, a_tRetN, a_tNext, a_tDrop, a_tAsg, a_gSub, a_gName, a_gNil, a_gCons, a_gTup0, a_rSetL, a_tIfS, a_tAnd, a_tOr, a_tNot, a_tTest, a_tB, a_tTrue, a_tIf, a_tAndV, a_tOrV, a_tNotV, a_tOp, a_tUn, a_rU, a_tVar, a_tC, a_rI0, a_rI, a_rEq, a_rNe, a_rIx0, a_rIn0, a_tCB, a_tCal, a_tCons, a_tNil, a_tTupA, a_tLst, a_tPar, a_tBits, a_tLC, a_iRng1, a_iRng2, a_iT0, a_iL0, a_tEmit, frS, scal, V.ty.injEq, tyN, subN, String.reduceEq, String.reduceBEq, Bool.true_or, Bool.false_or, Bool.or_false, Bool.true_and, Bool.false_and, Bool.and_false, or_true, true_or, beq_self_eq_true, decide_true, decide_false, List.map_cons, List.map_nil, List.length_cons, List.length_nil, List.getElem?_cons_zero, List.getElem?_cons_succ, List.getElem?_nil, List.set_cons_zero, List.set_cons_succ, Option.some.injEq, Option.bind_some, Option.bind_none, id, exists_eq_left', exists_eq_left, exists_and_left, exists_eq_right, V.int.injEq, V.bl.injEq, V.ref.injEq, List.cons.injEq, and_true, true_and, and_assoc, exists_const, atI0, atI1, atI2, ixN30, ixN31, ixN32, upd_same, upd_upd, sq_updL, sq_updT, Nat.zero_add, Nat.reduceAdd, reduceCtorEq, false_and, and_false, exists_false, false_or, or_false, List.length_map, HO.lst.injEq, HO.tup.injEq, Bool.false_eq_true, if_false, if_true, decide_eq_true_eq, ite_true, ite_false, reduceIte, Int.reduceLT, Int.reduceLE, Nat.reduceLT, Int.zero_add, Bool.not_true, Bool.not_false, vk_cells, vk_at, vk_great, vk_left, vk_many, vk_mixed, pk_at, pk_great, pk_left, pk_many, pk_mixed, sdl_len])
            (simp only [a_later])
            (try simp only [V.str.injEq, HO.dK.injEq, a_tAug, a_tDisp, a_prs0, a_prs, a_rGetK, a_rSetK, a_tAugS, a_ipI, a_tPar3, a_tListR, a_iS0, a_tPop0, a_tCalK, g3r_is, g2r_is, g2_is, g1_is, a_rNePP, a_iEnum, a_tSeqL, a_tChain, a_tDict, a_tLstA, a_rEqT, a_tIns, a_tRev, a_rSlA, a_rCatA, a_rCatL, a_tSeq, a_tFor, a_rIxL, a_iZip, a_tSortR, a_tSl, a_rSlL0, a_tNoPart, a_tPart, a_tApp, a_tRet, a_tRetN, a_tNext, a_tDrop, a_tAsg, a_gSub, a_gName, a_gNil, a_gCons, a_gTup0, a_rSetL, a_tIfS, a_tAnd, a_tOr, a_tNot, a_tTest, a_tB, a_tTrue, a_tIf, a_tAndV, a_tOrV, a_tNotV, a_tOp, a_tUn, a_rU, a_tVar, a_tC, a_rI0, a_rI, a_rEq, a_rNe, a_rIx0, a_rIn0, a_tCB, a_tCal, a_tCons, a_tNil, a_tTupA, a_tLst, a_tPar, a_tBits, a_tLC, a_iRng1, a_iRng2, a_iT0, a_iL0, a_tEmit, frS, scal, V.ty.injEq, tyN, subN, String.reduceEq, String.reduceBEq, Bool.true_or, Bool.false_or, Bool.or_false, Bool.true_and, Bool.false_and, Bool.and_false, or_true, true_or, beq_self_eq_true, decide_true, decide_false, List.map_cons, List.map_nil, List.length_cons, List.length_nil, List.getElem?_cons_zero, List.getElem?_cons_succ, List.getElem?_nil, List.set_cons_zero, List.set_cons_succ, Option.some.injEq, Option.bind_some, Option.bind_none, id, exists_eq_left', exists_eq_left, exists_and_left, exists_eq_right, V.int.injEq, V.bl.injEq, V.ref.injEq, List.cons.injEq, and_true, true_and, and_assoc, exists_const, atI0, atI1, atI2, ixN30, ixN31, ixN32, upd_same, upd_upd, sq_updL, sq_updT, Nat.zero_add, Nat.reduceAdd, reduceCtorEq, false_and, and_false, exists_false, false_or, or_false, List.length_map, HO.lst.injEq, HO.tup.injEq, Bool.false_eq_true, if_false, if_true, decide_eq_true_eq, ite_true, ite_false, reduceIte, Int.reduceLT, Int.reduceLE, Nat.reduceLT, Int.zero_add, Bool.not_true, Bool.not_false, vk_cells, vk_at, vk_great, vk_left, vk_many, vk_mixed, pk_at, pk_great, pk_left, pk_many, pk_mixed, sdl_len])
            refine ⟨_, _, rfl, fun y1 u2 u3 => ?_⟩
            (try simp only [V.str.injEq, HO.dK.injEq, a_tAug, a_tDisp, a_prs0, a_prs, a_rGetK, a_rSetK, a_tAugS, a_ipI, a_tPar3, a_tListR, a_iS0, a_tPop0, a_tCalK, g3r_is, g2r_is, g2_is, g1_is, a_rNePP, a_iEnum, a_tSeqL, a_tChain, a_tDict, a_tLstA, a_rEqT, a_tIns, a_tRev, a_rSlA, a_rCatA, a_rCatL, a_tSeq, a_tFor, a_rIxL, a_iZip, a_tSortR, a_tSl, a_rSlL0, a_tNoPart, a_tPart, a_tApp, a_tRet, a_tRetN, a_tNext, a_tDrop, a_tAsg, a_gSub, a_gName, a_gNil, a_gCons, a_gTup0, a_rSetL, a_tIfS, a_tAnd, a_tOr, a_tNot, a_tTest, a_tB, a_tTrue, a_tIf, a_tAndV, a_tOrV, a_tNotV, a_tOp, a_tUn, a_rU, a_tVar, a_tC, a_rI0, a_rI, a_rEq, a_rNe, a_rIx0, a_rIn0, a_tCB, a_tCal, a_tCons, a_tNil, a_tTupA, a_tLst, a_tPar, a_tBits, a_tLC, a_iRng1, a_iRng2, a_iT0, a_iL0, a_tEmit, frS, scal, V.ty.injEq, tyN, subN, String.reduceEq, String.reduceBEq, Bool.true_or, Bool.false_or, Bool.or_false, Bool.true_and, Bool.false_and, Bool.and_false, or_true, true_or, beq_self_eq_true, decide_true, decide_false, List.map_cons, List.map_nil, List.length_cons, List.length_nil, List.getElem?_cons_zero, List.getElem?_cons_succ, List.getElem?_nil, List.set_cons_zero, List.set_cons_succ, Option.some.injEq, Option.bind_some, Option.bind_none, id, exists_eq_left', exists_eq_left, exists_and_left, exists_eq_right, V.int.injEq, V.bl.injEq, V.ref.injEq, List.cons.injEq, and_true, true_and, and_assoc, exists_const, atI0, atI1, atI2, ixN30, ixN31, ixN32, upd_same, upd_upd, sq_updL, sq_updT, Nat.zero_add, Nat.reduceAdd, reduceCtorEq, false_and, and_false, exists_false, false_or, or_false, List.length_map, HO.lst.injEq, HO.tup.injEq, Bool.false_eq_true, if_false, if_true, decide_eq_true_eq, ite_true, ite_false, reduceIte, Int.reduceLT, Int.reduceLE, Nat.reduceLT, Int.zero_add, Bool.not_true, Bool.not_false, vk_cells, vk_at, vk_great, vk_left, vk_many, vk_mixed, pk_at, pk_great, pk_left, pk_many, pk_mixed, sdl_len])
            exact ⟨⟨by decide, by decide⟩, h1, fin _ _ _ _ _ _ _ sxG hlG (by omega)⟩
      · rw [if_neg c2]
        have sxG := SX0
        have hlG := hl
        (simp only [a_later])
        (try simp only [V.str.injEq, HO.dK.injEq, a_tAug, a_tDisp, a_prs0, a_prs, a_rGetK, a_rSetK, a_tAugS, a_ipI, a_tPar3, a_tListR, a_iS0, a_tPop0, a_tCalK, g3r_is, g2r_is, g2_is, g1_is, a_rNePP, a_iEnum, a_tSeqL, a_tChain, a_tDict, a_tLstA, a_rEqT, a_tIns, a_tRev, a_rSlA, a_rCatA, a_rCatL, a_tSeq, a_tFor, a_rIxL, a_iZip, a_tSortR, a_tSl, a_rSlL0, a_tNoPart, a_tPart, a_tApp, a_tRet, a_tRetN, a_tNext, a_tDrop, a_tAsg, a_gSub, a_gName, a_gNil, a_gCons, a_gTup0, a_rSetL, a_tIfS, a_tAnd, a_tOr, a_tNot, a_tTest, a_tB, a_tTrue, a_tIf, a_tAndV, a_tOrV, a_tNotV, a_tOp, a_tUn, a_rU, a_tVar, a_tC, a_rI0, a_rI, a_rEq, a_rNe, a_rIx0, a_rIn0, a_tCB, a_tCal, a_tCons, a_tNil, a_tTupA, a_tLst, a_tPar, a_tBits, a_tLC, a_iRng1, a_iRng2, a_iT0, a_iL0, a_tEmit, frS, scal, V.ty.injEq, tyN, subN, String.reduceEq, String.reduceBEq, Bool.true_or, Bool.false_or, Bool.or_false, Bool.true_and, Bool.false_and, Bool.and_false, or_true, true_or, beq_self_eq_true, decide_true, decide_false, List.map_cons, List.map_nil, List.length_cons, List.length_nil, List.getElem?_cons_zero, List.getElem?_cons_succ, List.getElem?_nil, List.set_cons_zero, List.set_cons_succ, Option.some.injEq, Option.bind_some, Option.bind_none, id, exists_eq_left', exists_eq_left, exists_and_left, exists_eq_right, V.int.injEq, V.bl.injEq, V.ref.injEq, List.cons.injEq, and_true, true_and, and_assoc, exists_const, atI0, atI1, atI2, ixN30, ixN31, ixN32, upd_same, upd_upd, sq_updL, sq_updT, Nat.zero_add, Nat.reduceAdd, reduceCtorEq, false_and, and_false, exists_false, false_or, or_false, List.length_map, HO.lst.injEq, HO.tup.injEq, Bool.false_eq_true, if_false, if_true, decide_eq_true_eq, ite_true, ite_false, reduceIte, Int.reduceLT, Int.reduceLE, Nat.reduceLT, Int.zero_add, Bool.not_true, Bool.not_false, vk_cells, vk_at, vk_great, vk_left, vk_many, vk_mixed, pk_at, pk_great, pk_left, pk_many, pk_mixed, sdl_len])
        split
        · split
          · refine ⟨h1, ?_⟩
            (simp only [a_later])
            (try simp only [V.str.injEq, HO.dK.injEq, a_tAug, a_tDisp, a_prs0, a_prs, a_rGetK, a_rSetK, a_tAugS, a_ipI, a_tPar3, a_tListR, a_iS0, a_tPop0, a_tCalK, g3r_is, g2r_is, g2_is, g1_is, a_rNePP, a_iEnum, a_tSeqL, a_tChain, a_tDict, a_tLstA, a_rEqT, a_tIns, a_tRev, a_rSlA, a_rCatA, a_rCatL, a_tSeq, a_tFor, a_rIxL, a_iZip, a_tSortR, a_tSl, a_rSlL0, a_tNoPart, a_tPart, a_tApp, a_tRet, a_tRetN, a_tNext, a_tDrop, a_tAsg, a_gSub, a_gName, a_gNil, a_gCons, a_gTup0, a_rSetL, a_tIfS, a_tAnd, a_tOr, a_tNot, a_tTest, a_tB, a_tTrue, a_tIf, a_tAndV, a_tOrV, a_tNotV, a_tOp, a_tUn, a_rU, a_tVar, a_tC, a_rI0, a_rI, a_rEq, a_rNe, a_rIx0, a_rIn0, a_tCB, a_tCal, a_tCons, a_tNil, a_tTupA, a_tLst, a_tPar, a_tBits, a_tLC, a_iRng1, a_iRng2, a_iT0, a_iL0, a_tEmit, frS, scal, V.ty.injEq, tyN, subN, String.reduceEq, String.reduceBEq, Bool.true_or, Bool.false_or, Bool.or_false, Bool.true_and, Bool.false_and, Bool.and_false, or_true, true_or, beq_self_eq_true, decide_true, decide_false, List.map_cons, List.map_nil, List.length_cons, List.length_nil, List.getElem?_cons_zero, List.getElem?_cons_succ, List.getElem?_nil, List.set_cons_zero, List.set_cons_succ, Option.some.injEq, Option.bind_some, Option.bind_none, id, exists_eq_left', exists_eq_left, exists_and_left, exists_eq_right, V.int.injEq, V.bl.injEq, V.ref.injEq, List.cons.injEq, and_true, true_and, and_assoc, exists_const, atI0, atI1, atI2, ixN30, ixN31, ixN32, upd_same, upd_upd, sq_updL, sq_updT, Nat.zero_add, Nat.reduceAdd, reduceCtorEq, false_and, and_false, exists_false, false_or, or_false, List.length_map, HO.lst.injEq, HO.tup.injEq, Bool.false_eq_true, if_false, if_true, decide_eq_true_eq, ite_true, ite_false, reduceIte, Int.reduceLT, Int.reduceLE, Nat.reduceLT, Int.zero_add, Bool.not_true, Bool.not_false, vk_cells, vk_at, vk_great, vk_left, vk_many, vk_mixed, pk_at, pk_great, pk_left, pk_many, pk_mixed, sdl_len])
            refine ⟨⟨h1, h2⟩, ?_⟩
            (simp only [a_later])
            (try simp only [V.str.injEq, HO.dK.injEq, a_tAug, a_tDisp, a_prs0, a_prs, a_rGetK, a_rSetK, a_tAugS, a_ipI, a_tPar3, a_tListR, a_iS0, a_tPop0, a_tCalK, g3r_is, g2r_is, g2_is, g1_is, a_rNePP, a_iEnum, a_tSeqL, a_tChain, a_tDict, a_tLstA, a_rEqT, a_tIns, a_tRev, a_rSlA, a_rCatA, a_rCatL, a_tSeq, a_tFor, a_rIxL, a_iZip, a_tSortR, a_tSl, a_rSlL0, a_tNoPart, a_tPart, a_tApp, a_tRet, a_tRetN, a_tNext, a_tDrop, a_tAsg, a_gSub, a_gName, a_gNil, a_gCons, a_gTup0, a_rSetL, a_tIfS, a_tAnd, a_tOr, a_tNot, a_tTest, a_tB, a_tTrue, a_tIf, a_tAndV, a_tOrV, a_tNotV, a_tOp, a_tUn, a_rU, a_tVar, a_tC, a_rI0, a_rI, a_rEq, a_rNe, a_rIx0, a_rIn0, a_tCB, a_tCal, a_tCons, a_tNil, a_tTupA, a_tLst, a_tPar, a_tBits, a_tLC, a_iRng1, a_iRng2, a_iT0, a_iL0, a_tEmit, frS, scal, V.ty.injEq, tyN, subN, String.reduceEq, String.reduceBEq, Bool.true_or, Bool.false_or, Bool.or_false, Bool.true_and, Bool.false_and, Bool.and_false, or_true, true_or, beq_self_eq_true, decide_true, decide_false, List.map_cons, List.map_nil, List.length_cons, List.length_nil, List.getElem?_cons_zero, List.getElem?_cons_succ, List.getElem?_nil, List.set_cons_zero, List.set_cons_succ, Option.some.injEq, Option.bind_some, Option.bind_none, id, exists_eq_left', exists_eq_left, exists_and_left, exists_eq_right, V.int.injEq, V.bl.injEq, V.ref.injEq, List.cons.injEq, and_true, true_and, and_assoc, exists_const, atI0, atI1, atI2, ixN30, ixN31, ixN32, upd_same, upd_upd, sq_updL, sq_updT, Nat.zero_add, Nat.reduceAdd, reduceCtorEq, false_and, and_false, exists_false, false_or, or_false, List.length_map, HO.lst.injEq, HO.tup.injEq, Bool.false_eq_true, if_false, if_true, decide_eq_true_eq, ite_true, ite_false, reduceIte, Int.reduceLT, Int.reduceLE, Nat.reduceLT, Int.zero_add, Bool.not_true, Bool.not_false, vk_cells, vk_at, vk_great, vk_left, vk_many, vk_mixed, pk_at, pk_great, pk_left, pk_many, pk_mixed, sdl_len])
            (simp only [a_later])
            (try simp only [V.str.injEq, HO.dK.injEq, a_tAug, a_tDisp, a_prs0, a_prs, a_rGetK, a_rSetK, a_tAugS, a_ipI, a_tPar3, a_tListR, a_iS0, a_tPop0, a_tCalK, g3r_is, g2r_is, g2_is, g1_is, a_rNePP, a_iEnum, a_tSeqL, a_tChain, a_tDict, a_tLstA, a_rEqT, a_tIns, a_tRev, a_rSlA, a_rCatA, a_rCatL, a_tSeq, a_tFor, a_rIxL, a_iZip, a_tSortR, a_tSl, a_rSlL0, a_tNoPart, a_tPart, a_tApp, a_tRet, a_tRetN, a_tNext, a_tDrop, a_tAsg, a_gSub, a_gName, a_gNil, a_gCons, a_gTup0, a_rSetL, a_tIfS, a_tAnd, a_tOr, a_tNot, a_tTest, a_tB, a_tTrue, a_tIf, a_tAndV, a_tOrV, a_tNotV, a_tOp, a_tUn, a_rU, a_tVar, a_tC, a_rI0, a_rI, a_rEq, a_rNe, a_rIx0, a_rIn0, a_tCB, a_tCal, a_tCons, a_tNil, a_tTupA, a_tLst, a_tPar, a_tBits, a_tLC, a_iRng1, a_iRng2, a_iT0, a_iL0, a_tEmit, frS, scal, V.ty.injEq, tyN, subN, String.reduceEq, String.reduceBEq, Bool.true_or, Bool.false_or, Bool.or_false, Bool.true_and, Bool.false_and, Bool.and_false, or_true, true_or, beq_self_eq_true, decide_true, decide_false, List.map_cons, List.map_nil, List.length_cons, List.length_nil, List.getElem?_cons_zero, List.getElem?_cons_succ, List.getElem?_nil, List.set_cons_zero, List.set_cons_succ, Option.some.injEq, Option.bind_some, Option.bind_none, id, exists_eq_left', exists_eq_left, exists_and_left, exists_eq_right, V.int.injEq, V.bl.injEq, V.ref.injEq, List.cons.injEq, and_true, true_and, and_assoc, exists_const, atI0, atI1, atI2, ixN30, ixN31, ixN32, upd_same, upd_upd, sq_updL, sq_updT, Nat.zero_add, Nat.reduceAdd, reduceCtorEq, false_and, and_false, exists_false, false_or, or_false, List.length_map, HO.lst.injEq, HO.tup.injEq, Bool.false_eq_true, if_false, if_true, decide_eq_true_eq, ite_true, ite_false, reduceIte, Int.reduceLT, Int.reduceLE, Nat.reduceLT, Int.zero_add, Bool.not_true, Bool.not_false, vk_cells, vk_at, vk_great, vk_left, vk_many, vk_mixed, pk_at, pk_great, pk_left, pk_many, pk_mixed, sdl_len])
            exact fin _ _ _ _ _ _ _ sxG hlG (by omega)
          · (simp only [a_later])
            (try simp only [V.str.injEq, HO.dK.injEq, a_tAug, a_tDisp, a_prs0, a_prs, a_rGetK, a_rSetK, a_tAugS, a_ipI, a_tPar3, a_tListR, a_iS0, a_tPop0, a_tCalK, g3r_is, g2r_is, g2_is, g1_is, a_rNePP, a_iEnum, a_tSeqL, a_tChain, a_tDict, a_tLstA, a_rEqT, a_tIns, a_tRev, a_rSlA, a_rCatA, a_rCatL, a_tSeq, a_tFor, a_rIxL, a_iZip, a_tSortR, a_tSl, a_rSlL0, a_tNoPart, a_tPart, a_tApp, a_tRet, a_tRetN, a_tNext, a_tDrop, a_tAsg, a_gSub, a_gName, a_gNil, a_gCons, a_gTup0, a_rSetL, a_tIfS, a_tAnd, a_tOr, a_tNot, a_tTest, a_tB, a_tTrue, a_tIf, a_tAndV, a_tOrV, a_tNotV, a_tOp, a_tUn, a_rU, a_tVar, a_tC, a_rI0, a_rI, a_rEq, a_rNe, a_rIx0, a_rIn0, a_tCB, a_tCal, a_tCons, a_tNil, a_tTupA, a_tLst, a_tPar, a_tBits, a_tLC, a_iRng1, a_iRng2, a_iT0, a_iL0, a_tEmit, frS, scal, V.ty.injEq, tyN, subN, String.reduceEq, String.reduceBEq, Bool.true_or, Bool.false_or, Bool.or_false, Bool.true_and, Bool.false_and, Bool.and_false, or_true, true_or, beq_self_eq_true, decide_true, decide_false, List.map_cons, List.map_nil, List.length_cons, List.length_nil, List.getElem?_cons_zero, List.getElem?_cons_succ, List.getElem?_nil, List.set_cons_zero, List.set_cons_succ, Option.some.injEq, Option.bind_some, Option.bind_none, id, exists_eq_left', exists_eq_left, exists_and_left, exists_eq_right, V.int.injEq, V.bl.injEq, V.ref.injEq, List.cons.injEq, and_true, true_and, and_assoc, exists_const, atI0, atI1, atI2, ixN30, ixN31, ixN32, upd_same, upd_upd, sq_updL, sq_updT, Nat.zero_add, Nat.reduceAdd, reduceCtorEq, false_and, and_false, exists_false, false_or, or_false, List.length_map, HO.lst.injEq, HO.tup.injEq, Bool.false_eq_true, if_false, if_true, decide_eq_true_eq, ite_true, ite_false, reduceIte, Int.reduceLT, Int.reduceLE, Nat.reduceLT, Int.zero_add, Bool.not_true, Bool.not_false, vk_cells, vk_at, vk_great, vk_left, vk_many, vk_mixed, pk_at, pk_great, pk_left, pk_many, pk_mixed, sdl_len])
            (simp only [a_later])
            (try simp only [V.str.injEq, HO.dK.injEq, a_tAug, a_tDisp, a_prs0, a_prs, a_rGetK, a_rSetK, a_tAugS, a_ipI, a_tPar3, a_tListR, a_iS0, a_tPop0, a_tCalK, g3r_is, g2r_is, g2_is, g1_is, a_rNePP, a_iEnum, a_tSeqL, a_tChain, a_tDict, a_tLstA, a_rEqT, a_tIns, a_tRev, a_rSlA, a_rCatA, a_rCatL, a_tSeq, a_tFor, a_rIxL, a_iZip, a_tSortR, a_tSl, a_rSlL0, a_tNoPart, a_tPart, a_tApp, a_tRet, a_tRetN, a_tNext, a_tDrop, a_tAsg, a_gSub, a_gName, a_gNil, a_gCons, a_gTup0, a_rSetL, a_tIfS, a_tAnd, a_tOr, a_tNot, a_tTest, a_tB, a_tTrue, a_tIf, a_tAndV, a_tOrV, a_tNotV, a_tOp, a_tUn, a_rU, a_tVar, a_tC, a_rI0, a_rI, a_rEq, a_rNe, a_rIx0, a_rIn0, a_tCB, a_tCal, a_tCons, a_tNil, a_tTupA, a_tLst, a_tPar, a_tBits, a_tLC, a_iRng1, a_iRng2, a_iT0, a_iL0, a_tEmit, frS, scal, V.ty.injEq, tyN, subN, String.reduceEq, String.reduceBEq, Bool.true_or, Bool.false_or, Bool.or_false, Bool.true_and, Bool.false_and, Bool.and_false, or_true, true_or, beq_self_eq_true, decide_true, decide_false, List.map_cons, List.map_nil, List.length_cons, List.length_nil, List.getElem?_cons_zero, List.getElem?_cons_succ, List.getElem?_nil, List.set_cons_zero, List.set_cons_succ, Option.some.injEq, Option.bind_some, Option.bind_none, id, exists_eq_left', exists_eq_left, exists_and_left, exists_eq_right, V.int.injEq, V.bl.injEq, V.ref.injEq, List.cons.injEq, and_true, true_and, and_assoc, exists_const, atI0, atI1, atI2, ixN30, ixN31, ixN32, upd_same, upd_upd, sq_updL, sq_updT, Nat.zero_add, Nat.reduceAdd, reduceCtorEq, false_and, and_false, exists_false, false_or, or_false, List.length_map, HO.lst.injEq, HO.tup.injEq, Bool.false_eq_true, if_false, if_true, decide_eq_true_eq, ite_true, ite_false, reduceIte, Int.reduceLT, Int.reduceLE, Nat.reduceLT, Int.zero_add, Bool.not_true, Bool.not_false, vk_cells, vk_at, vk_great, vk_left, vk_many, vk_mixed, pk_at, pk_great, pk_left, pk_many, pk_mixed, sdl_len])
            refine ⟨_, _, rfl, fun y0 u0 u1 => ?_⟩
            (try simp only [V.str.injEq, HO.dK.injEq, a_tAug, a_tDisp, a_prs0, a_prs, a_rGetK, a_rSetK, a_tAugS, a_ipI, a_tPar3, a_tListR, a_iS0, a_tPop0, a_tCalK, g3r_is, g2r_is, g2_is, g1_is, a_rNePP, a_iEnum, a_tSeqL, a_tChain, a_tDict, a_tLstA, a_rEqT, a_tIns, a_tRev, a_rSlA, a_rCatA, a_rCatL, a_tSeq, a_tFor, a_rIxL, a_iZip, a_tSortR, a_tSl, a_rSlL0, a_tNoPart, a_tPart, a_tApp, a_tRet, a_tRetN, a_tNext, a_tDrop, a_tAsg, a_gSub, a_gName, a_gNil, a_gCons, a_gTup0, a_rSetL, a_tIfS, a_tAnd, a_tOr, a_tNot, a_tTest, a_tB, a_tTrue, a_tIf, a_tAndV, a_tOrV, a_tNotV, a_tOp, a_tUn, a_rU, a_tVar, a_tC, a_rI0, a_rI, a_rEq, a_rNe, a_rIx0, a_rIn0, a_tCB, a_tCal, a_tCons, a_tNil, a_tTupA, a_tLst, a_tPar, a_tBits, a_tLC, a_iRng1, a_iRng2, a_iT0, a_iL0, a_tEmit, frS, scal, V.ty.injEq, tyN, subN, String.reduceEq, String.reduceBEq, Bool.true_or, Bool.false_or, Bool.or_false, Bool.true_and, Bool.false_and, Bool.and_false, or_true, true_or, beq_self_eq_true, decide_true, decide_false, List.map_cons, List.map_nil, List.length_cons, List.length_nil, List.getElem?_cons_zero, List.getElem?_cons_succ, List.getElem?_nil, List.set_cons_zero, List.set_cons_succ, Option.some.injEq, Option.bind_some, Option.bind_none, id, exists_eq_left', exists_eq_left, exists_and_left, exists_eq_right, V.int.injEq, V.bl.injEq, V.ref.injEq, List.cons.injEq, and_true, true_and, and_assoc, exists_const, atI0, atI1, atI2, ixN30, ixN31, ixN32, upd_same, upd_upd, sq_updL, sq_updT, Nat.zero_add, Nat.reduceAdd, reduceCtorEq, false_and, and_false, exists_false, false_or, or_false, List.length_map, HO.lst.injEq, HO.tup.injEq, Bool.false_eq_true, if_false, if_true, decide_eq_true_eq, ite_true, ite_false, reduceIte, Int.reduceLT, Int.reduceLE, Nat.reduceLT, Int.zero_add, Bool.not_true, Bool.not_false, vk_cells, vk_at, vk_great, vk_left, vk_many, vk_mixed, pk_at, pk_great, pk_left, pk_many, pk_mixed, sdl_len])
            (simp only [a_later])
            (try simp only [V.str.injEq, HO.dK.injEq, a_tAug, a_tDisp, a_prs0, a_prs, a_rGetK, a_rSetK, a_tAugS, a_ipI, a_tPar3, a_tListR, a_iS0, a_tPop0, a_tCalK, g3r_is, g2r_is, g2_is, g1_is, a_rNePP, a_iEnum, a_tSeqL, a_tChain, a_tDict, a_tLstA, a_rEqT, a_tIns, a_tRev, a_rSlA, a_rCatA, a_rCatL, a_tSeq, a_tFor, a_rIxL, a_iZip, a_tSortR, a_tSl, a_rSlL0, a_tNoPart, a_tPart, a_tApp, a_tRet, a_tRetN, a_tNext, a_tDrop, a_tAsg, a_gSub, a_gName, a_gNil, a_gCons, a_gTup0, a_rSetL, a_tIfS, a_tAnd, a_tOr, a_tNot, a_tTest, a_tB, a_tTrue, a_tIf, a_tAndV, a_tOrV, a_tNotV, a_tOp, a_tUn, a_rU, a_tVar, a_tC, a_rI0, a_rI, a_rEq, a_rNe, a_rIx0, a_rIn0, a_tCB, a_tCal, a_tCons, a_tNil, a_tTupA, a_tLst, a_tPar, a_tBits, a_tLC, a_iRng1, a_iRng2, a_iT0, a_iL0, a_tEmit, frS, scal, V.ty.injEq, tyN, subN, String.reduceEq, String.reduceBEq, Bool.true_or, Bool.false_or, Bool.or_false, Bool.true_and, Bool.false_and, Bool.and_false, or_true, true_or, beq_self_eq_true, decide_true, decide_false, List.map_cons, List.map_nil, List.length_cons, List.length_nil, List.getElem?_cons_zero, List.getElem?_cons_succ, List.getElem?_nil, List.set_cons_zero, List.set_cons_succ, Option.some.injEq, Option.bind_some, Option.bind_none, id, exists_eq_left', exists_eq_left, exists_and_left, exists_eq_right, V.int.injEq, V.bl.injEq, V.ref.injEq, List.cons.injEq, and_true, true_and, and_assoc, exists_const, atI0, atI1, atI2, ixN30, ixN31, ixN32, upd_same, upd_upd, sq_updL, sq_updT, Nat.zero_add, Nat.reduceAdd, reduceCtorEq, false_and, and_false, exists_false, false_or, or_false, List.length_map, HO.lst.injEq, HO.tup.injEq, Bool.false_eq_true, if_false, if_true, decide_eq_true_eq, ite_true, ite_false, reduceIte, Int.reduceLT, Int.reduceLE, Nat.reduceLT, Int.zero_add, Bool.not_true, Bool.not_false, vk_cells, vk_at, vk_great, vk_left, vk_many, vk_mixed, pk_at, pk_great, pk_left, pk_many, pk_mixed, sdl_len])
            refine ⟨_, _, rfl, fun y1 u2 u3 => ?_⟩
            (try simp only [V.str.injEq, HO.dK.injEq, a_tAug, a_tDisp, a_prs0, a_prs, a_rGetK, a_rSetK, a_tAugS, a_ipI, a_tPar3, a_tListR, a_iS0, a_tPop0, a_tCalK, g3r_is, g2r_is, g2_is, g1_is, a_rNePP, a_iEnum, a_tSeqL, a_tChain, a_tDict, a_tLstA, a_rEqT, a_tIns, a_tRev, a_rSlA, a_rCatA, a_rCatL, a_tSeq, a_tFor, a_rIxL, a_iZip, a_tSortR, a_tSl, a_rSlL0, a_tNoPart, a_tPart, a_tApp, a_tRet, a_tRetN, a_tNext, a_tDrop, a_tAsg, a_gSub, a_gName, a_gNil, a_gCons, a_gTup0, a_rSetL, a_tIfS, a_tAnd, a_tOr, a_tNot, a_tTest, a_tB, a_tTrue, a_tIf, a_tAndV, a_tOrV, a_tNotV, a_tOp, a_tUn, a_rU, a_tVar, a_tC, a_rI0, a_rI, a_rEq, a_rNe, a_rIx0, a_rIn0, a_tCB, a_tCal, a_tCons, a_tNil, a_tTupA, a_tLst, a_tPar, a_tBits, a_tLC, a_iRng1, a_iRng2, a_iT0, a_iL0, a_tEmit, frS, scal, V.ty.injEq, tyN, subN, String.reduceEq, String.reduceBEq, Bool.true_or, Bool.false_or, Bool.or_false, Bool.true_and, Bool.false_and, Bool.and_false, or_true, true_or, beq_self_eq_true, decide_true, decide_false, List.map_cons, List.map_nil, List.length_cons, List.length_nil, List.getElem?_cons_zero, List.getElem?_cons_succ, List.getElem?_nil, List.set_cons_zero, List.set_cons_succ, Option.some.injEq, Option.bind_some, Option.bind_none, id, exists_eq_left', exists_eq_left, exists_and_left, exists_eq_right, V.int.injEq, V.bl.injEq, V.ref.injEq, List.cons.injEq, and_true, true_and, and_assoc, exists_const, atI0, atI1, atI2, ixN30, ixN31, ixN32, upd_same, upd_upd, sq_updL, sq_updT, Nat.zero_add, Nat.reduceAdd, reduceCtorEq, false_and, and_false, exists_false, false_or, or_false, List.length_map, HO.lst.injEq, HO.tup.injEq, Bool.false_eq_true, if_false, if_true, decide_eq_true_eq, ite_true, ite_false, reduceIte, Int.reduceLT, Int.reduceLE, Nat.reduceLT, Int.zero_add, Bool.not_true, Bool.not_false, vk_cells, vk_at, vk_great, vk_left, vk_many, vk_mixed, pk_at, pk_great, pk_left, pk_many, pk_mixed, sdl_len])
            exact ⟨⟨by decide, by decide⟩, h1, fin _ _ _ _ _ _ _ sxG hlG (by omega)⟩
        · (simp only [a_later])
          (try simp only [V.str.injEq, HO.dK.injEq, a_tAug, a_tDisp, a_prs0, a_prs, a_rGetK, a_rSetK, a_tAugS, a_ipI, a_tPar3, a_tListR, a_iS0, a_tPop0, a_tCalK, g3r_is, g2r_is, g2_is, g1_is, a_rNePP, a_iEnum, a_tSeqL, a_tChain, a_tDict, a_tLstA, a_rEqT, a_tIns, a_tRev, a_rSlA, a_rCatA, a_rCatL, a_tSeq, a_tFor, a_rIxL, a_iZip, a_tSortR, a_tSl, a_rSlL0, a_tNoPart, a_tPart, a_tApp, a_tRet, a_tRetN, a_tNext, a_tDrop, a_tAsg, a_gSub, a_gName, a_gNil, a_gCons, a_gTup0, a_rSetL, a_tIfS, a_tAnd, a_tOr, a_tNot, a_tTest, a_tB, a_tTrue, a_tIf, a_tAndV, a_tOrV, a_tNotV, a_tOp, a_tUn, a_rU, a_tVar, a_tC, a_rI0, a_rI, a_rEq, a_rNe, a_rIx0, a_rIn0, a_tCB, a_tCal, a_tCons, a_tNil, a_tTupA, a_tLst, a_tPar, a_tBits, a_tLC, a_iRng1, a_iRng2, a_iT0, a_iL0, a_tEmit, frS, scal, V.ty.injEq, tyN, subN, String.reduceEq, String.reduceBEq, Bool.true_or, Bool.false_or, Bool.or_false, Bool.true_and, Bool.false_and, Bool.and_false, or_true, true_or, beq_self_eq_true, decide_true, decide_false, List.map_cons, List.map_nil, List.length_cons, List.length_nil, List.getElem?_cons_zero, List.getElem?_cons_succ, List.getElem?_nil, List.set_cons_zero, List.set_cons_succ, Option.some.injEq, Option.bind_some, Option.bind_none, id, exists_eq_left', exists_eq_left, exists_and_left, exists_eq_right, V.int.injEq, V.bl.injEq, V.ref.injEq, List.cons.injEq, and_true, true_and, and_assoc, exists_const, atI0, atI1, atI2, ixN30, ixN31, ixN32, upd_same, upd_upd, sq_updL, sq_updT, Nat.zero_add, Nat.reduceAdd, reduceCtorEq, false_and, and_false, exists_false, false_or, or_false, List.length_map, HO.lst.injEq, HO.tup.injEq, Bool.false_eq_true, if_false, if_true, decide_eq_true_eq, ite_true, ite_false, reduceIte, Int.reduceLT, Int.reduceLE, Nat.reduceLT, Int.zero_add, Bool.not_true, Bool.not_false, vk_cells, vk_at, vk_great, vk_left, vk_many, vk_mixed, pk_at, pk_great, pk_left, pk_many, pk_mixed, sdl_len])
          (simp only [a_later])
          (try simp only [V.str.injEq, HO.dK.injEq, a_tAug, a_tDisp, a_prs0, a_prs, a_rGetK, a_rSetK, a_tAugS, a_ipI, a_tPar3, a_tListR, a_iS0, a_tPop0, a_tCalK, g3r_is, g2r_is, g2_is, g1_is, a_rNePP, a_iEnum, a_tSeqL, a_tChain, a_tDict, a_tLstA, a_rEqT, a_tIns, a_tRev, a_rSlA, a_rCatA, a_rCatL, a_tSeq, a_tFor, a_rIxL, a_iZip, a_tSortR, a_tSl, a_rSlL0, a_tNoPart, a_tPart, a_tApp, a_tRet, a_tRetN, a_tNext, a_tDrop, a_tAsg, a_gSub, a_gName, a_gNil, a_gCons, a_gTup0, a_rSetL, a_tIfS, a_tAnd, a_tOr, a_tNot, a_tTest, a_tB, a_tTrue, a_tIf, a_tAndV, a_tOrV, a_tNotV, a_tOp, a_tUn, a_rU, a_tVar, a_tC, a_rI0, a_rI, a_rEq, a_rNe, a_rIx0, a_rIn0, a_tCB, a_tCal, a_tCons, a_tNil, a_tTupA, a_tLst, a_tPar, a_tBits, a_tLC, a_iRng1, a_iRng2, a_iT0, a_iL0, a_tEmit, frS, scal, V.ty.injEq, tyN, subN, String.reduceEq, String.reduceBEq, Bool.true_or, Bool.false_or, Bool.or_false, Bool.true_and, Bool.false_and, Bool.and_false, or_true, true_or, beq_self_eq_true, decide_true, decide_false, List.map_cons, List.map_nil, List.length_cons, List.length_nil, List.getElem?_cons_zero, List.getElem?_cons_succ, List.getElem?_nil, List.set_cons_zero, List.set_cons_succ, Option.some.injEq, Option.bind_some, Option.bind_none, id, exists_eq_left', exists_eq_left, exists_and_left, exists_eq_right, V.int.injEq, V.bl.injEq, V.ref.injEq, List.cons.injEq, and_true, true_and, and_assoc, exists_const, atI0, atI1, atI2, ixN30, ixN31, ixN32, upd_same, upd_upd, sq_updL, sq_updT, Nat.zero_add, Nat.reduceAdd, reduceCtorEq, false_and, and_false, exists_false, false_or, or_false, List.length_map, HO.lst.injEq, HO.tup.injEq, Bool.false_eq_true, if_false, if_true, decide_eq_true_eq, ite_true, ite_false, reduceIte, Int.reduceLT, Int.reduceLE, Nat.reduceLT, Int.zero_add, Bool.not_true, Bool.not_false, vk_cells, vk_at, vk_great, vk_left, vk_many, vk_mixed, pk_at, pk_great, pk_left, pk_many, pk_mixed, sdl_len])
          refine ⟨_, _, rfl, fun y0 u0 u1 => ?_⟩
          (try simp only [V.str.injEq, HO.dK.injEq, a_tAug, a_tDisp, a_prs0, a_prs, a_rGetK, a_rSetK, a_tAugS, a_ipI, a_tPar3, a_tListR, a_iS0, a_tPop0, a_tCalK, g3r_is, g2r_is, g2_is, g1_is, a_rNePP, a_iEnum, a_tSeqL, a_tChain, a_tDict, a_tLstA, a_rEqT, a_tIns, a_tRev, a_rSlA, a_rCatA, a_rCatL, a_tSeq, a_tFor, a_rIxL, a_iZip, a_tSortR, a_tSl, a_rSlL0, a_tNoPart, a_tPart, a_tApp, a_tRet, a_tRetN, a_tNext, a_tDrop, a_tAsg, a_gSub, a_gName, a_gNil, a_gCons, a_gTup0, a_rSetL, a_tIfS, a_tAnd, a_tOr, a_tNot, a_tTest, a_tB, a_tTrue, a_tIf, a_tAndV, a_tOrV, a_tNotV, a_tOp, a_tUn, a_rU, a_tVar, a_tC, a_rI0, a_rI, a_rEq, a_rNe, a_rIx0, a_rIn0, a_tCB, a_tCal, a_tCons, a_tNil, a_tTupA, a_tLst, a_tPar, a_tBits, a_tLC, a_iRng1, a_iRng2, a_iT0, a_iL0, a_tEmit, frS, scal, V.ty.injEq, tyN, subN, String.reduceEq, String.reduceBEq, Bool.true_or, Bool.false_or, Bool.or_false, Bool.true_and, Bool.false_and, Bool.and_false, or_true, true_or, beq_self_eq_true, decide_true, decide_false, List.map_cons, List.map_nil, List.length_cons, List.length_nil, List.getElem?_cons_zero, List.getElem?_cons_succ, List.getElem?_nil, List.set_cons_zero, List.set_cons_succ, Option.some.injEq, Option.bind_some, Option.bind_none, id, exists_eq_left', exists_eq_left, exists_and_left, exists_eq_right, V.int.injEq, V.bl.injEq, V.ref.injEq, List.cons.injEq, and_true, true_and, and_assoc, exists_const, atI0, atI1, atI2, ixN30, ixN31, ixN32, upd_same, upd_upd, sq_updL, sq_updT, Nat.zero_add, Nat.reduceAdd, reduceCtorEq, false_and, and_false, exists_false, false_or, or_false, List.length_map, HO.lst.injEq, HO.tup.injEq, Bool.false_eq_true, if_false, if_true, decide_eq_true_eq, ite_true, ite_false, reduceIte, Int.reduceLT, Int.reduceLE, Nat.reduceLT, Int.zero_add, Bool.not_true, Bool.not_false, vk_cells, vk_at, vk_great, vk_left, vk_many, vk_mixed, pk_at, pk_great, pk_left, pk_many, pk_mixed, sdl_len])
          (simp only [a_later])
          (try simp only [V.str.injEq, HO.dK.injEq, a_tAug, a_tDisp, a_prs0, a_prs, a_rGetK, a_rSetK, a_tAugS, a_ipI, a_tPar3, a_tListR, a_iS0, a_tPop0, a_tCalK, g3r_is, g2r_is, g2_is, g1_is, a_rNePP, a_iEnum, a_tSeqL, a_tChain, a_tDict, a_tLstA, a_rEqT, a_tIns, a_tRev, a_rSlA, a_rCatA, a_rCatL, a_tSeq, a_tFor, a_rIxL, a_iZip, a_tSortR, a_tSl, a_rSlL0, a_tNoPart, a_tPart, a_tApp, a_tRet, a_tRetN, a_tNext, a_tDrop, a_tAsg, a_gSub, a_gName, a_gNil, a_gCons, a_gTup0, a_rSetL, a_tIfS, a_tAnd, a_tOr, a_tNot, a_tTest, a_tB, a_tTrue, a_tIf, a_tAndV, a_tOrV, a_tNotV, a_tOp, a_tUn, a_rU, a_tVar, a_tC, a_rI0, a_rI, a_rEq, a_rNe, a_rIx0, a_rIn0, a_tCB, a_tCal, a_tCons, a_tNil, a_tTupA, a_tLst, a_tPar, a_tBits, a_tLC, a_iRng1, a_iRng2, a_iT0, a_iL0, a_tEmit, frS, scal, V.ty.injEq, tyN, subN, String.reduceEq, String.reduceBEq, Bool.true_or, Bool.false_or, Bool.or_false, Bool.true_and, Bool.false_and, Bool.and_false, or_true, true_or, beq_self_eq_true, decide_true, decide_false, List.map_cons, List.map_nil, List.length_cons, List.length_nil, List.getElem?_cons_zero, List.getElem?_cons_succ, List.getElem?_nil, List.set_cons_zero, List.set_cons_succ, Option.some.injEq, Option.bind_some, Option.bind_none, id, exists_eq_left', exists_eq_left, exists_and_left, exists_eq_right, V.int.injEq, V.bl.injEq, V.ref.injEq, List.cons.injEq, and_true, true_and, and_assoc, exists_const, atI0, atI1, atI2, ixN30, ixN31, ixN32, upd_same, upd_upd, sq_updL, sq_updT, Nat.zero_add, Nat.reduceAdd, reduceCtorEq, false_and, and_false, exists_false, false_or, or_false, List.length_map, HO.lst.injEq, HO.tup.injEq, Bool.false_eq_true, if_false, if_true, decide_eq_true_eq, ite_true, ite_false, reduceIte, Int.reduceLT, Int.reduceLE, Nat.reduceLT, Int.zero_add, Bool.not_true, Bool.not_false, vk_cells, vk_at, vk_great, vk_left, vk_many, vk_mixed, pk_at, pk_great, pk_left, pk_many, pk_mixed, sdl_len])
          refine ⟨_, _, rfl, fun y1 u2 u3 => ?_⟩
          (try simp only [V.str.injEq, HO.dK.injEq, a_tAug, a_tDisp, a_prs0, a_prs, a_rGetK, a_rSetK, a_tAugS, a_ipI, a_tPar3, a_tListR, a_iS0, a_tPop0, a_tCalK, g3r_is, g2r_is, g2_is, g1_is, a_rNePP, a_iEnum, a_tSeqL, a_tChain, a_tDict, a_tLstA, a_rEqT, a_tIns, a_tRev, a_rSlA, a_rCatA, a_rCatL, a_tSeq, a_tFor, a_rIxL, a_iZip, a_tSortR, a_tSl, a_rSlL0, a_tNoPart, a_tPart, a_tApp, a_tRet, a_tRetN, a_tNext, a_tDrop, a_tAsg, a_gSub, a_gName, a_gNil, a_gCons, a_gTup0, a_rSetL, a_tIfS, a_tAnd, a_tOr, a_tNot, a_tTest, a_tB, a_tTrue, a_tIf, a_tAndV, a_tOrV, a_tNotV, a_tOp, a_tUn, a_rU, a_tVar, a_tC, a_rI0, a_rI, a_rEq, a_rNe, a_rIx0, a_rIn0, a_tCB, a_tCal, a_tCons, a_tNil, a_tTupA, a_tLst, a_tPar, a_tBits, a_tLC, a_iRng1, a_iRng2, a_iT0, a_iL0, a_tEmit, frS, scal, V.ty.injEq, tyN, subN, String.reduceEq, String.reduceBEq, Bool.true_or, Bool.false_or, Bool.or_false, Bool.true_and, Bool.false_and, Bool.and_false, or_true, true_or, beq_self_eq_true, decide_true, decide_false, List.map_cons, List.map_nil, List.length_cons, List.length_nil, List.getElem?_cons_zero, List.getElem?_cons_succ, List.getElem?_nil, List.set_cons_zero, List.set_cons_succ, Option.some.injEq, Option.bind_some, Option.bind_none, id, exists_eq_left', exists_eq_left, exists_and_left, exists_eq_right, V.int.injEq, V.bl.injEq, V.ref.injEq, List.cons.injEq, and_true, true_and, and_assoc, exists_const, atI0, atI1, atI2, ixN30, ixN31, ixN32, upd_same, upd_upd, sq_updL, sq_updT, Nat.zero_add, Nat.reduceAdd, reduceCtorEq, false_and, and_false, exists_false, false_or, or_false, List.length_map, HO.lst.injEq, HO.tup.injEq, Bool.false_eq_true, if_false, if_true, decide_eq_true_eq, ite_true, ite_false, reduceIte, Int.reduceLT, Int.reduceLE, Nat.reduceLT, Int.zero_add, Bool.not_true, Bool.not_false, vk_cells, vk_at, vk_great, vk_left, vk_many, vk_mixed, pk_at, pk_great, pk_left, pk_many, pk_mixed, sdl_len])
          exact ⟨⟨by decide, by decide⟩, h1, fin _ _ _ _ _ _ _ sxG hlG (by omega)⟩
    · rw [if_neg c1]
      have sxG := SX0
      have hlG := hl
      (simp only [a_later])
      (try simp only [V.str.injEq, HO.dK.injEq, a_tAug, a_tDisp, a_prs0, a_prs, a_rGetK, a_rSetK, a_tAugS, a_ipI, a_tPar3, a_tListR, a_iS0, a_tPop0, a_tCalK, g3r_is, g2r_is, g2_is, g1_is, a_rNePP, a_iEnum, a_tSeqL, a_tChain, a_tDict, a_tLstA, a_rEqT, a_tIns, a_tRev, a_rSlA, a_rCatA, a_rCatL, a_tSeq, a_tFor, a_rIxL, a_iZip, a_tSortR, a_tSl, a_rSlL0, a_tNoPart, a_tPart, a_tApp, a_tRet, a_tRetN, a_tNext, a_tDrop, a_tAsg, a_gSub, a_gName, a_gNil, a_gCons, a_gTup0, a_rSetL, a_tIfS, a_tAnd, a_tOr, a_tNot, a_tTest, a_tB, a_tTrue, a_tIf, a_tAndV, a_tOrV, a_tNotV, a_tOp, a_tUn, a_rU, a_tVar, a_tC, a_rI0, a_rI, a_rEq, a_rNe, a_rIx0, a_rIn0, a_tCB, a_tCal, a_tCons, a_tNil, a_tTupA, a_tLst, a_tPar, a_tBits, a_tLC, a_iRng1, a_iRng2, a_iT0, a_iL0, a_tEmit, frS, scal, V.ty.injEq, tyN, subN, String.reduceEq, String.reduceBEq, Bool.true_or, Bool.false_or, Bool.or_false, Bool.true_and, Bool.false_and, Bool.and_false, or_true, true_or, beq_self_eq_true, decide_true, decide_false, List.map_cons, List.map_nil, List.length_cons, List.length_nil, List.getElem?_cons_zero, List.getElem?_cons_succ, List.getElem?_nil, List.set_cons_zero, List.set_cons_succ, Option.some.injEq, Option.bind_some, Option.bind_none, id, exists_eq_left', exists_eq_left, exists_and_left, exists_eq_right, V.int.injEq, V.bl.injEq, V.ref.injEq, List.cons.injEq, and_true, true_and, and_assoc, exists_const, atI0, atI1, atI2, ixN30, ixN31, ixN32, upd_same, upd_upd, sq_updL, sq_updT, Nat.zero_add, Nat.reduceAdd, reduceCtorEq, false_and, and_false, exists_false, false_or, or_false, List.length_map, HO.lst.injEq, HO.tup.injEq, Bool.false_eq_true, if_false, if_true, decide_eq_true_eq, ite_true, ite_false, reduceIte, Int.reduceLT, Int.reduceLE, Nat.reduceLT, Int.zero_add, Bool.not_true, Bool.not_false, vk_cells, vk_at, vk_great, vk_left, vk_many, vk_mixed, pk_at, pk_great, pk_left, pk_many, pk_mixed, sdl_len])
      split
      · split
        · refine ⟨h1, ?_⟩
          (simp only [a_later])
          (try simp only [V.str.injEq, HO.dK.injEq, a_tAug, a_tDisp, a_prs0, a_prs, a_rGetK, a_rSetK, a_tAugS, a_ipI, a_tPar3, a_tListR, a_iS0, a_tPop0, a_tCalK, g3r_is, g2r_is, g2_is, g1_is, a_rNePP, a_iEnum, a_tSeqL, a_tChain, a_tDict, a_tLstA, a_rEqT, a_tIns, a_tRev, a_rSlA, a_rCatA, a_rCatL, a_tSeq, a_tFor, a_rIxL, a_iZip, a_tSortR, a_tSl, a_rSlL0, a_tNoPart, a_tPart, a_tApp, a_tRet, a_tRetN, a_tNext, a_tDrop, a_tAsg, a_gSub, a_gName, a_gNil, a_gCons, a_gTup0, a_rSetL, a_tIfS, a_tAnd, a_tOr, a_tNot, a_tTest, a_tB, a_tTrue, a_tIf, a_tAndV, a_tOrV, a_tNotV, a_tOp, a_tUn, a_rU, a_tVar, a_tC, a_rI0, a_rI, a_rEq, a_rNe, a_rIx0, a_rIn0, a_tCB, a_tCal, a_tCons, a_tNil, a_tTupA, a_tLst, a_tPar, a_tBits, a_tLC, a_iRng1, a_iRng2, a_iT0, a_iL0, a_tEmit, frS, scal, V.ty.injEq, tyN, subN, String.reduceEq, String.reduceBEq, Bool.true_or, Bool.false_or, Bool.or_false, Bool.true_and, Bool.false_and, Bool.and_false, or_true, true_or, beq_self_eq_true, decide_true, decide_false, List.map_cons, List.map_nil, List.length_cons, List.length_nil, List.getElem?_cons_zero, List.getElem?_cons_succ, List.getElem?_nil, List.set_cons_zero, List.set_cons_succ, Option.some.injEq, Option.bind_some, Option.bind_none, id, exists_eq_left', exists_eq_left, exists_and_left, exists_eq_right, V.int.injEq, V.bl.injEq, V.ref.injEq, List.cons.injEq, and_true, true_and, and_assoc, exists_const, atI0, atI1, atI2, ixN30, ixN31, ixN32, upd_same, upd_upd, sq_updL, sq_updT, Nat.zero_add, Nat.reduceAdd, reduceCtorEq, false_and, and_false, exists_false, false_or, or_false, List.length_map, HO.lst.injEq, HO.tup.injEq, Bool.false_eq_true, if_false, if_true, decide_eq_true_eq, ite_true, ite_false, reduceIte, Int.reduceLT, Int.reduceLE, Nat.reduceLT, Int.zero_add, Bool.not_true, Bool.not_false, vk_cells, vk_at, vk_great, vk_left, vk_many, vk_mixed, pk_at, pk_great, pk_left, pk_many, pk_mixed, sdl_len])
          refine ⟨⟨h1, h2⟩, ?_⟩
          (simp only [a_later])
          (try simp only [V.str.injEq, HO.dK.injEq, a_tAug, a_tDisp, a_prs0, a_prs, a_rGetK, a_rSetK, a_tAugS, a_ipI, a_tPar3, a_tListR, a_iS0, a_tPop0, a_tCalK, g3r_is, g2r_is, g2_is, g1_is, a_rNePP, a_iEnum, a_tSeqL, a_tChain, a_tDict, a_tLstA, a_rEqT, a_tIns, a_tRev, a_rSlA, a_rCatA, a_rCatL, a_tSeq, a_tFor, a_rIxL, a_iZip, a_tSortR, a_tSl, a_rSlL0, a_tNoPart, a_tPart, a_tApp, a_tRet, a_tRetN, a_tNext, a_tDrop, a_tAsg, a_gSub, a_gName, a_gNil, a_gCons, a_gTup0, a_rSetL, a_tIfS, a_tAnd, a_tOr, a_tNot, a_tTest, a_tB, a_tTrue, a_tIf, a_tAndV, a_tOrV, a_tNotV, a_tOp, a_tUn, a_rU, a_tVar, a_tC, a_rI0, a_rI, a_rEq, a_rNe, a_rIx0, a_rIn0, a_tCB, a_tCal, a_tCons, a_tNil, a_tTupA, a_tLst, a_tPar, a_tBits, a_tLC, a_iRng1, a_iRng2, a_iT0, a_iL0, a_tEmit, frS, scal, V.ty.injEq, tyN, subN, String.reduceEq, String.reduceBEq, Bool.true_or, Bool.false_or, Bool.or_false, Bool.true_and, Bool.false_and, Bool.and_false, or_true, true_or, beq_self_eq_true, decide_true, decide_false, List.map_cons, List.map_nil, List.length_cons, List.length_nil, List.getElem?_cons_zero, List.getElem?_cons_succ, List.getElem?_nil, List.set_cons_zero, List.set_cons_succ, Option.some.injEq, Option.bind_some, Option.bind_none, id, exists_eq_left', exists_eq_left, exists_and_left, exists_eq_right, V.int.injEq, V.bl.injEq, V.ref.injEq, List.cons.injEq, and_true, true_and, and_assoc, exists_const, atI0, atI1, atI2, ixN30, ixN31, ixN32, upd_same, upd_upd, sq_updL, sq_updT, Nat.zero_add, Nat.reduceAdd, reduceCtorEq, false_and, and_false, exists_false, false_or, or_false, List.length_map, HO.lst.injEq, HO.tup.injEq, Bool.false_eq_true, if_false, if_true, decide_eq_true_eq, ite_true, ite_false, reduceIte, Int.reduceLT, Int.reduceLE, Nat.reduceLT, Int.zero_add, Bool.not_true, Bool.not_false, vk_cells, vk_at, vk_great, vk_left, vk_many, vk_mixed, pk_at, pk_great, pk_left, pk_many, pk_mixed, sdl_len])
          (simp only [a_later])
          (try simp only [V.str.injEq, HO.dK.injEq, a_tAug, a_tDisp, a_prs0, a_prs, a_rGetK, a_rSetK, a_tAugS, a_ipI, a_tPar3, a_tListR, a_iS0, a_tPop0, a_tCalK, g3r_is, g2r_is, g2_is, g1_is, a_rNePP, a_iEnum, a_tSeqL, a_tChain, a_tDict, a_tLstA, a_rEqT, a_tIns, a_tRev, a_rSlA, a_rCatA, a_rCatL, a_tSeq, a_tFor, a_rIxL, a_iZip, a_tSortR, a_tSl, a_rSlL0, a_tNoPart, a_tPart, a_tApp, a_tRet, a_tRetN, a_tNext, a_tDrop, a_tAsg, a_gSub, a_gName, a_gNil, a_gCons, a_gTup0, a_rSetL, a_tIfS, a_tAnd, a_tOr, a_tNot, a_tTest, a_tB, a_tTrue, a_tIf, a_tAndV, a_tOrV, a_tNotV, a_tOp, a_tUn, a_rU, a_tVar, a_tC, a_rI0, a_rI, a_rEq, a_rNe, a_rIx0, a_rIn0, a_tCB, a_tCal, a_tCons, a_tNil, a_tTupA, a_tLst, a_tPar, a_tBits, a_tLC, a_iRng1, a_iRng2, a_iT0, a_iL0, a_tEmit, frS, scal, V.ty.injEq, tyN, subN, String.reduceEq, String.reduceBEq, Bool.true_or, Bool.false_or, Bool.or_false, Bool.true_and, Bool.false_and, Bool.and_false, or_true, true_or, beq_self_eq_true, decide_true, decide_false, List.map_cons, List.map_nil, List.length_cons, List.length_nil, List.getElem?_cons_zero, List.getElem?_cons_succ, List.getElem?_nil, List.set_cons_zero, List.set_cons_succ, Option.some.injEq, Option.bind_some, Option.bind_none, id, exists_eq_left', exists_eq_left, exists_and_left, exists_eq_right, V.int.injEq, V.bl.injEq, V.ref.injEq, List.cons.injEq, and_true, true_and, and_assoc, exists_const, atI0, atI1, atI2, ixN30, ixN31, ixN32, upd_same, upd_upd, sq_updL, sq_updT, Nat.zero_add, Nat.reduceAdd, reduceCtorEq, false_and, and_false, exists_false, false_or, or_false, List.length_map, HO.lst.injEq, HO.tup.injEq, Bool.false_eq_true, if_false, if_true, decide_eq_true_eq, ite_true, ite_false, reduceIte, Int.reduceLT, Int.reduceLE, Nat.reduceLT, Int.zero_add, Bool.not_true, Bool.not_false, vk_cells, vk_at, vk_great, vk_left, vk_many, vk_mixed, pk_at, pk_great, pk_left, pk_many, pk_mixed, sdl_len])
          exact fin _ _ _ _ _ _ _ sxG hlG (by omega)
        · (simp only [a_later])
          (try simp only [V.str.injEq, HO.dK.injEq, a_tAug, a_tDisp, a_prs0, a_prs, a_rGetK, a_rSetK, a_tAugS, a_ipI, a_tPar3, a_tListR, a_iS0, a_tPop0, a_tCalK, g3r_is, g2r_is, g2_is, g1_is, a_rNePP, a_iEnum, a_tSeqL, a_tChain, a_tDict, a_tLstA, a_rEqT, a_tIns, a_tRev, a_rSlA, a_rCatA, a_rCatL, a_tSeq, a_tFor, a_rIxL, a_iZip, a_tSortR, a_tSl, a_rSlL0, a_tNoPart, a_tPart, a_tApp, a_tRet, a_tRetN, a_tNext, a_tDrop, a_tAsg, a_gSub, a_gName, a_gNil, a_gCons, a_gTup0, a_rSetL, a_tIfS, a_tAnd, a_tOr, a_tNot, a_tTest, a_tB, a_tTrue, a_tIf, a_tAndV, a_tOrV, a_tNotV, a_tOp, a_tUn, a_rU, a_tVar, a_tC, a_rI0, a_rI, a_rEq, a_rNe, a_rIx0, a_rIn0, a_tCB, a_tCal, a_tCons, a_tNil, a_tTupA, a_tLst, a_tPar, a_tBits, a_tLC, a_iRng1, a_iRng2, a_iT0, a_iL0, a_tEmit, frS, scal, V.ty.injEq, tyN, subN, String.reduceEq, String.reduceBEq, Bool.true_or, Bool.false_or, Bool.or_false, Bool.true_and, Bool.false_and, Bool.and_false, or_true, true_or, beq_self_eq_true, decide_true, decide_false, List.map_cons, List.map_nil, List.length_cons, List.length_nil, List.getElem?_cons_zero, List.getElem?_cons_succ, List.getElem?_nil, List.set_cons_zero, List.set_cons_succ, Option.some.injEq, Option.bind_some, Option.bind_none, id, exists_eq_left', exists_eq_left, exists_and_left, exists_eq_right, V.int.injEq, V.bl.injEq, V.ref.injEq, List.cons.injEq, and_true, true_and, and_assoc, exists_const, atI0, atI1, atI2, ixN30, ixN31, ixN32, upd_same, upd_upd, sq_updL, sq_updT, Nat.zero_add, Nat.reduceAdd, reduceCtorEq, false_and, and_false, exists_false, false_or, or_false, List.length_map, HO.lst.injEq, HO.tup.injEq, Bool.false_eq_true, if_false, if_true, decide_eq_true_eq, ite_true, ite_false, reduceIte, Int.reduceLT, Int.reduceLE, Nat.reduceLT, Int.zero_add, Bool.not_true, Bool.not_false, vk_cells, vk_at, vk_great, vk_left, vk_many, vk_mixed, pk_at, pk_great, pk_left, pk_many, pk_mixed, sdl_len])
          (simp only [a_later])
          (try simp only [V.str.injEq, HO.dK.injEq, a_tAug, a_tDisp, a_prs0, a_prs, a_rGetK, a_rSetK, a_tAugS, a_ipI, a_tPar3, a_tListR, a_iS0, a_tPop0, a_tCalK, g3r_is, g2r_is, g2_is, g1_is, a_rNePP, a_iEnum, a_tSeqL, a_tChain, a_tDict, a_tLstA, a_rEqT, a_tIns, a_tRev, a_rSlA, a_rCatA, a_rCatL, a_tSeq, a_tFor, a_rIxL, a_iZip, a_tSortR, a_tSl, a_rSlL0, a_tNoPart, a_tPart, a_tApp, a_tRet, a_tRetN, a_tNext, a_tDrop, a_tAsg, a_gSub, a_gName, a_gNil, a_gCons, a_gTup0, a_rSetL, a_tIfS, a_tAnd, a_tOr, a_tNot, a_tTest, a_tB, a_tTrue, a_tIf, a_tAndV, a_tOrV, a_tNotV, a_tOp, a_tUn, a_rU, a_tVar, a_tC, a_rI0, a_rI, a_rEq, a_rNe, a_rIx0, a_rIn0, a_tCB, a_tCal, a_tCons, a_tNil, a_tTupA, a_tLst, a_tPar, a_tBits, a_tLC, a_iRng1, a_iRng2, a_iT0, a_iL0, a_tEmit, frS, scal, V.ty.injEq, tyN, subN, String.reduceEq, String.reduceBEq, Bool.true_or, Bool.false_or, Bool.or_false, Bool.true_and, Bool.false_and, Bool.and_false, or_true, true_or, beq_self_eq_true, decide_true, decide_false, List.map_cons, List.map_nil, List.length_cons, List.length_nil, List.getElem?_cons_zero, List.getElem?_cons_succ, List.getElem?_nil, List.set_cons_zero, List.set_cons_succ, Option.some.injEq, Option.bind_some, Option.bind_none, id, exists_eq_left', exists_eq_left, exists_and_left, exists_eq_right, V.int.injEq, V.bl.injEq, V.ref.injEq, List.cons.injEq, and_true, true_and, and_assoc, exists_const, atI0, atI1, atI2, ixN30, ixN31, ixN32, upd_same, upd_upd, sq_updL, sq_updT, Nat.zero_add, Nat.reduceAdd, reduceCtorEq, false_and, and_false, exists_false, false_or, or_false, List.length_map, HO.lst.injEq, HO.tup.injEq, Bool.false_eq_true, if_false, if_true, decide_eq_true_eq, ite_true, ite_false, reduceIte, Int.reduceLT, Int.reduceLE, Nat.reduceLT, Int.zero_add, Bool.not_true, Bool.not_false, vk_cells, vk_at, vk_great, vk_left, vk_many, vk_mixed, pk_at, pk_great, pk_left, pk_many, pk_mixed, sdl_len])
          refine ⟨_, _, rfl, fun y0 u0 u1 => ?_⟩
          (try simp only [V.str.injEq, HO.dK.injEq, a_tAug, a_tDisp, a_prs0, a_prs, a_rGetK, a_rSetK, a_tAugS, a_ipI, a_tPar3, a_tListR, a_iS0, a_tPop0, a_tCalK, g3r_is, g2r_is, g2_is, g1_is, a_rNePP, a_iEnum, a_tSeqL, a_tChain, a_tDict, a_tLstA, a_rEqT, a_tIns, a_tRev, a_rSlA, a_rCatA, a_rCatL, a_tSeq, a_tFor, a_rIxL, a_iZip, a_tSortR, a_tSl, a_rSlL0, a_tNoPart, a_tPart, a_tApp, a_tRet, a_tRetN, a_tNext, a_tDrop, a_tAsg, a_gSub, a_gName, a_gNil, a_gCons, a_gTup0, a_rSetL, a_tIfS, a_tAnd, a_tOr, a_tNot, a_tTest, a_tB, a_tTrue, a_tIf, a_tAndV, a_tOrV, a_tNotV, a_tOp, a_tUn, a_rU, a_tVar, a_tC, a_rI0, a_rI, a_rEq, a_rNe, a_rIx0, a_rIn0, a_tCB, a_tCal, a_tCons, a_tNil, a_tTupA, a_tLst, a_tPar, a_tBits, a_tLC, a_iRng1, a_iRng2, a_iT0, a_iL0, a_tEmit, frS, scal, V.ty.injEq, tyN, subN, String.reduceEq, String.reduceBEq, Bool.true_or, Bool.false_or, Bool.or_false, Bool.true_and, Bool.false_and, Bool.and_false, or_true, true_or, beq_self_eq_true, decide_true, decide_false, List.map_cons, List.map_nil, List.length_cons, List.length_nil, List.getElem?_cons_zero, List.getElem?_cons_succ, List.getElem?_nil, List.set_cons_zero, List.set_cons_succ, Option.some.injEq, Option.bind_some, Option.bind_none, id, exists_eq_left', exists_eq_left, exists_and_left, exists_eq_right, V.int.injEq, V.bl.injEq, V.ref.injEq, List.cons.injEq, and_true, true_and, and_assoc, exists_const, atI0, atI1, atI2, ixN30, ixN31, ixN32, upd_same, upd_upd, sq_updL, sq_updT, Nat.zero_add, Nat.reduceAdd, reduceCtorEq, false_and, and_false, exists_false, false_or, or_false, List.length_map, HO.lst.injEq, HO.tup.injEq, Bool.false_eq_true, if_false, if_true, decide_eq_true_eq, ite_true, ite_false, reduceIte, Int.reduceLT, Int.reduceLE, Nat.reduceLT, Int.zero_add, Bool.not_true, Bool.not_false, vk_cells, vk_at, vk_great, vk_left, vk_many, vk_mixed, pk_at, pk_great, pk_left, pk_many, pk_mixed, sdl_len])
          (simp only [a_later])
          (try simp only [V.str.injEq, HO.dK.injEq, a_tAug, a_tDisp, a_prs0, a_prs, a_rGetK, a_rSetK, a_tAugS, a_ipI, a_tPar3, a_tListR, a_iS0, a_tPop0, a_tCalK, g3r_is, g2r_is, g2_is, g1_is, a_rNePP, a_iEnum, a_tSeqL, a_tChain, a_tDict, a_tLstA, a_rEqT, a_tIns, a_tRev, a_rSlA, a_rCatA, a_rCatL, a_tSeq, a_tFor, a_rIxL, a_iZip, a_tSortR, a_tSl, a_rSlL0, a_tNoPart, a_tPart, a_tApp, a_tRet, a_tRetN, a_tNext, a_tDrop, a_tAsg, a_gSub, a_gName, a_gNil, a_gCons, a_gTup0, a_rSetL, a_tIfS, a_tAnd, a_tOr, a_tNot, a_tTest, a_tB, a_tTrue, a_tIf, a_tAndV, a_tOrV, a_tNotV, a_tOp, a_tUn, a_rU, a_tVar, a_tC, a_rI0, a_rI, a_rEq, a_rNe, a_rIx0, a_rIn0, a_tCB, a_tCal, a_tCons, a_tNil, a_tTupA, a_tLst, a_tPar, a_tBits, a_tLC, a_iRng1, a_iRng2, a_iT0, a_iL0, a_tEmit, frS, scal, V.ty.injEq, tyN, subN, String.reduceEq, String.reduceBEq, Bool.true_or, Bool.false_or, Bool.or_false, Bool.true_and, Bool.false_and, Bool.and_false, or_true, true_or, beq_self_eq_true, decide_true, decide_false, List.map_cons, List.map_nil, List.length_cons, List.length_nil, List.getElem?_cons_zero, List.getElem?_cons_succ, List.getElem?_nil, List.set_cons_zero, List.set_cons_succ, Option.some.injEq, Option.bind_some, Option.bind_none, id, exists_eq_left', exists_eq_left, exists_and_left, exists_eq_right, V.int.injEq, V.bl.injEq, V.ref.injEq, List.cons.injEq, and_true, true_and, and_assoc, exists_const, atI0, atI1, atI2, ixN30, ixN31, ixN32, upd_same, upd_upd, sq_updL, sq_updT, Nat.zero_add, Nat.reduceAdd, reduceCtorEq, false_and, and_false, exists_false, false_or, or_false, List.length_map, HO.lst.injEq, HO.tup.injEq, Bool.false_eq_true, if_false, if_true, decide_eq_true_eq, ite_true, ite_false, reduceIte, Int.reduceLT, Int.reduceLE, Nat.reduceLT, Int.zero_add, Bool.not_true, Bool.not_false, vk_cells, vk_at, vk_great, vk_left, vk_many, vk_mixed, pk_at, pk_great, pk_left, pk_many, pk_mixed, sdl_len])
          refine ⟨_, _, rfl, fun y1 u2 u3 => ?_⟩
          (try simp only [V.str.injEq, HO.dK.injEq, a_tAug, a_tDisp, a_prs0, a_prs, a_rGetK, a_rSetK, a_tAugS, a_ipI, a_tPar3, a_tListR, a_iS0, a_tPop0, a_tCalK, g3r_is, g2r_is, g2_is, g1_is, a_rNePP, a_iEnum, a_tSeqL, a_tChain, a_tDict, a_tLstA, a_rEqT, a_tIns, a_tRev, a_rSlA, a_rCatA, a_rCatL, a_tSeq, a_tFor, a_rIxL, a_iZip, a_tSortR, a_tSl, a_rSlL0, a_tNoPart, a_tPart, a_tApp, a_tRet, a_tRetN, a_tNext, a_tDrop, a_tAsg, a_gSub, a_gName, a_gNil, a_gCons, a_gTup0, a_rSetL, a_tIfS, a_tAnd, a_tOr, a_tNot, a_tTest, a_tB, a_tTrue, a_tIf, a_tAndV, a_tOrV, a_tNotV, a_tOp, a_tUn, a_rU, a_tVar, a_tC, a_rI0, a_rI, a_rEq, a_rNe, a_rIx0, a_rIn0, a_tCB, a_tCal, a_tCons, a_tNil, a_tTupA, a_tLst, a_tPar, a_tBits, a_tLC, a_iRng1, a_iRng2, a_iT0, a_iL0, a_tEmit, frS, scal, V.ty.injEq, tyN, subN, String.reduceEq, String.reduceBEq, Bool.true_or, Bool.false_or, Bool.or_false, Bool.true_and, Bool.false_and, Bool.and_false, or_true, true_or, beq_self_eq_true, decide_true, decide_false, List.map_cons, List.map_nil, List.length_cons, List.length_nil, List.getElem?_cons_zero, List.getElem?_cons_succ, List.getElem?_nil, List.set_cons_zero, List.set_cons_succ, Option.some.injEq, Option.bind_some, Option.bind_none, id, exists_eq_left', exists_eq_left, exists_and_left, exists_eq_right, V.int.injEq, V.bl.injEq, V.ref.injEq, List.cons.injEq, and_true, true_and, and_assoc, exists_const, atI0, atI1, atI2, ixN30, ixN31, ixN32, upd_same, upd_upd, sq_updL, sq_updT, Nat.zero_add, Nat.reduceAdd, reduceCtorEq, false_and, and_false, exists_false, false_or, or_false, List.length_map, HO.lst.injEq, HO.tup.injEq, Bool.false_eq_true, if_false, if_true, decide_eq_true_eq, ite_true, ite_false, reduceIte, Int.reduceLT, Int.reduceLE, Nat.reduceLT, Int.zero_add, Bool.not_true, Bool.not_false, vk_cells, vk_at, vk_great, vk_left, vk_many, vk_mixed, pk_at, pk_great, pk_left, pk_many, pk_mixed, sdl_len])
          exact ⟨⟨by decide, by decide⟩, h1, fin _ _ _ _ _ _ _ sxG hlG (by omega)⟩
      · (simp only [a_later])
        (try simp only [V.str.injEq, HO.dK.injEq, a_tAug, a_tDisp, a_prs0, a_prs, a_rGetK, a_rSetK, a_tAugS, a_ipI, a_tPar3, a_tListR, a_iS0, a_tPop0, a_tCalK, g3r_is, g2r_is, g2_is, g1_is, a_rNePP, a_iEnum, a_tSeqL, a_tChain, a_tDict, a_tLstA, a_rEqT, a_tIns, a_tRev, a_rSlA, a_rCatA, a_rCatL, a_tSeq, a_tFor, a_rIxL, a_iZip, a_tSortR, a_tSl, a_rSlL0, a_tNoPart, a_tPart, a_tApp, a_tRet, a_tRetN, a_tNext, a_tDrop, a_tAsg, a_gSub, a_gName, a_gNil, a_gCons, a_gTup0, a_rSetL, a_tIfS, a_tAnd, a_tOr, a_tNot, a_tTest, a_tB, a_tTrue, a_tIf, a_tAndV, a_tOrV, a_tNotV, a_tOp, a_tUn, a_rU, a_tVar, a_tC, a_rI0, a_rI, a_rEq, a_rNe, a_rIx0, a_rIn0, a_tCB, a_tCal, a_tCons, a_tNil, a_tTupA, a_tLst, a_tPar, a_tBits, a_tLC, a_iRng1, a_iRng2, a_iT0, a_iL0, a_tEmit, frS, scal, V.ty.injEq, tyN, subN, String.reduceEq, String.reduceBEq, Bool.true_or, Bool.false_or, Bool.or_false, Bool.true_and, Bool.false_and, Bool.and_false, or_true, true_or, beq_self_eq_true, decide_true, decide_false, List.map_cons, List.map_nil, List.length_cons, List.length_nil, List.getElem?_cons_zero, List.getElem?_cons_succ, List.getElem?_nil, List.set_cons_zero, List.set_cons_succ, Option.some.injEq, Option.bind_some, Option.bind_none, id, exists_eq_left', exists_eq_left, exists_and_left, exists_eq_right, V.int.injEq, V.bl.injEq, V.ref.injEq, List.cons.injEq, and_true, true_and, and_assoc, exists_const, atI0, atI1, atI2, ixN30, ixN31, ixN32, upd_same, upd_upd, sq_updL, sq_updT, Nat.zero_add, Nat.reduceAdd, reduceCtorEq, false_and, and_false, exists_false, false_or, or_false, List.length_map, HO.lst.injEq, HO.tup.injEq, Bool.false_eq_true, if_false, if_true, decide_eq_true_eq, ite_true, ite_false, reduceIte, Int.reduceLT, Int.reduceLE, Nat.reduceLT, Int.zero_add, Bool.not_true, Bool.not_false, vk_cells, vk_at, vk_great, vk_left, vk_many, vk_mixed, pk_at, pk_great, pk_left, pk_many, pk_mixed, sdl_len])
        (simp only [a_later])
        (try simp only [V.str.injEq, HO.dK.injEq, a_tAug, a_tDisp, a_prs0, a_prs, a_rGetK, a_rSetK, a_tAugS, a_ipI, a_tPar3, a_tListR, a_iS0, a_tPop0, a_tCalK, g3r_is, g2r_is, g2_is, g1_is, a_rNePP, a_iEnum, a_tSeqL, a_tChain, a_tDict, a_tLstA, a_rEqT, a_tIns, a_tRev, a_rSlA, a_rCatA, a_rCatL, a_tSeq, a_tFor, a_rIxL, a_iZip, a_tSortR, a_tSl, a_rSlL0, a_tNoPart, a_tPart, a_tApp, a_tRet, a_tRetN, a_tNext, a_tDrop, a_tAsg, a_gSub, a_gName, a_gNil, a_gCons, a_gTup0, a_rSetL, a_tIfS, a_tAnd, a_tOr, a_tNot, a_tTest, a_tB, a_tTrue, a_tIf, a_tAndV, a_tOrV, a_tNotV, a_tOp, a_tUn, a_rU, a_tVar, a_tC, a_rI0, a_rI, a_rEq, a_rNe, a_rIx0, a_rIn0, a_tCB, a_tCal, a_tCons, a_tNil, a_tTupA, a_tLst, a_tPar, a_tBits, a_tLC, a_iRng1, a_iRng2, a_iT0, a_iL0, a_tEmit, frS, scal, V.ty.injEq, tyN, subN, String.reduceEq, String.reduceBEq, Bool.true_or, Bool.false_or, Bool.or_false, Bool.true_and, Bool.false_and, Bool.and_false, or_true, true_or, beq_self_eq_true, decide_true, decide_false, List.map_cons, List.map_nil, List.length_cons, List.length_nil, List.getElem?_cons_zero, List.getElem?_cons_succ, List.getElem?_nil, List.set_cons_zero, List.set_cons_succ, Option.some.injEq, Option.bind_some, Option.bind_none, id, exists_eq_left', exists_eq_left, exists_and_left, exists_eq_right, V.int.injEq, V.bl.injEq, V.ref.injEq, List.cons.injEq, and_true, true_and, and_assoc, exists_const, atI0, atI1, atI2, ixN30, ixN31, ixN32, upd_same, upd_upd, sq_updL, sq_updT, Nat.zero_add, Nat.reduceAdd, reduceCtorEq, false_and, and_false, exists_false, false_or, or_false, List.length_map, HO.lst.injEq, HO.tup.injEq, Bool.false_eq_true, if_false, if_true, decide_eq_true_eq, ite_true, ite_false, reduceIte, Int.reduceLT, Int.reduceLE, Nat.reduceLT, Int.zero_add, Bool.not_true, Bool.not_false, vk_cells, vk_at, vk_great, vk_left, vk_many, vk_mixed, pk_at, pk_great, pk_left, pk_many, pk_mixed, sdl_len])
        refine ⟨_, _, rfl, fun y0 u0 u1 => ?_⟩
        (try simp only [V.str.injEq, HO.dK.injEq, a_tAug, a_tDisp, a_prs0, a_prs, a_rGetK, a_rSetK, a_tAugS, a_ipI, a_tPar3, a_tListR, a_iS0, a_tPop0, a_tCalK, g3r_is, g2r_is, g2_is, g1_is, a_rNePP, a_iEnum, a_tSeqL, a_tChain, a_tDict, a_tLstA, a_rEqT, a_tIns, a_tRev, a_rSlA, a_rCatA, a_rCatL, a_tSeq, a_tFor, a_rIxL, a_iZip, a_tSortR, a_tSl, a_rSlL0, a_tNoPart, a_tPart, a_tApp, a_tRet, a_tRetN, a_tNext, a_tDrop, a_tAsg, a_gSub, a_gName, a_gNil, a_gCons, a_gTup0, a_rSetL, a_tIfS, a_tAnd, a_tOr, a_tNot, a_tTest, a_tB, a_tTrue, a_tIf, a_tAndV, a_tOrV, a_tNotV, a_tOp, a_tUn, a_rU, a_tVar, a_tC, a_rI0, a_rI, a_rEq, a_rNe, a_rIx0, a_rIn0, a_tCB, a_tCal, a_tCons, a_tNil, a_tTupA, a_tLst, a_tPar, a_tBits, a_tLC, a_iRng1, a_iRng2, a_iT0, a_iL0, a_tEmit, frS, scal, V.ty.injEq, tyN, subN, String.reduceEq, String.reduceBEq, Bool.true_or, Bool.false_or, Bool.or_false, Bool.true_and, Bool.false_and, Bool.and_false, or_true, true_or, beq_self_eq_true, decide_true, decide_false, List.map_cons, List.map_nil, List.length_cons, List.length_nil, List.getElem?_cons_zero, List.getElem?_cons_succ, List.getElem?_nil, List.set_cons_zero, List.set_cons_succ, Option.some.injEq, Option.bind_some, Option.bind_none, id, exists_eq_left', exists_eq_left, exists_and_left, exists_eq_right, V.int.injEq, V.bl.injEq, V.ref.injEq, List.cons.injEq, and_true, true_and, and_assoc, exists_const, atI0, atI1, atI2, ixN30, ixN31, ixN32, upd_same, upd_upd, sq_updL, sq_updT, Nat.zero_add, Nat.reduceAdd, reduceCtorEq, false_and, and_false, exists_false, false_or, or_false, List.length_map, HO.lst.injEq, HO.tup.injEq, Bool.false_eq_true, if_false, if_true, decide_eq_true_eq, ite_true, ite_false, reduceIte, Int.reduceLT, Int.reduceLE, Nat.reduceLT, Int.zero_add, Bool.not_true, Bool.not_false, vk_cells, vk_at, vk_great, vk_left, vk_many, vk_mixed, pk_at, pk_great, pk_left, pk_many, pk_mixed, sdl_len])
        (simp only [a_later])
        (try simp only [V.str.injEq, HO.dK.injEq, a_tAug, a_tDisp, a_prs0, a_prs, a_rGetK, a_rSetK, a_tAugS, a_ipI, a_tPar3, a_tListR, a_iS0, a_tPop0, a_tCalK, g3r_is, g2r_is, g2_is, g1_is, a_rNePP, a_iEnum, a_tSeqL, a_tChain, a_tDict, a_tLstA, a_rEqT, a_tIns, a_tRev, a_rSlA, a_rCatA, a_rCatL, a_tSeq, a_tFor, a_rIxL, a_iZip, a_tSortR, a_tSl, a_rSlL0, a_tNoPart, a_tPart, a_tApp, a_tRet, a_tRetN, a_tNext, a_tDrop, a_tAsg, a_gSub, a_gName, a_gNil, a_gCons, a_gTup0, a_rSetL, a_tIfS, a_tAnd, a_tOr, a_tNot, a_tTest, a_tB, a_tTrue, a_tIf, a_tAndV, a_tOrV, a_tNotV, a_tOp, a_tUn, a_rU, a_tVar, a_tC, a_rI0, a_rI, a_rEq, a_rNe, a_rIx0, a_rIn0, a_tCB, a_tCal, a_tCons, a_tNil, a_tTupA, a_tLst, a_tPar, a_tBits, a_tLC, a_iRng1, a_iRng2, a_iT0, a_iL0, a_tEmit, frS, scal, V.ty.injEq, tyN, subN, String.reduceEq, String.reduceBEq, Bool.true_or, Bool.false_or, Bool.or_false, Bool.true_and, Bool.false_and, Bool.and_false, or_true, true_or, beq_self_eq_true, decide_true, decide_false, List.map_cons, List.map_nil, List.length_cons, List.length_nil, List.getElem?_cons_zero, List.getElem?_cons_succ, List.getElem?_nil, List.set_cons_zero, List.set_cons_succ, Option.some.injEq, Option.bind_some, Option.bind_none, id, exists_eq_left', exists_eq_left, exists_and_left, exists_eq_right, V.int.injEq, V.bl.injEq, V.ref.injEq, List.cons.injEq, and_true, true_and, and_assoc, exists_const, atI0, atI1, atI2, ixN30, ixN31, ixN32, upd_same, upd_upd, sq_updL, sq_updT, Nat.zero_add, Nat.reduceAdd, reduceCtorEq, false_and, and_false, exists_false, false_or, or_false, List.length_map, HO.lst.injEq, HO.tup.injEq, Bool.false_eq_true, if_false, if_true, decide_eq_true_eq, ite_true, ite_false, reduceIte, Int.reduceLT, Int.reduceLE, Nat.reduceLT, Int.zero_add, Bool.not_true, Bool.not_false, vk_cells, vk_at, vk_great, vk_left, vk_many, vk_mixed, pk_at, pk_great, pk_left, pk_many, pk_mixed, sdl_len])
        refine ⟨_, _, rfl, fun y1 u2 u3 => ?_⟩
        (try simp only [V.str.injEq, HO.dK.injEq, a_tAug, a_tDisp, a_prs0, a_prs, a_rGetK, a_rSetK, a_tAugS, a_ipI, a_tPar3, a_tListR, a_iS0, a_tPop0, a_tCalK, g3r_is, g2r_is, g2_is, g1_is, a_rNePP, a_iEnum, a_tSeqL, a_tChain, a_tDict, a_tLstA, a_rEqT, a_tIns, a_tRev, a_rSlA, a_rCatA, a_rCatL, a_tSeq, a_tFor, a_rIxL, a_iZip, a_tSortR, a_tSl, a_rSlL0, a_tNoPart, a_tPart, a_tApp, a_tRet, a_tRetN, a_tNext, a_tDrop, a_tAsg, a_gSub, a_gName, a_gNil, a_gCons, a_gTup0, a_rSetL, a_tIfS, a_tAnd, a_tOr, a_tNot, a_tTest, a_tB, a_tTrue, a_tIf, a_tAndV, a_tOrV, a_tNotV, a_tOp, a_tUn, a_rU, a_tVar, a_tC, a_rI0, a_rI, a_rEq, a_rNe, a_rIx0, a_rIn0, a_tCB, a_tCal, a_tCons, a_tNil, a_tTupA, a_tLst, a_tPar, a_tBits, a_tLC, a_iRng1, a_iRng2, a_iT0, a_iL0, a_tEmit, frS, scal, V.ty.injEq, tyN, subN, String.reduceEq, String.reduceBEq, Bool.true_or, Bool.false_or, Bool.or_false, Bool.true_and, Bool.false_and, Bool.and_false, or_true, true_or, beq_self_eq_true, decide_true, decide_false, List.map_cons, List.map_nil, List.length_cons, List.length_nil, List.getElem?_cons_zero, List.getElem?_cons_succ, List.getElem?_nil, List.set_cons_zero, List.set_cons_succ, Option.some.injEq, Option.bind_some, Option.bind_none, id, exists_eq_left', exists_eq_left, exists_and_left, exists_eq_right, V.int.injEq, V.bl.injEq, V.ref.injEq, List.cons.injEq, and_true, true_and, and_assoc, exists_const, atI0, atI1, atI2, ixN30, ixN31, ixN32, upd_same, upd_upd, sq_updL, sq_updT, Nat.zero_add, Nat.reduceAdd, reduceCtorEq, false_and, and_false, exists_false, false_or, or_false, List.length_map, HO.lst.injEq, HO.tup.injEq, Bool.false_eq_true, if_false, if_true, decide_eq_true_eq, ite_true, ite_false, reduceIte, Int.reduceLT, Int.reduceLE, Nat.reduceLT, Int.zero_add, Bool.not_true, Bool.not_false, vk_cells, vk_at, vk_great, vk_left, vk_many, vk_mixed, pk_at, pk_great, pk_left, pk_many, pk_mixed, sdl_len])
        exact ⟨⟨by decide, by decide⟩, h1, fin _ _ _ _ _ _ _ sxG hlG (by omega)⟩
def sp_spool (K : PySem.W.Frag) : Sp := fun vs H Q _ => ∃ (a : Addr) (ns : List Int), vs = [.ref a] ∧ Scr K a ns H ∧ ∀ (p l : Addr) (H' : Hp), H p = none → H l = none → Same H H' → Spool H' p l → Q (.ref p) H'
theorem sc__law_spool : FnScope ["_law_script"] ["_law_script"] (defScope s__law_spool) := ⟨rfl, rfl, rfl, by decide +kernel, rfl, by decide +kernel, by decide +kernel⟩
theorem ok_spool (F : Fun K "_law_spool" "_law_spool" s__law_spool f fd) (hm : mg "_law_spool" = some (.ref f)) (hb : Binds K fd ["_law_script"] []) (T : Txt mg) : Cal P w K mg base "_law_spool" ["_law_script"] 1 (sp_spool K) := by
  refine cal_of F hm hb sc__law_spool (fun vs H Q E h => ?_) (fun cdv A outer s H vs Q E hr h => ?_)
  · obtain ⟨_, _, rfl, _⟩ := h; rfl
  · obtain ⟨a, ns, rfl, hq, q⟩ := h
    have sc := sc__law_spool
    refine ⟨_, pss_one (ps_ret (pe_disp (pps_cons pe_str (pe_callTy listS0 rfl T.list_ bt_list (pa_cons (pv 0) pa_nil)) (pps_cons pe_str pe_int (pps_cons pe_str pe_int (pps_cons pe_str pe_int (pps_cons pe_str pe_int (pps_cons pe_str pe_int pps_nil)))))) rfl rfl (by decide) (by decide))), ?_⟩
    rw [show L2.start ["_law_script"] [.ref a] = [some (.ref a)] from rfl]
    (walk_at "rd")
    intro p np
    have sx : SameX p H (upd H p (HO.dK [])) := SameX.upd
    refine ⟨_, hq.keep np sx, fun l H2 nl s2 e2 => ?_⟩
    have ep := s2 p _ upd_same
    have nlp : l ≠ p := fun z => by rw [z, upd_same] at nl; cases nl
    refine ⟨ep, sdl l 0 0 0 0 53, rfl, by show 6 ≤ 15; decide, ?_⟩
    rw [show mergeK [] (sdl l 0 0 0 0 53) = sdl l 0 0 0 0 53 from rfl]
    refine q p l _ np (by rw [upd_ne nlp] at nl; exact nl) (fun b o e => ?_) ⟨ns, 0, 0, 0, 0, 53, upd_same, by rw [upd_ne nlp]; exact e2, nlp, by decide⟩
    have nb : b ≠ p := fun z => by rw [z, np] at e; cases e
    rw [upd_ne nb]
    exact s2 _ _ (by rw [upd_ne nb]; exact e)
end
end K44
end
section
set_option Elab.async false
set_option linter.all false
set_option maxRecDepth 100000
set_option maxHeartbeats 8000000
namespace K44
open PySem L2
local macro_rules | `(tactic| walk_at "rd") => `(tactic| (try simp only [V.str.injEq, HO.dK.injEq, a_tAug, a_tDisp, a_prs0, a_prs, a_rGetK, a_rSetK, a_tAugS, a_ipI, a_tPar3, a_tListR, a_iS0, a_tPop0, a_tCalK, g3r_is, g2r_is, g2_is, g1_is, a_rNePP, a_iEnum, a_tSeqL, a_tChain, a_tDict, a_tLstA, a_rEqT, a_tIns, a_tRev, a_rSlA, a_rCatA, a_rCatL, a_tSeq, a_tFor, a_rIxL, a_iZip, a_tSortR, a_tSl, a_rSlL0, a_tNoPart, a_tPart, a_tApp, a_tRet, a_tRetN, a_tNext, a_tDrop, a_tAsg, a_gSub, a_gName, a_gNil, a_gCons, a_gTup0, a_rSetL, a_tIfS, a_tAnd, a_tOr, a_tNot, a_tTest, a_tB, a_tTrue, a_tIf, a_tAndV, a_tOrV, a_tNotV, a_tOp, a_tUn, a_rU, a_tVar, a_tC, a_rI0, a_rI, a_rEq, a_rNe, a_rIx0, a_rIn0, a_tCB, a_tCal, a_tCons, a_tNil, a_tTupA, a_tLst, a_tPar, a_tBits, a_tLC, a_iRng1, a_iRng2, a_iT0, a_iL0, a_tEmit, frS, scal, V.ty.injEq, tyN, subN, String.reduceEq, String.reduceBEq, Bool.true_or, Bool.false_or, Bool.or_false, Bool.true_and, Bool.false_and, Bool.and_false, or_true, true_or, beq_self_eq_true, decide_true, decide_false, List.map_cons, List.map_nil, List.length_cons, List.length_nil, List.getElem?_cons_zero, List.getElem?_cons_succ, List.getElem?_nil, List.set_cons_zero, List.set_cons_succ, Option.some.injEq, Option.bind_some, Option.bind_none, id, exists_eq_left', exists_eq_left, exists_and_left, exists_eq_right, V.int.injEq, V.bl.injEq, V.ref.injEq, List.cons.injEq, and_true, true_and, and_assoc, exists_const, atI0, atI1, atI2, ixN30, ixN31, ixN32, upd_same, upd_upd, sq_updL, sq_updT, Nat.zero_add, Nat.reduceAdd, reduceCtorEq, false_and, and_false, exists_false, false_or, or_false, List.length_map, HO.lst.injEq, HO.tup.injEq, Bool.false_eq_true, if_false, if_true, decide_eq_true_eq, ite_true, ite_false, reduceIte, Int.reduceLT, Int.reduceLE, Nat.reduceLT, Int.zero_add, Bool.not_true, Bool.not_false]))
section
variable {P : Program} {w : World} {K : PySem.W.Frag} {mg : Str → Option Value} {base : Heap} {f : Addr} {fd : FuncData}
def costsL (ns : List Int) : List Int := ns.foldl (fun t p => t ++ t.map (fun h => h + p)) [0]
theorem costs_snoc (ns : List Int) (p : Int) : costsL (ns ++ [p]) = costsL ns ++ (costsL ns).map (fun h => h + p) := by unfold costsL; rw [List.foldl_append]; rfl
theorem fold_len (ns : List Int) : ∀ t : List Int, (ns.foldl (fun t p => t ++ t.map (fun h => h + p)) t).length = t.length * 2 ^ ns.length := by
  induction ns with
  | nil => intro t; simp
  | cons p ns ih => intro t; rw [List.foldl_cons, ih, List.length_append, List.length_map, List.length_cons, Nat.pow_succ, ← Nat.two_mul, Nat.mul_comm 2 t.length, Nat.mul_assoc, Nat.mul_comm 2]
theorem costs_len (ns : List Int) : (costsL ns).length = 2 ^ ns.length := by unfold costsL; rw [fold_len]; simp
theorem pow32 {m : Nat} (h : m ≤ 5) : 2 ^ m ≤ 32 ∧ 0 < 2 ^ m := by
  have h6 : m = 0 ∨ m = 1 ∨ m = 2 ∨ m = 3 ∨ m = 4 ∨ m = 5 := by omega
  rcases h6 with e | e | e | e | e | e <;> rw [e] <;> decide
def IsT (H : Hp) (a : Addr) (ns : List Int) : Prop := H a = some (.tup (ns.map V.int)) ∨ H a = some (.lst (ns.map V.int))
theorem IsT.o {H : Hp} {a : Addr} {ns : List Int} (h : IsT H a ns) : ∃ o, (o = HO.tup (ns.map V.int) ∨ o = HO.lst (ns.map V.int)) ∧ H a = some o := by
  rcases h with h | h
  · exact ⟨_, .inl rfl, h⟩
  · exact ⟨_, .inr rfl, h⟩
theorem IsT.same {H H' : Hp} {a : Addr} {ns : List Int} (h : IsT H a ns) (s : Same H H') : IsT H' a ns := h.imp (fun h => s _ _ h) fun h => s _ _ h
def sp_costs : Sp := fun vs H Q _ => ∃ (a : Addr) (ns : List Int), vs = [.ref a] ∧ IsT H a ns ∧ ns.length ≤ 5 ∧ ∀ (t : Addr) (H' : Hp), H t = none → Same H H' → H' t = some (.lst ((costsL ns).map V.int)) → Q (.ref t) H'
def CI (a : Addr) (ns : List Int) (G : Hp) (i : Nat) (σ : St) (H : Hp) : Prop := ∃ (v : Option V) (t : Addr), σ = [some (.ref a), some (.ref t), v] ∧ G t = none ∧ Same G H ∧ H t = some (.lst ((costsL (ns.take i)).map V.int))
def CJ (c : Addr) (ts : List Int) (p : Int) (G : Hp) (i : Nat) (σ : St) (H : Hp) : Prop := ∃ v : Option V, σ = [v, some (.int p)] ∧ SameX c G H ∧ H c = some (.lst (((ts.map fun h => h + p).take i).map V.int))
theorem sc_costs : FnScope ["prices", "told", "price"] ["prices"] (defScope s_costs) := ⟨rfl, rfl, rfl, by decide +kernel, rfl, by decide +kernel, by decide +kernel⟩
theorem ok_costs (F : Fun K "costs" "costs" s_costs f fd) (hm : mg "costs" = some (.ref f)) (hb : Binds K fd ["prices"] []) (T : Txt mg) : Cal P w K mg base "costs" ["prices"] 1 sp_costs := by
  refine cal_of F hm hb sc_costs (fun vs H Q E h => ?_) (fun cdv A outer s H vs Q E hr h => ?_)
  · obtain ⟨_, _, rfl, _⟩ := h; rfl
  · obtain ⟨a, ns, rfl, ha, h5, q⟩ := h
    have sc := sc_costs
    refine ⟨_, pss_cons (ps_set (i := 1) sc.nd rfl (Or.inl rfl) (pe_lstA (pa_cns pe_int pa_nil)))
      (pss_cons (ps_for PassesOwn.never rfl (pi_s0 (pv 0)) (pg_name (i := 2) sc.nd rfl (Or.inr rfl))
        (pss_one (ps_set (i := 1) sc.nd rfl (Or.inl rfl) (pe_op catL0 (pv 1) (pe_lc (N := ["here", "price"]) (fr := [none, some 2]) rfl (pi_l0 (pv 1)) (CScope.of rfl rfl rfl) rfl (fun _ _ _ => ⟨pg_name (i := 0) (show List.Nodup (α := Str) ["here", "price"] by decide +kernel) rfl (Or.inl rfl), pif_nil, pe_op op_add (pv 0) (pv 1)⟩))))))
      (pss_one (ps_ret (pv 1)))), ?_⟩
    rw [show L2.start ["prices", "told", "price"] [.ref a] = [some (.ref a), none, none] from rfl]
    (walk_at "rd")
    refine ⟨by decide, fun t0 H1 n1 s1 e1 => ?_⟩
    obtain ⟨o, ho, hao⟩ := ha.o
    refine ⟨_, o, ho, s1 _ _ hao, fl_seq (CI a ns H) ⟨_, t0, rfl, n1, s1, e1⟩ (fun j σ H' _ ⟨_, _, _, _, s, _⟩ => s _ _ hao) ?_ ?_⟩
    · rintro i x σ H2 hx ⟨v, t, rfl, nt, s2, e2⟩
      rw [List.getElem?_map] at hx
      obtain ⟨p, hp, rfl⟩ := Option.map_eq_some_iff.mp hx
      have hi : i < ns.length := (List.getElem?_eq_some_iff.mp hp).1
      (try simp only [V.str.injEq, HO.dK.injEq, a_tAug, a_tDisp, a_prs0, a_prs, a_rGetK, a_rSetK, a_tAugS, a_ipI, a_tPar3, a_tListR, a_iS0, a_tPop0, a_tCalK, g3r_is, g2r_is, g2_is, g1_is, a_rNePP, a_iEnum, a_tSeqL, a_tChain, a_tDict, a_tLstA, a_rEqT, a_tIns, a_tRev, a_rSlA, a_rCatA, a_rCatL, a_tSeq, a_tFor, a_rIxL, a_iZip, a_tSortR, a_tSl, a_rSlL0, a_tNoPart, a_tPart, a_tApp, a_tRet, a_tRetN, a_tNext, a_tDrop, a_tAsg, a_gSub, a_gName, a_gNil, a_gCons, a_gTup0, a_rSetL, a_tIfS, a_tAnd, a_tOr, a_tNot, a_tTest, a_tB, a_tTrue, a_tIf, a_tAndV, a_tOrV, a_tNotV, a_tOp, a_tUn, a_rU, a_tVar, a_tC, a_rI0, a_rI, a_rEq, a_rNe, a_rIx0, a_rIn0, a_tCB, a_tCal, a_tCons, a_tNil, a_tTupA, a_tLst, a_tPar, a_tBits, a_tLC, a_iRng1, a_iRng2, a_iT0, a_iL0, a_tEmit, frS, scal, V.ty.injEq, tyN, subN, String.reduceEq, String.reduceBEq, Bool.true_or, Bool.false_or, Bool.or_false, Bool.true_and, Bool.false_and, Bool.and_false, or_true, true_or, beq_self_eq_true, decide_true, decide_false, List.map_cons, List.map_nil, List.length_cons, List.length_nil, List.getElem?_cons_zero, List.getElem?_cons_succ, List.getElem?_nil, List.set_cons_zero, List.set_cons_succ, Option.some.injEq, Option.bind_some, Option.bind_none, id, exists_eq_left', exists_eq_left, exists_and_left, exists_eq_right, V.int.injEq, V.bl.injEq, V.ref.injEq, List.cons.injEq, and_true, true_and, and_assoc, exists_const, atI0, atI1, atI2, ixN30, ixN31, ixN32, upd_same, upd_upd, sq_updL, sq_updT, Nat.zero_add, Nat.reduceAdd, reduceCtorEq, false_and, and_false, exists_false, false_or, or_false, List.length_map, HO.lst.injEq, HO.tup.injEq, Bool.false_eq_true, if_false, if_true, decide_eq_true_eq, ite_true, ite_false, reduceIte, Int.reduceLT, Int.reduceLE, Nat.reduceLT, Int.zero_add, Bool.not_true, Bool.not_false, e2])
      intro c nc
      have ntc : t ≠ c := ne_of_none e2 nc
      have p32 := pow32 (m := (ns.take i).length) (by rw [List.length_take]; omega)
      refine cl_seq (CJ c (costsL (ns.take i)) p H2) ⟨none, rfl, SameX.upd, upd_same⟩ (fun j σ H' _ ⟨_, _, s, _⟩ => s _ _ ntc e2) ?_ ?_
      · rintro j y σ H3 hy ⟨v3, rfl, s3, e3⟩
        rw [List.getElem?_map] at hy
        obtain ⟨z, hz, rfl⟩ := Option.map_eq_some_iff.mp hy
        have hj : j < (costsL (ns.take i)).length := (List.getElem?_eq_some_iff.mp hz).1
        rw [costs_len] at hj
        (try simp only [V.str.injEq, HO.dK.injEq, a_tAug, a_tDisp, a_prs0, a_prs, a_rGetK, a_rSetK, a_tAugS, a_ipI, a_tPar3, a_tListR, a_iS0, a_tPop0, a_tCalK, g3r_is, g2r_is, g2_is, g1_is, a_rNePP, a_iEnum, a_tSeqL, a_tChain, a_tDict, a_tLstA, a_rEqT, a_tIns, a_tRev, a_rSlA, a_rCatA, a_rCatL, a_tSeq, a_tFor, a_rIxL, a_iZip, a_tSortR, a_tSl, a_rSlL0, a_tNoPart, a_tPart, a_tApp, a_tRet, a_tRetN, a_tNext, a_tDrop, a_tAsg, a_gSub, a_gName, a_gNil, a_gCons, a_gTup0, a_rSetL, a_tIfS, a_tAnd, a_tOr, a_tNot, a_tTest, a_tB, a_tTrue, a_tIf, a_tAndV, a_tOrV, a_tNotV, a_tOp, a_tUn, a_rU, a_tVar, a_tC, a_rI0, a_rI, a_rEq, a_rNe, a_rIx0, a_rIn0, a_tCB, a_tCal, a_tCons, a_tNil, a_tTupA, a_tLst, a_tPar, a_tBits, a_tLC, a_iRng1, a_iRng2, a_iT0, a_iL0, a_tEmit, frS, scal, V.ty.injEq, tyN, subN, String.reduceEq, String.reduceBEq, Bool.true_or, Bool.false_or, Bool.or_false, Bool.true_and, Bool.false_and, Bool.and_false, or_true, true_or, beq_self_eq_true, decide_true, decide_false, List.map_cons, List.map_nil, List.length_cons, List.length_nil, List.getElem?_cons_zero, List.getElem?_cons_succ, List.getElem?_nil, List.set_cons_zero, List.set_cons_succ, Option.some.injEq, Option.bind_some, Option.bind_none, id, exists_eq_left', exists_eq_left, exists_and_left, exists_eq_right, V.int.injEq, V.bl.injEq, V.ref.injEq, List.cons.injEq, and_true, true_and, and_assoc, exists_const, atI0, atI1, atI2, ixN30, ixN31, ixN32, upd_same, upd_upd, sq_updL, sq_updT, Nat.zero_add, Nat.reduceAdd, reduceCtorEq, false_and, and_false, exists_false, false_or, or_false, List.length_map, HO.lst.injEq, HO.tup.injEq, Bool.false_eq_true, if_false, if_true, decide_eq_true_eq, ite_true, ite_false, reduceIte, Int.reduceLT, Int.reduceLE, Nat.reduceLT, Int.zero_add, Bool.not_true, Bool.not_false, e3])
        refine ⟨small1000 (by rw [List.length_take]; omega), ⟨_, rfl, s3.trans SameX.upd, ?_⟩⟩
        rw [upd_same, List.take_add_one, List.getElem?_map, hz]
        simp
      · rintro σ H3 ⟨v3, rfl, s3, e3⟩
        rw [List.length_map, List.take_of_length_le (by simp)] at e3
        have S3 := s3.same nc
        have e23 := S3 _ _ e2
        (try simp only [V.str.injEq, HO.dK.injEq, a_tAug, a_tDisp, a_prs0, a_prs, a_rGetK, a_rSetK, a_tAugS, a_ipI, a_tPar3, a_tListR, a_iS0, a_tPop0, a_tCalK, g3r_is, g2r_is, g2_is, g1_is, a_rNePP, a_iEnum, a_tSeqL, a_tChain, a_tDict, a_tLstA, a_rEqT, a_tIns, a_tRev, a_rSlA, a_rCatA, a_rCatL, a_tSeq, a_tFor, a_rIxL, a_iZip, a_tSortR, a_tSl, a_rSlL0, a_tNoPart, a_tPart, a_tApp, a_tRet, a_tRetN, a_tNext, a_tDrop, a_tAsg, a_gSub, a_gName, a_gNil, a_gCons, a_gTup0, a_rSetL, a_tIfS, a_tAnd, a_tOr, a_tNot, a_tTest, a_tB, a_tTrue, a_tIf, a_tAndV, a_tOrV, a_tNotV, a_tOp, a_tUn, a_rU, a_tVar, a_tC, a_rI0, a_rI, a_rEq, a_rNe, a_rIx0, a_rIn0, a_tCB, a_tCal, a_tCons, a_tNil, a_tTupA, a_tLst, a_tPar, a_tBits, a_tLC, a_iRng1, a_iRng2, a_iT0, a_iL0, a_tEmit, frS, scal, V.ty.injEq, tyN, subN, String.reduceEq, String.reduceBEq, Bool.true_or, Bool.false_or, Bool.or_false, Bool.true_and, Bool.false_and, Bool.and_false, or_true, true_or, beq_self_eq_true, decide_true, decide_false, List.map_cons, List.map_nil, List.length_cons, List.length_nil, List.getElem?_cons_zero, List.getElem?_cons_succ, List.getElem?_nil, List.set_cons_zero, List.set_cons_succ, Option.some.injEq, Option.bind_some, Option.bind_none, id, exists_eq_left', exists_eq_left, exists_and_left, exists_eq_right, V.int.injEq, V.bl.injEq, V.ref.injEq, List.cons.injEq, and_true, true_and, and_assoc, exists_const, atI0, atI1, atI2, ixN30, ixN31, ixN32, upd_same, upd_upd, sq_updL, sq_updT, Nat.zero_add, Nat.reduceAdd, reduceCtorEq, false_and, and_false, exists_false, false_or, or_false, List.length_map, HO.lst.injEq, HO.tup.injEq, Bool.false_eq_true, if_false, if_true, decide_eq_true_eq, ite_true, ite_false, reduceIte, Int.reduceLT, Int.reduceLE, Nat.reduceLT, Int.zero_add, Bool.not_true, Bool.not_false, e23, e3])
        refine ⟨?_, fun t' H4 nt' s4 e4 => ⟨_, t', rfl, none_same (s2.trans S3) nt', (s2.trans S3).trans s4, ?_⟩⟩
        · rw [costs_len]
          exact Nat.le_of_lt (small1000 (by omega))
        · rw [e4, List.take_add_one, hp]
          show some (HO.lst _) = some (HO.lst ((costsL (ns.take i ++ [p])).map V.int))
          rw [costs_snoc, List.map_append]
    · rintro σ H2 ⟨v, t, rfl, nt, s2, e2⟩
      rw [List.length_map, List.take_length] at e2
      (walk_at "rd")
      exact q t H2 nt s2 e2
def zw (g : Int → Int → Int) (ns ms : List Int) : List Int := (ns.zip ms).map fun q => g q.1 q.2
theorem zw_at {g : Int → Int → Int} {ns ms : List Int} {i : Nat} {x y : Int} (hx : ns[i]? = some x) (hy : ms[i]? = some y) : (zw g ns ms)[i]? = some (g x y) := by
  have hz : (ns.zip ms)[i]? = some (x, y) := by rw [List.getElem?_zip_eq_some]; exact ⟨hx, hy⟩
  unfold zw
  rw [List.getElem?_map, hz]
  rfl
theorem zw_len {g : Int → Int → Int} {ns ms : List Int} (h : ns.length = ms.length) : (zw g ns ms).length = ns.length := by
  unfold zw
  rw [List.length_map, List.length_zip]
  omega
def ZW (c : Addr) (g : Int → Int → Int) (ns ms : List Int) (τ : List (Option V)) (G : Hp) (i : Nat) (σ : St) (H : Hp) : Prop := ∃ v1 v2 : Option V, σ = v1 :: v2 :: τ ∧ SameX c G H ∧ H c = some (.lst (((zw g ns ms).take i).map V.int))
def gainsL (ws ns : List Int) : List Int := zw (fun x y => x - y) ws (costsL ns)
theorem gainsL_len {ws ns : List Int} (h : ws.length = 2 ^ ns.length) : (gainsL ws ns).length = 2 ^ ns.length := by unfold gainsL; rw [zw_len (by rw [costs_len]; exact h)]; exact h
def sp_gains : Sp := fun vs H Q _ => ∃ (d a : Addr) (ws ns : List Int), vs = [.ref d, .ref a] ∧ H d = some (.tup (ws.map V.int)) ∧ H a = some (.tup (ns.map V.int)) ∧ ns.length ≤ 5 ∧ ws.length = 2 ^ ns.length ∧ ∀ (t : Addr) (H' : Hp), H t = none → Same H H' → H' t = some (.lst ((gainsL ws ns).map V.int)) → Q (.ref t) H'
theorem sc_gains : FnScope ["want", "prices"] ["want", "prices"] (defScope s_gains) := ⟨rfl, rfl, rfl, by decide +kernel, rfl, by decide +kernel, by decide +kernel⟩
theorem ok_gains (F : Fun K "gains" "gains" s_gains f fd) (hm : mg "gains" = some (.ref f)) (hb : Binds K fd ["want", "prices"] []) (T : Txt mg) (c_costs : Cal P w K mg base "costs" ["prices"] 1 sp_costs) : Cal P w K mg base "gains" ["want", "prices"] 2 sp_gains := by
  refine cal_of F hm hb sc_gains (fun vs H Q E h => ?_) (fun cdv A outer s H vs Q E hr h => ?_)
  · obtain ⟨_, _, _, _, rfl, _⟩ := h; rfl
  · obtain ⟨d, a, ws, ns, rfl, hd, ha, h5, hl, q⟩ := h
    have sc := sc_gains
    refine ⟨_, pss_one (ps_ret (pe_lc (N := ["worth", "paid"]) (fr := [none, none]) rfl (pi_zip rfl T.zip_ (pa_cns (pv 0) (pa_cns (pe_cal c_costs hr (pa_cns (pv 1) pa_nil)) pa_nil))) (CScope.of rfl rfl rfl) rfl (fun _ _ _ => ⟨pg_tup0 (n := 2) rfl (pgs_cons (pg_name (i := 0) (show List.Nodup (α := Str) ["worth", "paid"] by decide +kernel) rfl (Or.inl rfl)) (pgs_cons (pg_name (i := 1) (show List.Nodup (α := Str) ["worth", "paid"] by decide +kernel) rfl (Or.inl rfl)) pgs_nil)), pif_nil, pe_op op_sub (pv 0) (pv 1)⟩))), ?_⟩
    rw [show L2.start ["want", "prices"] [.ref d, .ref a] = [some (.ref d), some (.ref a)] from rfl]
    (walk_at "rd")
    refine ⟨a, ns, rfl, .inl ha, h5, fun t H1 n1 s1 e1 => ?_⟩
    have hd1 := s1 _ _ hd
    (walk_at "rd")
    refine ⟨_, _, _, .inr ⟨rfl, hd1⟩, _, .inl ⟨rfl, e1⟩, fun c nc => ?_⟩
    have ncd : d ≠ c := ne_of_none hd1 nc
    have nct : t ≠ c := ne_of_none e1 nc
    have p32 := pow32 h5
    refine cl_zip (ZW c (fun x y => x - y) ws (costsL ns) [] H1) ⟨none, none, rfl, SameX.upd, upd_same⟩ (fun i σ H2 ⟨_, _, _, s, _⟩ => ⟨.inr ⟨rfl, s _ _ ncd hd1⟩, .inl ⟨rfl, s _ _ nct e1⟩⟩) ?_ ?_
    · rintro i u v t' σ H2 H3 hu hv ⟨v1, v2, rfl, s2, e2⟩ nt s3 e3
      rw [List.getElem?_map] at hu hv
      obtain ⟨x, hx, rfl⟩ := Option.map_eq_some_iff.mp hu
      obtain ⟨y, hy, rfl⟩ := Option.map_eq_some_iff.mp hv
      have ec := s3 _ _ e2
      (try simp only [V.str.injEq, HO.dK.injEq, a_tAug, a_tDisp, a_prs0, a_prs, a_rGetK, a_rSetK, a_tAugS, a_ipI, a_tPar3, a_tListR, a_iS0, a_tPop0, a_tCalK, g3r_is, g2r_is, g2_is, g1_is, a_rNePP, a_iEnum, a_tSeqL, a_tChain, a_tDict, a_tLstA, a_rEqT, a_tIns, a_tRev, a_rSlA, a_rCatA, a_rCatL, a_tSeq, a_tFor, a_rIxL, a_iZip, a_tSortR, a_tSl, a_rSlL0, a_tNoPart, a_tPart, a_tApp, a_tRet, a_tRetN, a_tNext, a_tDrop, a_tAsg, a_gSub, a_gName, a_gNil, a_gCons, a_gTup0, a_rSetL, a_tIfS, a_tAnd, a_tOr, a_tNot, a_tTest, a_tB, a_tTrue, a_tIf, a_tAndV, a_tOrV, a_tNotV, a_tOp, a_tUn, a_rU, a_tVar, a_tC, a_rI0, a_rI, a_rEq, a_rNe, a_rIx0, a_rIn0, a_tCB, a_tCal, a_tCons, a_tNil, a_tTupA, a_tLst, a_tPar, a_tBits, a_tLC, a_iRng1, a_iRng2, a_iT0, a_iL0, a_tEmit, frS, scal, V.ty.injEq, tyN, subN, String.reduceEq, String.reduceBEq, Bool.true_or, Bool.false_or, Bool.or_false, Bool.true_and, Bool.false_and, Bool.and_false, or_true, true_or, beq_self_eq_true, decide_true, decide_false, List.map_cons, List.map_nil, List.length_cons, List.length_nil, List.getElem?_cons_zero, List.getElem?_cons_succ, List.getElem?_nil, List.set_cons_zero, List.set_cons_succ, Option.some.injEq, Option.bind_some, Option.bind_none, id, exists_eq_left', exists_eq_left, exists_and_left, exists_eq_right, V.int.injEq, V.bl.injEq, V.ref.injEq, List.cons.injEq, and_true, true_and, and_assoc, exists_const, atI0, atI1, atI2, ixN30, ixN31, ixN32, upd_same, upd_upd, sq_updL, sq_updT, Nat.zero_add, Nat.reduceAdd, reduceCtorEq, false_and, and_false, exists_false, false_or, or_false, List.length_map, HO.lst.injEq, HO.tup.injEq, Bool.false_eq_true, if_false, if_true, decide_eq_true_eq, ite_true, ite_false, reduceIte, Int.reduceLT, Int.reduceLE, Nat.reduceLT, Int.zero_add, Bool.not_true, Bool.not_false, e3, ec])
      have hi : i < ws.length := (List.getElem?_eq_some_iff.mp hx).1
      refine ⟨small1000 (by rw [List.length_take]; omega), ⟨_, _, rfl, (s2.trans s3.x).trans SameX.upd, ?_⟩⟩
      rw [upd_same, List.take_add_one, zw_at hx hy]
      simp
    · rintro σ H2 ⟨v1, v2, rfl, s2, e2⟩
      rw [List.length_map, List.length_map, List.take_of_length_le (by rw [zw_len (by rw [costs_len]; exact hl), costs_len]; omega)] at e2
      have S2 := s1.trans (s2.same nc)
      exact q c H2 (none_same s1 nc) S2 e2
theorem gains_ne {ws ns : List Int} (h5 : ns.length ≤ 5) (h : ws.length = 2 ^ ns.length) : gainsL ws ns ≠ [] := by
  intro e
  have := gainsL_len h
  rw [e] at this
  have p := pow32 h5
  simp at this
  omega
def idxL (g : List Int) (m : Int) (k : Nat) : List Int := ((List.range k).filter fun i => decide (g.getD i 0 = m)).map fun i : Nat => (i : Int)
theorem idxL_succ (g : List Int) (m : Int) (k : Nat) : idxL g m (k + 1) = idxL g m k ++ if g.getD k 0 = m then [(k : Int)] else [] := by
  unfold idxL
  rw [List.range_succ, List.filter_append, List.map_append]
  congr 1
  by_cases h : g.getD k 0 = m
  · rw [if_pos h]; simp only [List.filter, decide_eq_true h, List.map]
  · rw [if_neg h]; simp only [List.filter, decide_eq_false h, List.map]
theorem idxL_len (g : List Int) (m : Int) (k : Nat) : (idxL g m k).length ≤ k := by
  unfold idxL
  rw [List.length_map]
  exact Nat.le_trans (List.length_filter_le _ _) (by simp)
theorem exists_max : ∀ g : List Int, g ≠ [] → ∃ m ∈ g, ∀ x ∈ g, x ≤ m
  | [x], _ => ⟨x, by simp, fun y hy => by
      have : y = x := by simpa using hy
      omega⟩
  | x :: y :: g, _ => by
    obtain ⟨m, hm, hx⟩ := exists_max (y :: g) (by simp)
    by_cases h : x ≤ m
    · exact ⟨m, List.mem_cons_of_mem _ hm, fun z hz => by
        rcases List.mem_cons.mp hz with rfl | hz
        · exact h
        · exact hx z hz⟩
    · exact ⟨x, List.mem_cons_self, fun z hz => by
        rcases List.mem_cons.mp hz with rfl | hz
        · exact Int.le_refl _
        · have := hx z hz
          omega⟩
def sp_best : Sp := fun vs H Q _ => ∃ (d a : Addr) (ws ns : List Int) (m : Int), vs = [.ref d, .ref a] ∧ H d = some (.tup (ws.map V.int)) ∧ H a = some (.tup (ns.map V.int)) ∧ ns.length ≤ 5 ∧ ws.length = 2 ^ ns.length ∧ m ∈ gainsL ws ns ∧ (∀ x ∈ gainsL ws ns, x ≤ m) ∧ ∀ (t : Addr) (H' : Hp), H t = none → Same H H' → H' t = some (.tup ((idxL (gainsL ws ns) m (gainsL ws ns).length).map V.int)) → Q (.ref t) H'
def BI (c : Addr) (g : List Int) (m : Int) (G : Hp) (i : Nat) (σ : St) (H : Hp) : Prop := ∃ v1 v2 : Option V, σ = [v1, v2, some (.int m)] ∧ SameX c G H ∧ H c = some (.lst ((idxL g m i).map V.int))
theorem sc_best_heaps : FnScope ["want", "prices", "told", "most"] ["want", "prices"] (defScope s_best_heaps) := ⟨rfl, rfl, rfl, by decide +kernel, rfl, by decide +kernel, by decide +kernel⟩
theorem ok_best (F : Fun K "best_heaps" "best_heaps" s_best_heaps f fd) (T : Txt mg) (c_gains : Cal P w K mg base "gains" ["want", "prices"] 2 sp_gains) : FnOk P w K mg base CX0 3 f fd ["want", "prices"] sp_best := by
  refine F.ok sc_best_heaps (fun vs H Q E h => ?_) (fun cdv A outer s H vs Q E hr h => ?_)
  · obtain ⟨_, _, _, _, _, rfl, _⟩ := h; rfl
  · obtain ⟨d, a, ws, ns, m, rfl, hd, ha, h5, hl, hm1, hm2, q⟩ := h
    have sc := sc_best_heaps
    refine ⟨_, pss_cons (ps_set (i := 2) sc.nd rfl (Or.inl rfl) (pe_cal c_gains hr (pa_cns (pv 0) (pa_cns (pv 1) pa_nil))))
      (pss_cons (ps_set (i := 3) sc.nd rfl (Or.inr rfl) (pe_callB (max0 rfl) rfl T.max_ bt_max (pa_cns (pv 2) pa_nil)))
      (pss_one (ps_ret (pe_callTy tupA0 rfl T.tuple_ bt_tuple (pa_cns (pe_lc (N := ["heap", "here", "most"]) (fr := [none, none, some 3]) rfl (pi_enum rfl T.enumerate_ (pa_cns (pv 2) pa_nil)) (CScope.of rfl rfl rfl) rfl (fun _ _ _ => ⟨pg_tup0 (n := 2) rfl (pgs_cons (pg_name (i := 0) (show List.Nodup (α := Str) ["heap", "here", "most"] by decide +kernel) rfl (Or.inl rfl)) (pgs_cons (pg_name (i := 1) (show List.Nodup (α := Str) ["heap", "here", "most"] by decide +kernel) rfl (Or.inl rfl)) pgs_nil)), pif_one (pt_cmpR op_eq (pv 1) (pv 2) (nomark _)), pv 0⟩)) pa_nil))))), ?_⟩
    rw [show L2.start ["want", "prices", "told", "most"] [.ref d, .ref a] = [some (.ref d), some (.ref a), none, none] from rfl]
    (walk_at "rd")
    refine ⟨d, a, ws, ns, rfl, hd, ha, h5, hl, fun t H1 n1 s1 e1 => ?_⟩
    have hs := sq_lst e1
    (try simp only [V.str.injEq, HO.dK.injEq, a_tAug, a_tDisp, a_prs0, a_prs, a_rGetK, a_rSetK, a_tAugS, a_ipI, a_tPar3, a_tListR, a_iS0, a_tPop0, a_tCalK, g3r_is, g2r_is, g2_is, g1_is, a_rNePP, a_iEnum, a_tSeqL, a_tChain, a_tDict, a_tLstA, a_rEqT, a_tIns, a_tRev, a_rSlA, a_rCatA, a_rCatL, a_tSeq, a_tFor, a_rIxL, a_iZip, a_tSortR, a_tSl, a_rSlL0, a_tNoPart, a_tPart, a_tApp, a_tRet, a_tRetN, a_tNext, a_tDrop, a_tAsg, a_gSub, a_gName, a_gNil, a_gCons, a_gTup0, a_rSetL, a_tIfS, a_tAnd, a_tOr, a_tNot, a_tTest, a_tB, a_tTrue, a_tIf, a_tAndV, a_tOrV, a_tNotV, a_tOp, a_tUn, a_rU, a_tVar, a_tC, a_rI0, a_rI, a_rEq, a_rNe, a_rIx0, a_rIn0, a_tCB, a_tCal, a_tCons, a_tNil, a_tTupA, a_tLst, a_tPar, a_tBits, a_tLC, a_iRng1, a_iRng2, a_iT0, a_iL0, a_tEmit, frS, scal, V.ty.injEq, tyN, subN, String.reduceEq, String.reduceBEq, Bool.true_or, Bool.false_or, Bool.or_false, Bool.true_and, Bool.false_and, Bool.and_false, or_true, true_or, beq_self_eq_true, decide_true, decide_false, List.map_cons, List.map_nil, List.length_cons, List.length_nil, List.getElem?_cons_zero, List.getElem?_cons_succ, List.getElem?_nil, List.set_cons_zero, List.set_cons_succ, Option.some.injEq, Option.bind_some, Option.bind_none, id, exists_eq_left', exists_eq_left, exists_and_left, exists_eq_right, V.int.injEq, V.bl.injEq, V.ref.injEq, List.cons.injEq, and_true, true_and, and_assoc, exists_const, atI0, atI1, atI2, ixN30, ixN31, ixN32, upd_same, upd_upd, sq_updL, sq_updT, Nat.zero_add, Nat.reduceAdd, reduceCtorEq, false_and, and_false, exists_false, false_or, or_false, List.length_map, HO.lst.injEq, HO.tup.injEq, Bool.false_eq_true, if_false, if_true, decide_eq_true_eq, ite_true, ite_false, reduceIte, Int.reduceLT, Int.reduceLE, Nat.reduceLT, Int.zero_add, Bool.not_true, Bool.not_false, hs])
    refine ⟨_, rfl, gains_ne h5 hl, fun mx mx1 mx2 => ?_⟩
    have em : mx = m := Int.le_antisymm (hm2 mx mx1) (mx2 m hm1)
    subst em
    (walk_at "rd")
    refine ⟨_, _, .inl ⟨rfl, e1⟩, fun c nc => ?_⟩
    have ntc : t ≠ c := ne_of_none e1 nc
    have p32 := pow32 h5
    have gl := gainsL_len hl
    refine cl_enum (BI c (gainsL ws ns) mx H1) ⟨none, none, rfl, SameX.upd, upd_same⟩ (fun i σ H2 ⟨_, _, _, s, _⟩ => .inl ⟨rfl, s _ _ ntc e1⟩) ?_ ?_
    · rintro i v T' σ H2 H3 hv ⟨v1, v2, rfl, s2, e2⟩ nT s3 e3
      rw [List.getElem?_map] at hv
      obtain ⟨x, hx, rfl⟩ := Option.map_eq_some_iff.mp hv
      have hi : i < (gainsL ws ns).length := (List.getElem?_eq_some_iff.mp hx).1
      have hg : (gainsL ws ns).getD i 0 = x := by rw [List.getD_eq_getElem?_getD, hx]; rfl
      have ec := s3 _ _ e2
      have il := idxL_len (gainsL ws ns) mx i
      (try simp only [V.str.injEq, HO.dK.injEq, a_tAug, a_tDisp, a_prs0, a_prs, a_rGetK, a_rSetK, a_tAugS, a_ipI, a_tPar3, a_tListR, a_iS0, a_tPop0, a_tCalK, g3r_is, g2r_is, g2_is, g1_is, a_rNePP, a_iEnum, a_tSeqL, a_tChain, a_tDict, a_tLstA, a_rEqT, a_tIns, a_tRev, a_rSlA, a_rCatA, a_rCatL, a_tSeq, a_tFor, a_rIxL, a_iZip, a_tSortR, a_tSl, a_rSlL0, a_tNoPart, a_tPart, a_tApp, a_tRet, a_tRetN, a_tNext, a_tDrop, a_tAsg, a_gSub, a_gName, a_gNil, a_gCons, a_gTup0, a_rSetL, a_tIfS, a_tAnd, a_tOr, a_tNot, a_tTest, a_tB, a_tTrue, a_tIf, a_tAndV, a_tOrV, a_tNotV, a_tOp, a_tUn, a_rU, a_tVar, a_tC, a_rI0, a_rI, a_rEq, a_rNe, a_rIx0, a_rIn0, a_tCB, a_tCal, a_tCons, a_tNil, a_tTupA, a_tLst, a_tPar, a_tBits, a_tLC, a_iRng1, a_iRng2, a_iT0, a_iL0, a_tEmit, frS, scal, V.ty.injEq, tyN, subN, String.reduceEq, String.reduceBEq, Bool.true_or, Bool.false_or, Bool.or_false, Bool.true_and, Bool.false_and, Bool.and_false, or_true, true_or, beq_self_eq_true, decide_true, decide_false, List.map_cons, List.map_nil, List.length_cons, List.length_nil, List.getElem?_cons_zero, List.getElem?_cons_succ, List.getElem?_nil, List.set_cons_zero, List.set_cons_succ, Option.some.injEq, Option.bind_some, Option.bind_none, id, exists_eq_left', exists_eq_left, exists_and_left, exists_eq_right, V.int.injEq, V.bl.injEq, V.ref.injEq, List.cons.injEq, and_true, true_and, and_assoc, exists_const, atI0, atI1, atI2, ixN30, ixN31, ixN32, upd_same, upd_upd, sq_updL, sq_updT, Nat.zero_add, Nat.reduceAdd, reduceCtorEq, false_and, and_false, exists_false, false_or, or_false, List.length_map, HO.lst.injEq, HO.tup.injEq, Bool.false_eq_true, if_false, if_true, decide_eq_true_eq, ite_true, ite_false, reduceIte, Int.reduceLT, Int.reduceLE, Nat.reduceLT, Int.zero_add, Bool.not_true, Bool.not_false, e3])
      by_cases hxm : x = mx
      · rw [if_pos (by simpa using hxm)]
        (try simp only [V.str.injEq, HO.dK.injEq, a_tAug, a_tDisp, a_prs0, a_prs, a_rGetK, a_rSetK, a_tAugS, a_ipI, a_tPar3, a_tListR, a_iS0, a_tPop0, a_tCalK, g3r_is, g2r_is, g2_is, g1_is, a_rNePP, a_iEnum, a_tSeqL, a_tChain, a_tDict, a_tLstA, a_rEqT, a_tIns, a_tRev, a_rSlA, a_rCatA, a_rCatL, a_tSeq, a_tFor, a_rIxL, a_iZip, a_tSortR, a_tSl, a_rSlL0, a_tNoPart, a_tPart, a_tApp, a_tRet, a_tRetN, a_tNext, a_tDrop, a_tAsg, a_gSub, a_gName, a_gNil, a_gCons, a_gTup0, a_rSetL, a_tIfS, a_tAnd, a_tOr, a_tNot, a_tTest, a_tB, a_tTrue, a_tIf, a_tAndV, a_tOrV, a_tNotV, a_tOp, a_tUn, a_rU, a_tVar, a_tC, a_rI0, a_rI, a_rEq, a_rNe, a_rIx0, a_rIn0, a_tCB, a_tCal, a_tCons, a_tNil, a_tTupA, a_tLst, a_tPar, a_tBits, a_tLC, a_iRng1, a_iRng2, a_iT0, a_iL0, a_tEmit, frS, scal, V.ty.injEq, tyN, subN, String.reduceEq, String.reduceBEq, Bool.true_or, Bool.false_or, Bool.or_false, Bool.true_and, Bool.false_and, Bool.and_false, or_true, true_or, beq_self_eq_true, decide_true, decide_false, List.map_cons, List.map_nil, List.length_cons, List.length_nil, List.getElem?_cons_zero, List.getElem?_cons_succ, List.getElem?_nil, List.set_cons_zero, List.set_cons_succ, Option.some.injEq, Option.bind_some, Option.bind_none, id, exists_eq_left', exists_eq_left, exists_and_left, exists_eq_right, V.int.injEq, V.bl.injEq, V.ref.injEq, List.cons.injEq, and_true, true_and, and_assoc, exists_const, atI0, atI1, atI2, ixN30, ixN31, ixN32, upd_same, upd_upd, sq_updL, sq_updT, Nat.zero_add, Nat.reduceAdd, reduceCtorEq, false_and, and_false, exists_false, false_or, or_false, List.length_map, HO.lst.injEq, HO.tup.injEq, Bool.false_eq_true, if_false, if_true, decide_eq_true_eq, ite_true, ite_false, reduceIte, Int.reduceLT, Int.reduceLE, Nat.reduceLT, Int.zero_add, Bool.not_true, Bool.not_false, ec])
        refine ⟨small1000 (by omega), ⟨_, _, rfl, (s2.trans s3.x).trans SameX.upd, ?_⟩⟩
        rw [upd_same, idxL_succ, if_pos (by rw [hg]; exact hxm)]
        simp
      · rw [if_neg (by simpa using hxm)]
        refine ⟨_, _, rfl, s2.trans s3.x, ?_⟩
        rw [ec, idxL_succ, if_neg (by rw [hg]; exact hxm), List.append_nil]
    · rintro σ H2 ⟨v1, v2, rfl, s2, e2⟩
      rw [List.length_map] at e2
      refine ⟨_, e2, fun l H3 nl s3 e3 => ?_⟩
      have S2 := s1.trans (s2.same nc)
      exact q l H3 (none_same S2 nl) (S2.trans s3) e3
def sp_parts : Sp := fun vs H Q _ => ∃ (d : Addr) (ws : List Int) (b : Int), vs = [.ref d, .int b] ∧ H d = some (.tup (ws.map V.int)) ∧ 0 ≤ b ∧ b ≤ 1000 ∧ ws.length ≤ 32 ∧ ∀ (t : Addr) (H' : Hp), H t = none → Same H H' → H' t = some (.tup ((ws.map fun x => b * x).map V.int)) → Q (.ref t) H'
def PI (c : Addr) (ws : List Int) (b : Int) (G : Hp) (i : Nat) (σ : St) (H : Hp) : Prop := ∃ v : Option V, σ = [v, some (.int b)] ∧ SameX c G H ∧ H c = some (.lst (((ws.take i).map fun x => b * x).map V.int))
theorem sc_in_parts : FnScope ["want", "by"] ["want", "by"] (defScope s_in_parts) := ⟨rfl, rfl, rfl, by decide +kernel, rfl, by decide +kernel, by decide +kernel⟩
theorem ok_parts (F : Fun K "in_parts" "in_parts" s_in_parts f fd) (hm : mg "in_parts" = some (.ref f)) (hb : Binds K fd ["want", "by"] []) (T : Txt mg) : Cal P w K mg base "in_parts" ["want", "by"] 1 sp_parts := by
  refine cal_of F hm hb sc_in_parts (fun vs H Q E h => ?_) (fun cdv A outer s H vs Q E hr h => ?_)
  · obtain ⟨_, _, _, rfl, _⟩ := h; rfl
  · obtain ⟨d, ws, b, rfl, hd, b0, b1, wl, q⟩ := h
    have sc := sc_in_parts
    refine ⟨_, pss_one (ps_ret (pe_callTy tupA0 rfl T.tuple_ bt_tuple (pa_cns (pe_lc (N := ["worth", "by"]) (fr := [none, some 1]) rfl (pi_t0 (pv 0)) (CScope.of rfl rfl rfl) rfl (fun _ _ _ => ⟨pg_name (i := 0) (show List.Nodup (α := Str) ["worth", "by"] by decide +kernel) rfl (Or.inl rfl), pif_nil, pe_op op_mul (pv 1) (pv 0)⟩)) pa_nil))), ?_⟩
    rw [show L2.start ["want", "by"] [.ref d, .int b] = [some (.ref d), some (.int b)] from rfl]
    (try simp only [V.str.injEq, HO.dK.injEq, a_tAug, a_tDisp, a_prs0, a_prs, a_rGetK, a_rSetK, a_tAugS, a_ipI, a_tPar3, a_tListR, a_iS0, a_tPop0, a_tCalK, g3r_is, g2r_is, g2_is, g1_is, a_rNePP, a_iEnum, a_tSeqL, a_tChain, a_tDict, a_tLstA, a_rEqT, a_tIns, a_tRev, a_rSlA, a_rCatA, a_rCatL, a_tSeq, a_tFor, a_rIxL, a_iZip, a_tSortR, a_tSl, a_rSlL0, a_tNoPart, a_tPart, a_tApp, a_tRet, a_tRetN, a_tNext, a_tDrop, a_tAsg, a_gSub, a_gName, a_gNil, a_gCons, a_gTup0, a_rSetL, a_tIfS, a_tAnd, a_tOr, a_tNot, a_tTest, a_tB, a_tTrue, a_tIf, a_tAndV, a_tOrV, a_tNotV, a_tOp, a_tUn, a_rU, a_tVar, a_tC, a_rI0, a_rI, a_rEq, a_rNe, a_rIx0, a_rIn0, a_tCB, a_tCal, a_tCons, a_tNil, a_tTupA, a_tLst, a_tPar, a_tBits, a_tLC, a_iRng1, a_iRng2, a_iT0, a_iL0, a_tEmit, frS, scal, V.ty.injEq, tyN, subN, String.reduceEq, String.reduceBEq, Bool.true_or, Bool.false_or, Bool.or_false, Bool.true_and, Bool.false_and, Bool.and_false, or_true, true_or, beq_self_eq_true, decide_true, decide_false, List.map_cons, List.map_nil, List.length_cons, List.length_nil, List.getElem?_cons_zero, List.getElem?_cons_succ, List.getElem?_nil, List.set_cons_zero, List.set_cons_succ, Option.some.injEq, Option.bind_some, Option.bind_none, id, exists_eq_left', exists_eq_left, exists_and_left, exists_eq_right, V.int.injEq, V.bl.injEq, V.ref.injEq, List.cons.injEq, and_true, true_and, and_assoc, exists_const, atI0, atI1, atI2, ixN30, ixN31, ixN32, upd_same, upd_upd, sq_updL, sq_updT, Nat.zero_add, Nat.reduceAdd, reduceCtorEq, false_and, and_false, exists_false, false_or, or_false, List.length_map, HO.lst.injEq, HO.tup.injEq, Bool.false_eq_true, if_false, if_true, decide_eq_true_eq, ite_true, ite_false, reduceIte, Int.reduceLT, Int.reduceLE, Nat.reduceLT, Int.zero_add, Bool.not_true, Bool.not_false, hd])
    intro c nc
    have ndc : d ≠ c := ne_of_none hd nc
    refine cl_seq (PI c ws b H) ⟨none, rfl, SameX.upd, upd_same⟩ (fun j σ H' _ ⟨_, _, s, _⟩ => s _ _ ndc hd) ?_ ?_
    · rintro j x σ H1 hx ⟨v, rfl, s1, e1⟩
      rw [List.getElem?_map] at hx
      obtain ⟨n, hn', rfl⟩ := Option.map_eq_some_iff.mp hx
      have hj : j < ws.length := (List.getElem?_eq_some_iff.mp hn').1
      (try simp only [V.str.injEq, HO.dK.injEq, a_tAug, a_tDisp, a_prs0, a_prs, a_rGetK, a_rSetK, a_tAugS, a_ipI, a_tPar3, a_tListR, a_iS0, a_tPop0, a_tCalK, g3r_is, g2r_is, g2_is, g1_is, a_rNePP, a_iEnum, a_tSeqL, a_tChain, a_tDict, a_tLstA, a_rEqT, a_tIns, a_tRev, a_rSlA, a_rCatA, a_rCatL, a_tSeq, a_tFor, a_rIxL, a_iZip, a_tSortR, a_tSl, a_rSlL0, a_tNoPart, a_tPart, a_tApp, a_tRet, a_tRetN, a_tNext, a_tDrop, a_tAsg, a_gSub, a_gName, a_gNil, a_gCons, a_gTup0, a_rSetL, a_tIfS, a_tAnd, a_tOr, a_tNot, a_tTest, a_tB, a_tTrue, a_tIf, a_tAndV, a_tOrV, a_tNotV, a_tOp, a_tUn, a_rU, a_tVar, a_tC, a_rI0, a_rI, a_rEq, a_rNe, a_rIx0, a_rIn0, a_tCB, a_tCal, a_tCons, a_tNil, a_tTupA, a_tLst, a_tPar, a_tBits, a_tLC, a_iRng1, a_iRng2, a_iT0, a_iL0, a_tEmit, frS, scal, V.ty.injEq, tyN, subN, String.reduceEq, String.reduceBEq, Bool.true_or, Bool.false_or, Bool.or_false, Bool.true_and, Bool.false_and, Bool.and_false, or_true, true_or, beq_self_eq_true, decide_true, decide_false, List.map_cons, List.map_nil, List.length_cons, List.length_nil, List.getElem?_cons_zero, List.getElem?_cons_succ, List.getElem?_nil, List.set_cons_zero, List.set_cons_succ, Option.some.injEq, Option.bind_some, Option.bind_none, id, exists_eq_left', exists_eq_left, exists_and_left, exists_eq_right, V.int.injEq, V.bl.injEq, V.ref.injEq, List.cons.injEq, and_true, true_and, and_assoc, exists_const, atI0, atI1, atI2, ixN30, ixN31, ixN32, upd_same, upd_upd, sq_updL, sq_updT, Nat.zero_add, Nat.reduceAdd, reduceCtorEq, false_and, and_false, exists_false, false_or, or_false, List.length_map, HO.lst.injEq, HO.tup.injEq, Bool.false_eq_true, if_false, if_true, decide_eq_true_eq, ite_true, ite_false, reduceIte, Int.reduceLT, Int.reduceLE, Nat.reduceLT, Int.zero_add, Bool.not_true, Bool.not_false, e1])
      refine ⟨.inl ⟨by omega, by omega⟩, small1000 (by rw [List.length_take]; omega), ⟨_, rfl, s1.trans SameX.upd, ?_⟩⟩
      rw [upd_same, List.take_add_one, hn']
      simp
    · rintro σ H1 ⟨v, rfl, s1, e1⟩
      rw [List.length_map, List.take_length] at e1
      have S1 := s1.same nc
      exact ⟨_, e1, fun t H2 n2 s2 e2 => q t H2 (none_same S1 n2) (S1.trans s2) e2⟩
structure Rows (H : Hp) (tw sa wa : Addr) (ts : List (Addr × List Int)) (m : Nat) : Prop where
  tw : H tw = some (.tup [.ref sa, .ref wa])
  wa : H wa = some (.tup (ts.map fun t => V.ref t.1))
  few : ts.length ≤ 5
  five : m ≤ 5
  row : ∀ t ∈ ts, H t.1 = some (.tup (t.2.map V.int)) ∧ t.2.length = 2 ^ m ∧ ∀ x ∈ t.2, 0 ≤ x ∧ x ≤ 10000
theorem Rows.same {H H' : Hp} {tw sa wa : Addr} {ts : List (Addr × List Int)} {m : Nat} (R : Rows H tw sa wa ts m) (s : Same H H') : Rows H' tw sa wa ts m :=
  ⟨s _ _ R.tw, s _ _ R.wa, R.few, R.five, fun t ht => ⟨s _ _ (R.row t ht).1, (R.row t ht).2⟩⟩
end
end K44
end
section
set_option Elab.async false
set_option linter.all false
set_option maxRecDepth 100000
set_option maxHeartbeats 8000000
namespace K44
open PySem L2
section
variable {P : Program} {w : World} {K : PySem.W.Frag} {mg : Str → Option Value} {base : Heap} {f : Addr} {fd : FuncData}
def bit (h : Int) (t : Nat) : Int := Builtin.bitAnd (h / 2 ^ (t : Int).toNat) 1
def byBits (ws : List Int) (h : Int) (m : Nat) : Int := ((List.range m).map fun t : Nat => ws.getD t 0 * bit h t).sum
theorem byBits_succ (ws : List Int) (h : Int) (m : Nat) : byBits ws h (m + 1) = byBits ws h m + ws.getD m 0 * bit h m := by
  unfold byBits
  rw [List.range_succ, List.map_append, List.sum_append]
  simp
theorem byBits_congr (ws ws' : List Int) (h h' : Int) : ∀ m, (∀ t, t < m → ws.getD t 0 * bit h t = ws'.getD t 0 * bit h' t) → byBits ws h m = byBits ws' h' m
  | 0, _ => rfl
  | m + 1, hh => by rw [byBits_succ, byBits_succ, byBits_congr ws ws' h h' m fun t ht => hh t (by omega), hh m (by omega)]
theorem bit_low {n h : Nat} (hn : n < 5) (hh : h < 2 ^ n) : bit (h : Int) n = 0 := by
  have key : ∀ (a : _root_.Fin 5) (b : _root_.Fin 32), b.val < 2 ^ a.val → bit (b.val : Int) a.val = 0 := by decide +kernel
  have := pow32 (show n ≤ 5 by omega)
  exact key ⟨n, hn⟩ ⟨h, by omega⟩ hh
theorem bit_high {n h : Nat} (hn : n < 5) (h1 : 2 ^ n ≤ h) (h2 : h < 2 ^ (n + 1)) : bit (h : Int) n = 1 ∧ ∀ t, t < n → bit (h : Int) t = bit ((h - 2 ^ n : Nat) : Int) t := by
  have key : ∀ (a : _root_.Fin 5) (b : _root_.Fin 32), 2 ^ a.val ≤ b.val → b.val < 2 ^ (a.val + 1) → bit (b.val : Int) a.val = 1 ∧ ∀ t : _root_.Fin 5, t.val < a.val → bit (b.val : Int) t.val = bit ((b.val - 2 ^ a.val : Nat) : Int) t.val := by decide +kernel
  have := pow32 (show n + 1 ≤ 5 by omega)
  obtain ⟨k1, k2⟩ := key ⟨n, hn⟩ ⟨h, by omega⟩ h1 h2
  exact ⟨k1, fun t ht => k2 ⟨t, by omega⟩ ht⟩
theorem costs_bits : ∀ (n : Nat) (ns : List Int), ns.length = n → n ≤ 5 → ∀ h : Nat, h < 2 ^ n → (costsL ns)[h]? = some (byBits ns (h : Int) n)
  | 0, ns, hl, _, h, hh => by
    have : ns = [] := List.eq_nil_of_length_eq_zero hl
    subst this
    have : h = 0 := by simpa using hh
    subst this
    rfl
  | n + 1, ns, hl, h5, h, hh => by
    obtain ⟨ms, p, rfl⟩ : ∃ ms p, ns = ms ++ [p] := by
      have hne : ns ≠ [] := by rintro rfl; simp at hl
      exact ⟨ns.dropLast, ns.getLast hne, (List.dropLast_concat_getLast hne).symm⟩
    have hml : ms.length = n := by simpa using hl
    have ih := costs_bits n ms hml (by omega)
    have cl : (costsL ms).length = 2 ^ n := by rw [costs_len, hml]
    have gl : ∀ t, t < n → (ms ++ [p]).getD t 0 = ms.getD t 0 := fun t ht => by simp only [List.getD_eq_getElem?_getD]; rw [List.getElem?_append_left (by omega)]
    have gp : (ms ++ [p]).getD n 0 = p := by simp only [List.getD_eq_getElem?_getD]; rw [List.getElem?_append_right (by omega), hml]; simp
    rw [costs_snoc, byBits_succ, gp]
    rcases Nat.lt_or_ge h (2 ^ n) with q | q
    · rw [List.getElem?_append_left (by omega), ih h q, bit_low (by omega) q, byBits_congr (ms ++ [p]) ms (h : Int) (h : Int) n fun t ht => by rw [gl t ht]]
      simp
    · obtain ⟨b1, b2⟩ := bit_high (by omega) q hh
      have q2 : h - 2 ^ n < 2 ^ n := by rw [Nat.pow_succ] at hh; omega
      rw [List.getElem?_append_right (by omega), cl, List.getElem?_map, ih (h - 2 ^ n) q2, b1, byBits_congr (ms ++ [p]) ms (h : Int) ((h - 2 ^ n : Nat) : Int) n fun t ht => by rw [gl t ht, b2 t ht]]
      simp
theorem bit_or {h t : Nat} (hh : h < 32) (ht : t < 5) : bit (h : Int) t = 0 ∨ bit (h : Int) t = 1 := by
  have key : ∀ (a : _root_.Fin 32) (b : _root_.Fin 5), bit (a.val : Int) b.val = 0 ∨ bit (a.val : Int) b.val = 1 := by decide +kernel
  exact key ⟨h, hh⟩ ⟨t, ht⟩
theorem gain_at {b : Int} {ns ws : List Int} (n5 : ns.length ≤ 5) (wl : ws.length = 2 ^ ns.length) {h : Nat} (hh : h < ws.length) : (gainsL (ws.map fun x => b * x) ns)[h]? = some (b * ws.getD h 0 - byBits ns (h : Int) ns.length) := by
  unfold gainsL
  refine zw_at (g := fun x y => x - y) ?_ (costs_bits _ ns rfl n5 h (by omega))
  rw [List.getElem?_map, List.getElem?_eq_getElem hh, List.getD_eq_getElem?_getD, List.getElem?_eq_getElem hh]
  rfl
end
end K44
end
section
set_option Elab.async false
set_option linter.all false
set_option maxRecDepth 100000
set_option maxHeartbeats 8000000
namespace K44
open PySem L2
local macro_rules | `(tactic| walk_at "rd") => `(tactic| (try simp only [V.str.injEq, HO.dK.injEq, a_tAug, a_tDisp, a_prs0, a_prs, a_rGetK, a_rSetK, a_tAugS, a_ipI, a_tPar3, a_tListR, a_iS0, a_tPop0, a_tCalK, g3r_is, g2r_is, g2_is, g1_is, a_rNePP, a_iEnum, a_tSeqL, a_tChain, a_tDict, a_tLstA, a_rEqT, a_tIns, a_tRev, a_rSlA, a_rCatA, a_rCatL, a_tSeq, a_tFor, a_rIxL, a_iZip, a_tSortR, a_tSl, a_rSlL0, a_tNoPart, a_tPart, a_tApp, a_tRet, a_tRetN, a_tNext, a_tDrop, a_tAsg, a_gSub, a_gName, a_gNil, a_gCons, a_gTup0, a_rSetL, a_tIfS, a_tAnd, a_tOr, a_tNot, a_tTest, a_tB, a_tTrue, a_tIf, a_tAndV, a_tOrV, a_tNotV, a_tOp, a_tUn, a_rU, a_tVar, a_tC, a_rI0, a_rI, a_rEq, a_rNe, a_rIx0, a_rIn0, a_tCB, a_tCal, a_tCons, a_tNil, a_tTupA, a_tLst, a_tPar, a_tBits, a_tLC, a_iRng1, a_iRng2, a_iT0, a_iL0, a_tEmit, frS, scal, V.ty.injEq, tyN, subN, String.reduceEq, String.reduceBEq, Bool.true_or, Bool.false_or, Bool.or_false, Bool.true_and, Bool.false_and, Bool.and_false, or_true, true_or, beq_self_eq_true, decide_true, decide_false, List.map_cons, List.map_nil, List.length_cons, List.length_nil, List.getElem?_cons_zero, List.getElem?_cons_succ, List.getElem?_nil, List.set_cons_zero, List.set_cons_succ, Option.some.injEq, Option.bind_some, Option.bind_none, id, exists_eq_left', exists_eq_left, exists_and_left, exists_eq_right, V.int.injEq, V.bl.injEq, V.ref.injEq, List.cons.injEq, and_true, true_and, and_assoc, exists_const, atI0, atI1, atI2, ixN30, ixN31, ixN32, upd_same, upd_upd, sq_updL, sq_updT, Nat.zero_add, Nat.reduceAdd, reduceCtorEq, false_and, and_false, exists_false, false_or, or_false, List.length_map, HO.lst.injEq, HO.tup.injEq, Bool.false_eq_true, if_false, if_true, decide_eq_true_eq, ite_true, ite_false, reduceIte, Int.reduceLT, Int.reduceLE, Nat.reduceLT, Int.zero_add, Bool.not_true, Bool.not_false]))
section
variable {P : Program} {w : World} {K : PySem.W.Frag} {mg : Str → Option Value} {base : Heap} {f : Addr} {fd : FuncData}
theorem hpow (m : Nat) : (1 : Int) * 2 ^ (m : Int).toNat = ((2 ^ m : Nat) : Int) := by rw [Int.toNat_natCast]; norm_cast; omega
theorem bit_0 {t : Nat} (ht : t < 5) : ¬ bit ((0 : Nat) : Int) t = 1 := by
  have key : ∀ t : _root_.Fin 5, ¬ bit ((0 : Nat) : Int) t.val = 1 := by decide +kernel
  exact key ⟨t, ht⟩
theorem bits_le {h : Int} (h0 : 0 ≤ h) (h1 : h < 32) : Builtin.Int.intBits h ≤ 5 := by
  obtain ⟨n, rfl⟩ := Int.eq_ofNat_of_zero_le h0
  have hn : n < 32 := by omega
  have key : ∀ m : _root_.Fin 32, Builtin.Int.intBits (m.val : Int) ≤ 5 := by decide +kernel
  exact key ⟨n, hn⟩
def hasI (h t : Int) : Bool := decide (Builtin.bitAnd (h / 2 ^ t.toNat) 1 = 1)
theorem bits_filter {h : Int} (h0 : 0 ≤ h) (h1 : h < 32) : ((List.range (Builtin.Int.intBits h)).filter fun t : Nat => hasI h (t : Int)) = ((List.range 5).filter fun t : Nat => hasI h (t : Int)) := by
  obtain ⟨n, rfl⟩ := Int.eq_ofNat_of_zero_le h0
  have hn : n < 32 := by omega
  have key : ∀ m : _root_.Fin 32, ((List.range (Builtin.Int.intBits (m.val : Int))).filter fun t : Nat => hasI (m.val : Int) (t : Int)) = ((List.range 5).filter fun t : Nat => hasI (m.val : Int) (t : Int)) := by decide +kernel
  exact key ⟨n, hn⟩
def sp_has : Sp := fun vs H Q _ => ∃ h t : Int, vs = [.int h, .int t] ∧ 0 ≤ t ∧ Q (.bl (hasI h t)) H
theorem sc_has : FnScope ["heap", "thing"] ["heap", "thing"] (defScope s_has) := ⟨rfl, rfl, rfl, by decide +kernel, rfl, by decide +kernel, by decide +kernel⟩
theorem ok_has (F : Fun K "has" "has" s_has f fd) (hm : mg "has" = some (.ref f)) (hb : Binds K fd ["heap", "thing"] []) (T : Txt mg) : Cal P w K mg base "has" ["heap", "thing"] 1 sp_has := by
  refine cal_of F hm hb sc_has (fun vs H Q E h => ?_) (fun cdv A outer s H vs Q E hr h => ?_)
  · obtain ⟨_, _, rfl, _⟩ := h; rfl
  · obtain ⟨h, t, rfl, ht, q⟩ := h
    have sc := sc_has
    refine ⟨_, pss_one (ps_ret (pe_cmpR op_eq (pe_op op_and (pe_op op_shr (pv 0) (pv 1)) pe_int) pe_int (nomark _))), ?_⟩
    rw [show L2.start ["heap", "thing"] [.int h, .int t] = [some (.int h), some (.int t)] from rfl]
    (walk_at "rd")
    exact ⟨ht, q⟩
def thingsI (h : Int) : List Int := ((List.range 5).filter fun t : Nat => hasI h (t : Int)).map fun t : Nat => (t : Int)
def sp_things : Sp := fun vs H Q _ => ∃ h : Int, vs = [.int h] ∧ 0 ≤ h ∧ h < 32 ∧ ∀ (t : Addr) (H' : Hp), H t = none → Same H H' → H' t = some (.tup ((thingsI h).map V.int)) → Q (.ref t) H'
theorem sc_things_in : FnScope ["heap"] ["heap"] (defScope s_things_in) := ⟨rfl, rfl, rfl, by decide +kernel, rfl, by decide +kernel, by decide +kernel⟩
theorem ok_things (F : Fun K "things_in" "things_in" s_things_in f fd) (hm : mg "things_in" = some (.ref f)) (hb : Binds K fd ["heap"] []) (T : Txt mg) (c_has : Cal P w K mg base "has" ["heap", "thing"] 1 sp_has) : Cal P w K mg base "things_in" ["heap"] 2 sp_things := by
  refine cal_of F hm hb sc_things_in (fun vs H Q E h => ?_) (fun cdv A outer s H vs Q E hr h => ?_)
  · obtain ⟨_, rfl, _⟩ := h; rfl
  · obtain ⟨h, rfl, h0, h1, q⟩ := h
    have sc := sc_things_in
    refine ⟨_, pss_one (ps_ret (pe_callTy tupA0 rfl T.tuple_ bt_tuple (pa_cns (pe_lc (N := ["thing", "heap"]) (fr := [none, some 0]) rfl (pi_range1 rfl T.range_ (pa_cns (pe_bits (pv 0) rfl rfl mono_var) pa_nil)) (CScope.of rfl rfl rfl) rfl (fun _ _ _ => ⟨pg_name (i := 0) (show List.Nodup (α := Str) ["thing", "heap"] by decide +kernel) rfl (Or.inl rfl), pif_one (pt_val (pe_cal c_has hr (pa_cns (pv 1) (pa_cns (pv 0) pa_nil)))), pv 0⟩)) pa_nil))), ?_⟩
    rw [show L2.start ["heap"] [.int h] = [some (.int h)] from rfl]
    (try simp only [V.str.injEq, HO.dK.injEq, a_tAug, a_tDisp, a_prs0, a_prs, a_rGetK, a_rSetK, a_tAugS, a_ipI, a_tPar3, a_tListR, a_iS0, a_tPop0, a_tCalK, g3r_is, g2r_is, g2_is, g1_is, a_rNePP, a_iEnum, a_tSeqL, a_tChain, a_tDict, a_tLstA, a_rEqT, a_tIns, a_tRev, a_rSlA, a_rCatA, a_rCatL, a_tSeq, a_tFor, a_rIxL, a_iZip, a_tSortR, a_tSl, a_rSlL0, a_tNoPart, a_tPart, a_tApp, a_tRet, a_tRetN, a_tNext, a_tDrop, a_tAsg, a_gSub, a_gName, a_gNil, a_gCons, a_gTup0, a_rSetL, a_tIfS, a_tAnd, a_tOr, a_tNot, a_tTest, a_tB, a_tTrue, a_tIf, a_tAndV, a_tOrV, a_tNotV, a_tOp, a_tUn, a_rU, a_tVar, a_tC, a_rI0, a_rI, a_rEq, a_rNe, a_rIx0, a_rIn0, a_tCB, a_tCal, a_tCons, a_tNil, a_tTupA, a_tLst, a_tPar, a_tBits, a_tLC, a_iRng1, a_iRng2, a_iT0, a_iL0, a_tEmit, frS, scal, V.ty.injEq, tyN, subN, String.reduceEq, String.reduceBEq, Bool.true_or, Bool.false_or, Bool.or_false, Bool.true_and, Bool.false_and, Bool.and_false, or_true, true_or, beq_self_eq_true, decide_true, decide_false, List.map_cons, List.map_nil, List.length_cons, List.length_nil, List.getElem?_cons_zero, List.getElem?_cons_succ, List.getElem?_nil, List.set_cons_zero, List.set_cons_succ, Option.some.injEq, Option.bind_some, Option.bind_none, id, exists_eq_left', exists_eq_left, exists_and_left, exists_eq_right, V.int.injEq, V.bl.injEq, V.ref.injEq, List.cons.injEq, and_true, true_and, and_assoc, exists_const, atI0, atI1, atI2, ixN30, ixN31, ixN32, upd_same, upd_upd, sq_updL, sq_updT, Nat.zero_add, Nat.reduceAdd, reduceCtorEq, false_and, and_false, exists_false, false_or, or_false, List.length_map, HO.lst.injEq, HO.tup.injEq, Bool.false_eq_true, if_false, if_true, decide_eq_true_eq, ite_true, ite_false, reduceIte, Int.reduceLT, Int.reduceLE, Nat.reduceLT, Int.zero_add, Bool.not_true, Bool.not_false, sp_has])
    have hb : Builtin.Int.intBits h ≤ 5 := bits_le h0 h1
    refine ⟨by omega, by omega, fun p hp => cl_range (fun i σ H' => ∃ v, σ = [v, some (.int h)] ∧ H' = upd H p (.lst ((((List.range i).filter fun t : Nat => hasI h (t : Int)).map fun t : Nat => (t : Int)).map V.int))) ⟨_, rfl, rfl⟩ ?_ ?_⟩
    · rintro i σ H' hi ⟨v, rfl, rfl⟩
      (try simp only [V.str.injEq, HO.dK.injEq, a_tAug, a_tDisp, a_prs0, a_prs, a_rGetK, a_rSetK, a_tAugS, a_ipI, a_tPar3, a_tListR, a_iS0, a_tPop0, a_tCalK, g3r_is, g2r_is, g2_is, g1_is, a_rNePP, a_iEnum, a_tSeqL, a_tChain, a_tDict, a_tLstA, a_rEqT, a_tIns, a_tRev, a_rSlA, a_rCatA, a_rCatL, a_tSeq, a_tFor, a_rIxL, a_iZip, a_tSortR, a_tSl, a_rSlL0, a_tNoPart, a_tPart, a_tApp, a_tRet, a_tRetN, a_tNext, a_tDrop, a_tAsg, a_gSub, a_gName, a_gNil, a_gCons, a_gTup0, a_rSetL, a_tIfS, a_tAnd, a_tOr, a_tNot, a_tTest, a_tB, a_tTrue, a_tIf, a_tAndV, a_tOrV, a_tNotV, a_tOp, a_tUn, a_rU, a_tVar, a_tC, a_rI0, a_rI, a_rEq, a_rNe, a_rIx0, a_rIn0, a_tCB, a_tCal, a_tCons, a_tNil, a_tTupA, a_tLst, a_tPar, a_tBits, a_tLC, a_iRng1, a_iRng2, a_iT0, a_iL0, a_tEmit, frS, scal, V.ty.injEq, tyN, subN, String.reduceEq, String.reduceBEq, Bool.true_or, Bool.false_or, Bool.or_false, Bool.true_and, Bool.false_and, Bool.and_false, or_true, true_or, beq_self_eq_true, decide_true, decide_false, List.map_cons, List.map_nil, List.length_cons, List.length_nil, List.getElem?_cons_zero, List.getElem?_cons_succ, List.getElem?_nil, List.set_cons_zero, List.set_cons_succ, Option.some.injEq, Option.bind_some, Option.bind_none, id, exists_eq_left', exists_eq_left, exists_and_left, exists_eq_right, V.int.injEq, V.bl.injEq, V.ref.injEq, List.cons.injEq, and_true, true_and, and_assoc, exists_const, atI0, atI1, atI2, ixN30, ixN31, ixN32, upd_same, upd_upd, sq_updL, sq_updT, Nat.zero_add, Nat.reduceAdd, reduceCtorEq, false_and, and_false, exists_false, false_or, or_false, List.length_map, HO.lst.injEq, HO.tup.injEq, Bool.false_eq_true, if_false, if_true, decide_eq_true_eq, ite_true, ite_false, reduceIte, Int.reduceLT, Int.reduceLE, Nat.reduceLT, Int.zero_add, Bool.not_true, Bool.not_false, sp_has])
      have el : ((List.range (i + 1)).filter fun t : Nat => hasI h (t : Int)) = ((List.range i).filter fun t : Nat => hasI h (t : Int)) ++ if hasI h (i : Int) = true then [i] else [] := by
        rw [List.range_succ, List.filter_append]
        congr 1
        cases e : hasI h (i : Int) <;> simp [List.filter, e]
      have len : ((List.range i).filter fun t : Nat => hasI h (t : Int)).length ≤ i := Nat.le_trans (List.length_filter_le _ _) (by simp)
      refine ⟨by omega, ?_⟩
      split
      · rename_i e
        rw [el, if_pos e]
        exact ⟨small1000 (by omega), by simp⟩
      · rename_i e
        rw [el, if_neg e]
        simp
    · rintro σ H' ⟨v, rfl, rfl⟩
      (walk_at "rd")
      intro l H2 hl sm hT
      have npl : l ≠ p := by rintro rfl; rw [upd_same] at hl; cases hl
      rw [upd_ne npl] at hl
      refine q l _ hl ((same_upd hp).trans sm) ?_
      rw [hT, Int.toNat_natCast, bits_filter h0 h1]
      rfl
theorem idxL_mem {g : List Int} {m : Int} {k : Nat} {x : Int} (h : x ∈ idxL g m k) : ∃ i : Nat, x = (i : Int) ∧ i < k := by
  unfold idxL at h
  obtain ⟨i, hi, rfl⟩ := List.mem_map.mp h
  exact ⟨i, rfl, List.mem_range.mp (List.mem_filter.mp hi).1⟩
def hos (ds : List Int) (s : Int) : Nat → Nat
  | 0 => 0
  | k + 1 => hos ds s k + if ds.getD k 0 = s then 2 ^ k else 0
theorem hos_lt (ds : List Int) (s : Int) : ∀ k, hos ds s k < 2 ^ k
  | 0 => by simp [hos]
  | k + 1 => by
    have := hos_lt ds s k
    show hos ds s k + _ < _
    rw [Nat.pow_succ]
    split <;> omega
def pows (xs : List Int) : List Int := xs.map fun x => ((2 ^ x.toNat : Nat) : Int)
theorem pows_sum (ds : List Int) (s : Int) : ∀ k, (pows (idxL ds s k)).sum = (hos ds s k : Int)
  | 0 => rfl
  | k + 1 => by
    have ih := pows_sum ds s k
    rw [idxL_succ]
    unfold pows at ih ⊢
    rw [List.map_append, List.sum_append, ih]
    show _ = ((hos ds s k + if ds.getD k 0 = s then 2 ^ k else 0 : Nat) : Int)
    split
    · simp
    · simp
theorem pows_bd {xs : List Int} (h : ∀ x ∈ xs, ∃ i : Nat, x = (i : Int) ∧ i < 5) : ∀ y ∈ pows xs, 0 ≤ y ∧ y ≤ 16 := by
  intro y hy
  unfold pows at hy
  obtain ⟨x, hx, rfl⟩ := List.mem_map.mp hy
  obtain ⟨i, rfl, hi⟩ := h x hx
  have h4 : i = 0 ∨ i = 1 ∨ i = 2 ∨ i = 3 ∨ i = 4 := by omega
  rcases h4 with rfl | rfl | rfl | rfl | rfl <;> decide
def sp_heap_of : Sp := fun vs H Q _ => ∃ (a : Addr) (xs : List Int), vs = [.ref a] ∧ H a = some (.lst (xs.map V.int)) ∧ xs.length ≤ 5 ∧ (∀ x ∈ xs, ∃ i : Nat, x = (i : Int) ∧ i < 5) ∧ ∀ H', Same H H' → Q (.int (pows xs).sum) H'
def HO' (c : Addr) (xs : List Int) (G : Hp) (i : Nat) (σ : St) (H : Hp) : Prop := ∃ v : Option V, σ = [v] ∧ SameX c G H ∧ H c = some (.lst (((pows xs).take i).map V.int))
theorem sc_heap_of : FnScope ["things"] ["things"] (defScope s_heap_of) := ⟨rfl, rfl, rfl, by decide +kernel, rfl, by decide +kernel, by decide +kernel⟩
theorem ok_heap_of (F : Fun K "heap_of" "heap_of" s_heap_of f fd) (hm : mg "heap_of" = some (.ref f)) (hb : Binds K fd ["things"] []) (T : Txt mg) : Cal P w K mg base "heap_of" ["things"] 1 sp_heap_of := by
  refine cal_of F hm hb sc_heap_of (fun vs H Q E h => ?_) (fun cdv A outer s H vs Q E hr h => ?_)
  · obtain ⟨_, _, rfl, _⟩ := h; rfl
  · obtain ⟨a, xs, rfl, ha, hl, hx5, q⟩ := h
    have sc := sc_heap_of
    refine ⟨_, pss_one (ps_ret (pe_callB (sum0 rfl) rfl T.sum_ bt_sum (pa_cns (pe_lc (N := ["thing"]) (fr := [none]) rfl (pi_l0 (pv 0)) (CScope.of rfl rfl rfl) rfl (fun _ _ _ => ⟨pg_name (i := 0) (show List.Nodup (α := Str) ["thing"] by decide +kernel) rfl (Or.inl rfl), pif_nil, pe_op op_shl pe_int (pv 0)⟩)) pa_nil))), ?_⟩
    rw [show L2.start ["things"] [.ref a] = [some (.ref a)] from rfl]
    (try simp only [V.str.injEq, HO.dK.injEq, a_tAug, a_tDisp, a_prs0, a_prs, a_rGetK, a_rSetK, a_tAugS, a_ipI, a_tPar3, a_tListR, a_iS0, a_tPop0, a_tCalK, g3r_is, g2r_is, g2_is, g1_is, a_rNePP, a_iEnum, a_tSeqL, a_tChain, a_tDict, a_tLstA, a_rEqT, a_tIns, a_tRev, a_rSlA, a_rCatA, a_rCatL, a_tSeq, a_tFor, a_rIxL, a_iZip, a_tSortR, a_tSl, a_rSlL0, a_tNoPart, a_tPart, a_tApp, a_tRet, a_tRetN, a_tNext, a_tDrop, a_tAsg, a_gSub, a_gName, a_gNil, a_gCons, a_gTup0, a_rSetL, a_tIfS, a_tAnd, a_tOr, a_tNot, a_tTest, a_tB, a_tTrue, a_tIf, a_tAndV, a_tOrV, a_tNotV, a_tOp, a_tUn, a_rU, a_tVar, a_tC, a_rI0, a_rI, a_rEq, a_rNe, a_rIx0, a_rIn0, a_tCB, a_tCal, a_tCons, a_tNil, a_tTupA, a_tLst, a_tPar, a_tBits, a_tLC, a_iRng1, a_iRng2, a_iT0, a_iL0, a_tEmit, frS, scal, V.ty.injEq, tyN, subN, String.reduceEq, String.reduceBEq, Bool.true_or, Bool.false_or, Bool.or_false, Bool.true_and, Bool.false_and, Bool.and_false, or_true, true_or, beq_self_eq_true, decide_true, decide_false, List.map_cons, List.map_nil, List.length_cons, List.length_nil, List.getElem?_cons_zero, List.getElem?_cons_succ, List.getElem?_nil, List.set_cons_zero, List.set_cons_succ, Option.some.injEq, Option.bind_some, Option.bind_none, id, exists_eq_left', exists_eq_left, exists_and_left, exists_eq_right, V.int.injEq, V.bl.injEq, V.ref.injEq, List.cons.injEq, and_true, true_and, and_assoc, exists_const, atI0, atI1, atI2, ixN30, ixN31, ixN32, upd_same, upd_upd, sq_updL, sq_updT, Nat.zero_add, Nat.reduceAdd, reduceCtorEq, false_and, and_false, exists_false, false_or, or_false, List.length_map, HO.lst.injEq, HO.tup.injEq, Bool.false_eq_true, if_false, if_true, decide_eq_true_eq, ite_true, ite_false, reduceIte, Int.reduceLT, Int.reduceLE, Nat.reduceLT, Int.zero_add, Bool.not_true, Bool.not_false, ha])
    intro c nc
    have nac : a ≠ c := ne_of_none ha nc
    refine cl_seq (HO' c xs H) ⟨none, rfl, SameX.upd, upd_same⟩ (fun j σ H' _ ⟨_, _, s, _⟩ => s _ _ nac ha) ?_ ?_
    · rintro j x σ H1 hx ⟨v, rfl, s1, e1⟩
      rw [List.getElem?_map] at hx
      obtain ⟨y, hy, rfl⟩ := Option.map_eq_some_iff.mp hx
      obtain ⟨i, rfl, hi⟩ := hx5 y (List.mem_of_getElem? hy)
      have hj : j < xs.length := (List.getElem?_eq_some_iff.mp hy).1
      (try simp only [V.str.injEq, HO.dK.injEq, a_tAug, a_tDisp, a_prs0, a_prs, a_rGetK, a_rSetK, a_tAugS, a_ipI, a_tPar3, a_tListR, a_iS0, a_tPop0, a_tCalK, g3r_is, g2r_is, g2_is, g1_is, a_rNePP, a_iEnum, a_tSeqL, a_tChain, a_tDict, a_tLstA, a_rEqT, a_tIns, a_tRev, a_rSlA, a_rCatA, a_rCatL, a_tSeq, a_tFor, a_rIxL, a_iZip, a_tSortR, a_tSl, a_rSlL0, a_tNoPart, a_tPart, a_tApp, a_tRet, a_tRetN, a_tNext, a_tDrop, a_tAsg, a_gSub, a_gName, a_gNil, a_gCons, a_gTup0, a_rSetL, a_tIfS, a_tAnd, a_tOr, a_tNot, a_tTest, a_tB, a_tTrue, a_tIf, a_tAndV, a_tOrV, a_tNotV, a_tOp, a_tUn, a_rU, a_tVar, a_tC, a_rI0, a_rI, a_rEq, a_rNe, a_rIx0, a_rIn0, a_tCB, a_tCal, a_tCons, a_tNil, a_tTupA, a_tLst, a_tPar, a_tBits, a_tLC, a_iRng1, a_iRng2, a_iT0, a_iL0, a_tEmit, frS, scal, V.ty.injEq, tyN, subN, String.reduceEq, String.reduceBEq, Bool.true_or, Bool.false_or, Bool.or_false, Bool.true_and, Bool.false_and, Bool.and_false, or_true, true_or, beq_self_eq_true, decide_true, decide_false, List.map_cons, List.map_nil, List.length_cons, List.length_nil, List.getElem?_cons_zero, List.getElem?_cons_succ, List.getElem?_nil, List.set_cons_zero, List.set_cons_succ, Option.some.injEq, Option.bind_some, Option.bind_none, id, exists_eq_left', exists_eq_left, exists_and_left, exists_eq_right, V.int.injEq, V.bl.injEq, V.ref.injEq, List.cons.injEq, and_true, true_and, and_assoc, exists_const, atI0, atI1, atI2, ixN30, ixN31, ixN32, upd_same, upd_upd, sq_updL, sq_updT, Nat.zero_add, Nat.reduceAdd, reduceCtorEq, false_and, and_false, exists_false, false_or, or_false, List.length_map, HO.lst.injEq, HO.tup.injEq, Bool.false_eq_true, if_false, if_true, decide_eq_true_eq, ite_true, ite_false, reduceIte, Int.reduceLT, Int.reduceLE, Nat.reduceLT, Int.zero_add, Bool.not_true, Bool.not_false, e1])
      rw [hpow]
      refine ⟨⟨by omega, by omega, by decide⟩, small1000 (by rw [List.length_take]; omega), ⟨_, rfl, s1.trans SameX.upd, ?_⟩⟩
      rw [upd_same, List.take_add_one]
      unfold pows
      rw [List.getElem?_map, hy]
      simp
    · rintro σ H1 ⟨v, rfl, s1, e1⟩
      rw [List.length_map, List.take_of_length_le (by unfold pows; simp)] at e1
      have pb := pows_bd hx5
      exact ⟨_, sq_lst e1, sumFits_of (fun y hy => by have := pb y hy; omega) (by unfold pows; rw [List.length_map]; omega), q H1 (s1.same nc)⟩
def sp_hos : Sp := fun vs H Q _ => ∃ (a : Addr) (ds : List Int) (s : Int), vs = [.ref a, .int s] ∧ H a = some (.tup (ds.map V.int)) ∧ ds.length ≤ 5 ∧ ∀ H', Same H H' → Q (.int (hos ds s ds.length : Int)) H'
def HS (a c : Addr) (ds : List Int) (s : Int) (G : Hp) (i : Nat) (σ : St) (H : Hp) : Prop := ∃ v : Option V, σ = [v, some (.ref a), some (.int s)] ∧ SameX c G H ∧ H c = some (.lst ((idxL ds s i).map V.int))
theorem sc_heap_of_side : FnScope ["sides", "side"] ["sides", "side"] (defScope s_heap_of_side) := ⟨rfl, rfl, rfl, by decide +kernel, rfl, by decide +kernel, by decide +kernel⟩
theorem ok_hos (F : Fun K "heap_of_side" "heap_of_side" s_heap_of_side f fd) (hm : mg "heap_of_side" = some (.ref f)) (hb : Binds K fd ["sides", "side"] []) (T : Txt mg) (c_heap_of : Cal P w K mg base "heap_of" ["things"] 1 sp_heap_of) : Cal P w K mg base "heap_of_side" ["sides", "side"] 2 sp_hos := by
  refine cal_of F hm hb sc_heap_of_side (fun vs H Q E h => ?_) (fun cdv A outer s H vs Q E hr h => ?_)
  · obtain ⟨_, _, _, rfl, _⟩ := h; rfl
  · obtain ⟨a, ds, s', rfl, ha, h5, q⟩ := h
    have sc := sc_heap_of_side
    refine ⟨_, pss_one (ps_ret (pe_cal c_heap_of hr (pa_cns (pe_lc (N := ["thing", "sides", "side"]) (fr := [none, some 0, some 1]) rfl (pi_range1 rfl T.range_ (pa_cns (pe_callB len0 rfl T.len_ bt_len (pa_cns (pv 0) pa_nil)) pa_nil)) (CScope.of rfl rfl rfl) rfl (fun _ _ _ => ⟨pg_name (i := 0) (show List.Nodup (α := Str) ["thing", "sides", "side"] by decide +kernel) rfl (Or.inl rfl), pif_one (pt_cmpR op_eq (pe_ix ix0 (pv 1) (pv 0) (fun _ _ => rfl)) (pv 2) (nomark _)), pv 0⟩)) pa_nil))), ?_⟩
    rw [show L2.start ["sides", "side"] [.ref a, .int s'] = [some (.ref a), some (.int s')] from rfl]
    have hs := sq_tup ha
    (try simp only [V.str.injEq, HO.dK.injEq, a_tAug, a_tDisp, a_prs0, a_prs, a_rGetK, a_rSetK, a_tAugS, a_ipI, a_tPar3, a_tListR, a_iS0, a_tPop0, a_tCalK, g3r_is, g2r_is, g2_is, g1_is, a_rNePP, a_iEnum, a_tSeqL, a_tChain, a_tDict, a_tLstA, a_rEqT, a_tIns, a_tRev, a_rSlA, a_rCatA, a_rCatL, a_tSeq, a_tFor, a_rIxL, a_iZip, a_tSortR, a_tSl, a_rSlL0, a_tNoPart, a_tPart, a_tApp, a_tRet, a_tRetN, a_tNext, a_tDrop, a_tAsg, a_gSub, a_gName, a_gNil, a_gCons, a_gTup0, a_rSetL, a_tIfS, a_tAnd, a_tOr, a_tNot, a_tTest, a_tB, a_tTrue, a_tIf, a_tAndV, a_tOrV, a_tNotV, a_tOp, a_tUn, a_rU, a_tVar, a_tC, a_rI0, a_rI, a_rEq, a_rNe, a_rIx0, a_rIn0, a_tCB, a_tCal, a_tCons, a_tNil, a_tTupA, a_tLst, a_tPar, a_tBits, a_tLC, a_iRng1, a_iRng2, a_iT0, a_iL0, a_tEmit, frS, scal, V.ty.injEq, tyN, subN, String.reduceEq, String.reduceBEq, Bool.true_or, Bool.false_or, Bool.or_false, Bool.true_and, Bool.false_and, Bool.and_false, or_true, true_or, beq_self_eq_true, decide_true, decide_false, List.map_cons, List.map_nil, List.length_cons, List.length_nil, List.getElem?_cons_zero, List.getElem?_cons_succ, List.getElem?_nil, List.set_cons_zero, List.set_cons_succ, Option.some.injEq, Option.bind_some, Option.bind_none, id, exists_eq_left', exists_eq_left, exists_and_left, exists_eq_right, V.int.injEq, V.bl.injEq, V.ref.injEq, List.cons.injEq, and_true, true_and, and_assoc, exists_const, atI0, atI1, atI2, ixN30, ixN31, ixN32, upd_same, upd_upd, sq_updL, sq_updT, Nat.zero_add, Nat.reduceAdd, reduceCtorEq, false_and, and_false, exists_false, false_or, or_false, List.length_map, HO.lst.injEq, HO.tup.injEq, Bool.false_eq_true, if_false, if_true, decide_eq_true_eq, ite_true, ite_false, reduceIte, Int.reduceLT, Int.reduceLE, Nat.reduceLT, Int.zero_add, Bool.not_true, Bool.not_false, hs])
    refine ⟨by omega, by omega, fun c nc => ?_⟩
    have nac : a ≠ c := ne_of_none ha nc
    refine cl_range (HS a c ds s' H) ⟨none, rfl, SameX.upd, upd_same⟩ ?_ ?_
    · rintro j σ H1 hj ⟨v, rfl, s1, e1⟩
      rw [Int.toNat_natCast] at hj
      have hs1 := sq_tup (s1 _ _ nac ha)
      have hat : atI (ds.map V.int) (j : Int) = some (V.int ds[j]) := atI_nat (by simp [hj])
      have hg : ds.getD j 0 = ds[j] := by rw [List.getD_eq_getElem?_getD, List.getElem?_eq_getElem hj]; rfl
      have il := idxL_len ds s' j
      (try simp only [V.str.injEq, HO.dK.injEq, a_tAug, a_tDisp, a_prs0, a_prs, a_rGetK, a_rSetK, a_tAugS, a_ipI, a_tPar3, a_tListR, a_iS0, a_tPop0, a_tCalK, g3r_is, g2r_is, g2_is, g1_is, a_rNePP, a_iEnum, a_tSeqL, a_tChain, a_tDict, a_tLstA, a_rEqT, a_tIns, a_tRev, a_rSlA, a_rCatA, a_rCatL, a_tSeq, a_tFor, a_rIxL, a_iZip, a_tSortR, a_tSl, a_rSlL0, a_tNoPart, a_tPart, a_tApp, a_tRet, a_tRetN, a_tNext, a_tDrop, a_tAsg, a_gSub, a_gName, a_gNil, a_gCons, a_gTup0, a_rSetL, a_tIfS, a_tAnd, a_tOr, a_tNot, a_tTest, a_tB, a_tTrue, a_tIf, a_tAndV, a_tOrV, a_tNotV, a_tOp, a_tUn, a_rU, a_tVar, a_tC, a_rI0, a_rI, a_rEq, a_rNe, a_rIx0, a_rIn0, a_tCB, a_tCal, a_tCons, a_tNil, a_tTupA, a_tLst, a_tPar, a_tBits, a_tLC, a_iRng1, a_iRng2, a_iT0, a_iL0, a_tEmit, frS, scal, V.ty.injEq, tyN, subN, String.reduceEq, String.reduceBEq, Bool.true_or, Bool.false_or, Bool.or_false, Bool.true_and, Bool.false_and, Bool.and_false, or_true, true_or, beq_self_eq_true, decide_true, decide_false, List.map_cons, List.map_nil, List.length_cons, List.length_nil, List.getElem?_cons_zero, List.getElem?_cons_succ, List.getElem?_nil, List.set_cons_zero, List.set_cons_succ, Option.some.injEq, Option.bind_some, Option.bind_none, id, exists_eq_left', exists_eq_left, exists_and_left, exists_eq_right, V.int.injEq, V.bl.injEq, V.ref.injEq, List.cons.injEq, and_true, true_and, and_assoc, exists_const, atI0, atI1, atI2, ixN30, ixN31, ixN32, upd_same, upd_upd, sq_updL, sq_updT, Nat.zero_add, Nat.reduceAdd, reduceCtorEq, false_and, and_false, exists_false, false_or, or_false, List.length_map, HO.lst.injEq, HO.tup.injEq, Bool.false_eq_true, if_false, if_true, decide_eq_true_eq, ite_true, ite_false, reduceIte, Int.reduceLT, Int.reduceLE, Nat.reduceLT, Int.zero_add, Bool.not_true, Bool.not_false, hs1, hat])
      by_cases hd : ds[j] = s'
      · rw [if_pos (by simpa using hd)]
        (try simp only [V.str.injEq, HO.dK.injEq, a_tAug, a_tDisp, a_prs0, a_prs, a_rGetK, a_rSetK, a_tAugS, a_ipI, a_tPar3, a_tListR, a_iS0, a_tPop0, a_tCalK, g3r_is, g2r_is, g2_is, g1_is, a_rNePP, a_iEnum, a_tSeqL, a_tChain, a_tDict, a_tLstA, a_rEqT, a_tIns, a_tRev, a_rSlA, a_rCatA, a_rCatL, a_tSeq, a_tFor, a_rIxL, a_iZip, a_tSortR, a_tSl, a_rSlL0, a_tNoPart, a_tPart, a_tApp, a_tRet, a_tRetN, a_tNext, a_tDrop, a_tAsg, a_gSub, a_gName, a_gNil, a_gCons, a_gTup0, a_rSetL, a_tIfS, a_tAnd, a_tOr, a_tNot, a_tTest, a_tB, a_tTrue, a_tIf, a_tAndV, a_tOrV, a_tNotV, a_tOp, a_tUn, a_rU, a_tVar, a_tC, a_rI0, a_rI, a_rEq, a_rNe, a_rIx0, a_rIn0, a_tCB, a_tCal, a_tCons, a_tNil, a_tTupA, a_tLst, a_tPar, a_tBits, a_tLC, a_iRng1, a_iRng2, a_iT0, a_iL0, a_tEmit, frS, scal, V.ty.injEq, tyN, subN, String.reduceEq, String.reduceBEq, Bool.true_or, Bool.false_or, Bool.or_false, Bool.true_and, Bool.false_and, Bool.and_false, or_true, true_or, beq_self_eq_true, decide_true, decide_false, List.map_cons, List.map_nil, List.length_cons, List.length_nil, List.getElem?_cons_zero, List.getElem?_cons_succ, List.getElem?_nil, List.set_cons_zero, List.set_cons_succ, Option.some.injEq, Option.bind_some, Option.bind_none, id, exists_eq_left', exists_eq_left, exists_and_left, exists_eq_right, V.int.injEq, V.bl.injEq, V.ref.injEq, List.cons.injEq, and_true, true_and, and_assoc, exists_const, atI0, atI1, atI2, ixN30, ixN31, ixN32, upd_same, upd_upd, sq_updL, sq_updT, Nat.zero_add, Nat.reduceAdd, reduceCtorEq, false_and, and_false, exists_false, false_or, or_false, List.length_map, HO.lst.injEq, HO.tup.injEq, Bool.false_eq_true, if_false, if_true, decide_eq_true_eq, ite_true, ite_false, reduceIte, Int.reduceLT, Int.reduceLE, Nat.reduceLT, Int.zero_add, Bool.not_true, Bool.not_false, e1])
        refine ⟨small1000 (by omega), ⟨_, rfl, s1.trans SameX.upd, ?_⟩⟩
        rw [upd_same, idxL_succ, if_pos (by rw [hg]; exact hd)]
        simp
      · rw [if_neg (by simpa using hd)]
        refine ⟨_, rfl, s1, ?_⟩
        rw [e1, idxL_succ, if_neg (by rw [hg]; exact hd), List.append_nil]
    · rintro σ H1 ⟨v, rfl, s1, e1⟩
      rw [Int.toNat_natCast] at e1
      (walk_at "rd")
      refine ⟨c, _, rfl, e1, Nat.le_trans (idxL_len _ _ _) h5, fun x hx => ?_, fun H2 s2 => ?_⟩
      · obtain ⟨i, e, l⟩ := idxL_mem hx
        exact ⟨i, e, by omega⟩
      · rw [pows_sum]
        exact q H2 ((s1.same nc).trans s2)
def heapsL (ds : List Int) (k : Nat) : List Int := (List.range k).map fun h : Nat => (hos ds (h : Int) ds.length : Int)
theorem heapsL_succ (ds : List Int) (k : Nat) : heapsL ds (k + 1) = heapsL ds k ++ [(hos ds (k : Int) ds.length : Int)] := by
  unfold heapsL
  rw [List.range_succ, List.map_append]
  rfl
theorem heapsL_len (ds : List Int) (k : Nat) : (heapsL ds k).length = k := by unfold heapsL; simp
def HL (a c : Addr) (ds : List Int) (G : Hp) (i : Nat) (σ : St) (H : Hp) : Prop := ∃ v : Option V, σ = [v, some (.ref a)] ∧ SameX c G H ∧ H c = some (.lst ((heapsL ds i).map V.int))
def sp_heaps : Sp := fun vs H Q _ => ∃ (t sd wt a : Addr) (m : Nat) (ts : List (Addr × List Int)) (ds : List Int), vs = [.ref t, .ref a] ∧ Rows H t sd wt ts m ∧ H a = some (.tup (ds.map V.int)) ∧ ds.length ≤ 5 ∧ ∀ (r : Addr) (H' : Hp), H r = none → Same H H' → H' r = some (.tup ((heapsL ds ts.length).map V.int)) → Q (.ref r) H'
theorem sc_heaps_of : FnScope ["town", "dealing"] ["town", "dealing"] (defScope s_heaps_of) := ⟨rfl, rfl, rfl, by decide +kernel, rfl, by decide +kernel, by decide +kernel⟩
theorem ok_heaps (F : Fun K "heaps_of" "heaps_of" s_heaps_of f fd) (hm : mg "heaps_of" = some (.ref f)) (hb : Binds K fd ["town", "dealing"] []) (T : Txt mg) (c_heap_of_side : Cal P w K mg base "heap_of_side" ["sides", "side"] 2 sp_hos) : Cal P w K mg base "heaps_of" ["town", "dealing"] 3 sp_heaps := by
  refine cal_of F hm hb sc_heaps_of (fun vs H Q E h => ?_) (fun cdv A outer s H vs Q E hr h => ?_)
  · obtain ⟨_, _, _, _, _, _, _, rfl, _⟩ := h; rfl
  · obtain ⟨t, sd, wt, a, m, ts, ds, rfl, W, ha, h5, q⟩ := h
    have sc := sc_heaps_of
    refine ⟨_, pss_one (ps_ret (pe_callTy tupA0 rfl T.tuple_ bt_tuple (pa_cns (pe_lc (N := ["hand", "dealing"]) (fr := [none, some 1]) rfl (pi_range1 rfl T.range_ (pa_cns (pe_callB len0 rfl T.len_ bt_len (pa_cns (pe_ix ix0 (pv 0) pe_int (fun _ _ => rfl)) pa_nil)) pa_nil)) (CScope.of rfl rfl rfl) rfl (fun _ _ _ => ⟨pg_name (i := 0) (show List.Nodup (α := Str) ["hand", "dealing"] by decide +kernel) rfl (Or.inl rfl), pif_nil, pe_cal c_heap_of_side hr (pa_cns (pv 1) (pa_cns (pv 0) pa_nil))⟩)) pa_nil))), ?_⟩
    rw [show L2.start ["town", "dealing"] [.ref t, .ref a] = [some (.ref t), some (.ref a)] from rfl]
    have hst := sq_tup W.tw
    have hsw := sq_tup W.wa
    have i1 : ∀ x y : V, atI [x, y] 1 = some y := fun _ _ => rfl
    have t5 := W.few
    (try simp only [V.str.injEq, HO.dK.injEq, a_tAug, a_tDisp, a_prs0, a_prs, a_rGetK, a_rSetK, a_tAugS, a_ipI, a_tPar3, a_tListR, a_iS0, a_tPop0, a_tCalK, g3r_is, g2r_is, g2_is, g1_is, a_rNePP, a_iEnum, a_tSeqL, a_tChain, a_tDict, a_tLstA, a_rEqT, a_tIns, a_tRev, a_rSlA, a_rCatA, a_rCatL, a_tSeq, a_tFor, a_rIxL, a_iZip, a_tSortR, a_tSl, a_rSlL0, a_tNoPart, a_tPart, a_tApp, a_tRet, a_tRetN, a_tNext, a_tDrop, a_tAsg, a_gSub, a_gName, a_gNil, a_gCons, a_gTup0, a_rSetL, a_tIfS, a_tAnd, a_tOr, a_tNot, a_tTest, a_tB, a_tTrue, a_tIf, a_tAndV, a_tOrV, a_tNotV, a_tOp, a_tUn, a_rU, a_tVar, a_tC, a_rI0, a_rI, a_rEq, a_rNe, a_rIx0, a_rIn0, a_tCB, a_tCal, a_tCons, a_tNil, a_tTupA, a_tLst, a_tPar, a_tBits, a_tLC, a_iRng1, a_iRng2, a_iT0, a_iL0, a_tEmit, frS, scal, V.ty.injEq, tyN, subN, String.reduceEq, String.reduceBEq, Bool.true_or, Bool.false_or, Bool.or_false, Bool.true_and, Bool.false_and, Bool.and_false, or_true, true_or, beq_self_eq_true, decide_true, decide_false, List.map_cons, List.map_nil, List.length_cons, List.length_nil, List.getElem?_cons_zero, List.getElem?_cons_succ, List.getElem?_nil, List.set_cons_zero, List.set_cons_succ, Option.some.injEq, Option.bind_some, Option.bind_none, id, exists_eq_left', exists_eq_left, exists_and_left, exists_eq_right, V.int.injEq, V.bl.injEq, V.ref.injEq, List.cons.injEq, and_true, true_and, and_assoc, exists_const, atI0, atI1, atI2, ixN30, ixN31, ixN32, upd_same, upd_upd, sq_updL, sq_updT, Nat.zero_add, Nat.reduceAdd, reduceCtorEq, false_and, and_false, exists_false, false_or, or_false, List.length_map, HO.lst.injEq, HO.tup.injEq, Bool.false_eq_true, if_false, if_true, decide_eq_true_eq, ite_true, ite_false, reduceIte, Int.reduceLT, Int.reduceLE, Nat.reduceLT, Int.zero_add, Bool.not_true, Bool.not_false, hst, i1, hsw])
    refine ⟨by omega, by omega, fun c nc => ?_⟩
    have nac : a ≠ c := ne_of_none ha nc
    refine cl_range (HL a c ds H) ⟨none, rfl, SameX.upd, upd_same⟩ ?_ ?_
    · rintro j σ H1 hj ⟨v, rfl, s1, e1⟩
      rw [Int.toNat_natCast] at hj
      (walk_at "rd")
      refine ⟨a, ds, (j : Int), rfl, s1 _ _ nac ha, h5, fun H2 s2 => ?_⟩
      have e12 := s2 _ _ e1
      (try simp only [V.str.injEq, HO.dK.injEq, a_tAug, a_tDisp, a_prs0, a_prs, a_rGetK, a_rSetK, a_tAugS, a_ipI, a_tPar3, a_tListR, a_iS0, a_tPop0, a_tCalK, g3r_is, g2r_is, g2_is, g1_is, a_rNePP, a_iEnum, a_tSeqL, a_tChain, a_tDict, a_tLstA, a_rEqT, a_tIns, a_tRev, a_rSlA, a_rCatA, a_rCatL, a_tSeq, a_tFor, a_rIxL, a_iZip, a_tSortR, a_tSl, a_rSlL0, a_tNoPart, a_tPart, a_tApp, a_tRet, a_tRetN, a_tNext, a_tDrop, a_tAsg, a_gSub, a_gName, a_gNil, a_gCons, a_gTup0, a_rSetL, a_tIfS, a_tAnd, a_tOr, a_tNot, a_tTest, a_tB, a_tTrue, a_tIf, a_tAndV, a_tOrV, a_tNotV, a_tOp, a_tUn, a_rU, a_tVar, a_tC, a_rI0, a_rI, a_rEq, a_rNe, a_rIx0, a_rIn0, a_tCB, a_tCal, a_tCons, a_tNil, a_tTupA, a_tLst, a_tPar, a_tBits, a_tLC, a_iRng1, a_iRng2, a_iT0, a_iL0, a_tEmit, frS, scal, V.ty.injEq, tyN, subN, String.reduceEq, String.reduceBEq, Bool.true_or, Bool.false_or, Bool.or_false, Bool.true_and, Bool.false_and, Bool.and_false, or_true, true_or, beq_self_eq_true, decide_true, decide_false, List.map_cons, List.map_nil, List.length_cons, List.length_nil, List.getElem?_cons_zero, List.getElem?_cons_succ, List.getElem?_nil, List.set_cons_zero, List.set_cons_succ, Option.some.injEq, Option.bind_some, Option.bind_none, id, exists_eq_left', exists_eq_left, exists_and_left, exists_eq_right, V.int.injEq, V.bl.injEq, V.ref.injEq, List.cons.injEq, and_true, true_and, and_assoc, exists_const, atI0, atI1, atI2, ixN30, ixN31, ixN32, upd_same, upd_upd, sq_updL, sq_updT, Nat.zero_add, Nat.reduceAdd, reduceCtorEq, false_and, and_false, exists_false, false_or, or_false, List.length_map, HO.lst.injEq, HO.tup.injEq, Bool.false_eq_true, if_false, if_true, decide_eq_true_eq, ite_true, ite_false, reduceIte, Int.reduceLT, Int.reduceLE, Nat.reduceLT, Int.zero_add, Bool.not_true, Bool.not_false, e12])
      refine ⟨small1000 (by rw [heapsL_len]; omega), ⟨_, rfl, (s1.trans s2.x).trans SameX.upd, ?_⟩⟩
      rw [upd_same, heapsL_succ, List.map_append]
      rfl
    · rintro σ H1 ⟨v, rfl, s1, e1⟩
      rw [Int.toNat_natCast] at e1
      refine ⟨_, e1, fun r H2 nr s2 e2 => ?_⟩
      have S1 := s1.same nc
      exact q r H2 (none_same S1 nr) (S1.trans s2) e2
def sp_left : Sp := fun vs H Q _ => ∃ (t a : Addr) (ds : List Int), vs = [.ref t, .ref a] ∧ H a = some (.tup (ds.map V.int)) ∧ ds.length ≤ 5 ∧ ∀ H', Same H H' → Q (.int (hos ds (-1) ds.length : Int)) H'
theorem sc_left_of : FnScope ["town", "dealing"] ["town", "dealing"] (defScope s_left_of) := ⟨rfl, rfl, rfl, by decide +kernel, rfl, by decide +kernel, by decide +kernel⟩
theorem ok_left_of (F : Fun K "left_of" "left_of" s_left_of f fd) (hm : mg "left_of" = some (.ref f)) (hb : Binds K fd ["town", "dealing"] []) (T : Txt mg) (c_heap_of_side : Cal P w K mg base "heap_of_side" ["sides", "side"] 2 sp_hos) : Cal P w K mg base "left_of" ["town", "dealing"] 3 sp_left := by
  refine cal_of F hm hb sc_left_of (fun vs H Q E h => ?_) (fun cdv A outer s H vs Q E hr h => ?_)
  · obtain ⟨_, _, _, rfl, _⟩ := h; rfl
  · obtain ⟨t, a, ds, rfl, ha, h5, q⟩ := h
    have sc := sc_left_of
    refine ⟨_, pss_one (ps_ret (pe_cal c_heap_of_side hr (pa_cns (pv 1) (pa_cns (pe_glob (v := .int (-1)) rfl T.LEFT_c.choose_spec ⟨_, rfl⟩) pa_nil)))), ?_⟩
    rw [show L2.start ["town", "dealing"] [.ref t, .ref a] = [some (.ref t), some (.ref a)] from rfl]
    (walk_at "rd")
    exact ⟨a, ds, -1, rfl, ha, h5, q⟩
def isI : V → Bool
  | .int _ => true
  | _ => false
def isFrom (least : Int) : V → Bool
  | .int i => decide (least ≤ i)
  | _ => false
theorem tyN_isI {H : Hp} {x : V} {t : String} (h : tyN H x = some t) : ((t == "int" || (t == "bool" && true)) && !(t == "bool")) = isI x := by
  cases x with
  | non => cases h; rfl
  | bl b => cases h; rfl
  | int i => cases h; rfl
  | str i => cases h; rfl
  | ref a =>
    cases e : H a with
    | none => simp [tyN, e] at h
    | some o =>
      cases o with
      | lst xs => simp [tyN, e] at h; subst h; rfl
      | tup xs => simp [tyN, e] at h; subst h; rfl
      | dK xs => simp [tyN, e] at h; subst h; rfl
      | _ => simp [tyN, e] at h
  | _ => cases h
theorem tyN_same {H H' : Hp} (s : Same H H') {x : V} {t : String} (h : tyN H x = some t) : tyN H' x = some t := by
  cases x with
  | ref a =>
    cases e : H a with
    | none => simp [tyN, e] at h
    | some o => simp only [tyN, e] at h; simp only [tyN, s a o e]; exact h
  | _ => exact h
def sp_whole : Sp := fun vs H Q _ => ∃ (x : V) (t : String), vs = [x] ∧ tyN H x = some t ∧ Q (.bl (isI x)) H
theorem sc_is_whole : FnScope ["thing"] ["thing"] (defScope s_is_whole) := ⟨rfl, rfl, rfl, by decide +kernel, rfl, by decide +kernel, by decide +kernel⟩
theorem ok_whole (F : Fun K "is_whole" "is_whole" s_is_whole f fd) (hm : mg "is_whole" = some (.ref f)) (hb : Binds K fd ["thing"] []) (T : Txt mg) : Cal P w K mg base "is_whole" ["thing"] 1 sp_whole := by
  refine cal_of F hm hb sc_is_whole (fun vs H Q E h => ?_) (fun cdv A outer s H vs Q E hr h => ?_)
  · obtain ⟨_, _, rfl, _⟩ := h; rfl
  · obtain ⟨x, t, rfl, hx, q⟩ := h
    have sc := sc_is_whole
    refine ⟨_, pss_one (ps_ret (pe_and (pe_callB isi0 rfl T.isinstance_ bt_isinstance (pa_cns (pv 0) (pa_cns (pe_bltn (v := .ty "int") rfl T.int_ bt_int rfl) pa_nil))) (pe_one (pe_not (pe_callB isi0 rfl T.isinstance_ bt_isinstance (pa_cns (pv 0) (pa_cns (pe_bltn (v := .ty "bool") rfl T.bool_ bt_bool rfl) pa_nil))))))), ?_⟩
    rw [show L2.start ["thing"] [x] = [some (x)] from rfl]
    rw [← tyN_isI hx] at q
    (walk_at "rd")
    refine ⟨_, hx, ?_⟩
    obtain ⟨_, ht⟩ := tyN_of (K := K) hx
    rcases ht with rfl | rfl | rfl | rfl | rfl | rfl | rfl
    all_goals first
      | (rw [if_neg (by decide)]; simpa using q)
      | (rw [if_pos (by decide)]; refine ⟨_, hx, ?_⟩; simpa using q)
def Kn (H : Hp) (xs : List V) : Prop := ∀ x ∈ xs, ∃ t, tyN H x = some t
theorem Kn.same {H H' : Hp} (s : Same H H') {xs : List V} (k : Kn H xs) : Kn H' xs := fun x hx => let ⟨t, e⟩ := k x hx; ⟨t, tyN_same s e⟩
theorem Kn.ints {H : Hp} (ns : List Int) : Kn H (ns.map V.int) := fun x hx => by
  obtain ⟨n, _, rfl⟩ := List.mem_map.mp hx
  exact ⟨"int", rfl⟩
def sp_wholes : Sp := fun vs H Q _ => (∃ (x : V) (k : Int) (t : String), vs = [x, .int k] ∧ tyN H x = some t ∧ (t == "tuple") = false ∧ Q (.bl false) H) ∨
  ∃ (a : Addr) (k : Int) (xs : List V), vs = [.ref a, .int k] ∧ H a = some (.tup xs) ∧ Kn H xs ∧ xs.length < 1000 ∧ ∀ H', Same H H' → Q (.bl (decide ((xs.length : Int) = k) && xs.all isI)) H'
def LW (c : Addr) (xs : List V) (G : Hp) (i : Nat) (σ : St) (H : Hp) : Prop := ∃ v, σ = [v] ∧ SameX c G H ∧ H c = some (.lst (((xs.take i).map isI).map V.bl))
theorem sc_are_wholes : FnScope ["thing", "many"] ["thing", "many"] (defScope s_are_wholes) := ⟨rfl, rfl, rfl, by decide +kernel, rfl, by decide +kernel, by decide +kernel⟩
theorem ok_wholes (F : Fun K "are_wholes" "are_wholes" s_are_wholes f fd) (hm : mg "are_wholes" = some (.ref f)) (hb : Binds K fd ["thing", "many"] []) (T : Txt mg) (c_is_whole : Cal P w K mg base "is_whole" ["thing"] 1 sp_whole) : Cal P w K mg base "are_wholes" ["thing", "many"] 2 sp_wholes := by
  refine cal_of F hm hb sc_are_wholes (fun vs H Q E h => ?_) (fun cdv A outer s H vs Q E hr h => ?_)
  · rcases h with h | h
    · obtain ⟨_, _, _, rfl, _⟩ := h; rfl
    · obtain ⟨_, _, _, rfl, _⟩ := h; rfl
  · rcases h with h | h
    · obtain ⟨x, k, t, rfl, hx, ht, q⟩ := h
      have sc := sc_are_wholes
      refine ⟨_, pss_one (ps_ret (pe_and (pe_callB isi0 rfl T.isinstance_ bt_isinstance (pa_cns (pv 0) (pa_cns (pe_bltn (v := .ty "tuple") rfl T.tuple_ bt_tuple rfl) pa_nil))) (pe_and (pe_cmpR op_eq (pe_callB len0 rfl T.len_ bt_len (pa_cns (pv 0) pa_nil)) (pv 1) (nomark _)) (pe_one (pe_callB (all0 rfl) rfl T.all_ bt_all (pa_cns (pe_lc (N := ["part"]) (fr := [none]) rfl (pi_t0 (pv 0)) (CScope.of rfl rfl rfl) rfl (fun _ _ _ => ⟨pg_name (i := 0) (show List.Nodup (α := Str) ["part"] by decide +kernel) rfl (Or.inl rfl), pif_nil, pe_cal c_is_whole hr (pa_cns (pv 0) pa_nil)⟩)) pa_nil)))))), ?_⟩
      rw [show L2.start ["thing", "many"] [x, .int k] = [some (x), some (.int k)] from rfl]
      (walk_at "rd")
      refine ⟨_, hx, ?_⟩
      (walk_at "rd")
      rw [if_neg (by rw [ht]; decide)]
      exact q
    · obtain ⟨a, k, xs, rfl, ha, hk, hlen, q⟩ := h
      have sc := sc_are_wholes
      refine ⟨_, pss_one (ps_ret (pe_and (pe_callB isi0 rfl T.isinstance_ bt_isinstance (pa_cns (pv 0) (pa_cns (pe_bltn (v := .ty "tuple") rfl T.tuple_ bt_tuple rfl) pa_nil))) (pe_and (pe_cmpR op_eq (pe_callB len0 rfl T.len_ bt_len (pa_cns (pv 0) pa_nil)) (pv 1) (nomark _)) (pe_one (pe_callB (all0 rfl) rfl T.all_ bt_all (pa_cns (pe_lc (N := ["part"]) (fr := [none]) rfl (pi_t0 (pv 0)) (CScope.of rfl rfl rfl) rfl (fun _ _ _ => ⟨pg_name (i := 0) (show List.Nodup (α := Str) ["part"] by decide +kernel) rfl (Or.inl rfl), pif_nil, pe_cal c_is_whole hr (pa_cns (pv 0) pa_nil)⟩)) pa_nil)))))), ?_⟩
      rw [show L2.start ["thing", "many"] [.ref a, .int k] = [some (.ref a), some (.int k)] from rfl]
      have hsa := sq_tup ha
      (try simp only [V.str.injEq, HO.dK.injEq, a_tAug, a_tDisp, a_prs0, a_prs, a_rGetK, a_rSetK, a_tAugS, a_ipI, a_tPar3, a_tListR, a_iS0, a_tPop0, a_tCalK, g3r_is, g2r_is, g2_is, g1_is, a_rNePP, a_iEnum, a_tSeqL, a_tChain, a_tDict, a_tLstA, a_rEqT, a_tIns, a_tRev, a_rSlA, a_rCatA, a_rCatL, a_tSeq, a_tFor, a_rIxL, a_iZip, a_tSortR, a_tSl, a_rSlL0, a_tNoPart, a_tPart, a_tApp, a_tRet, a_tRetN, a_tNext, a_tDrop, a_tAsg, a_gSub, a_gName, a_gNil, a_gCons, a_gTup0, a_rSetL, a_tIfS, a_tAnd, a_tOr, a_tNot, a_tTest, a_tB, a_tTrue, a_tIf, a_tAndV, a_tOrV, a_tNotV, a_tOp, a_tUn, a_rU, a_tVar, a_tC, a_rI0, a_rI, a_rEq, a_rNe, a_rIx0, a_rIn0, a_tCB, a_tCal, a_tCons, a_tNil, a_tTupA, a_tLst, a_tPar, a_tBits, a_tLC, a_iRng1, a_iRng2, a_iT0, a_iL0, a_tEmit, frS, scal, V.ty.injEq, tyN, subN, String.reduceEq, String.reduceBEq, Bool.true_or, Bool.false_or, Bool.or_false, Bool.true_and, Bool.false_and, Bool.and_false, or_true, true_or, beq_self_eq_true, decide_true, decide_false, List.map_cons, List.map_nil, List.length_cons, List.length_nil, List.getElem?_cons_zero, List.getElem?_cons_succ, List.getElem?_nil, List.set_cons_zero, List.set_cons_succ, Option.some.injEq, Option.bind_some, Option.bind_none, id, exists_eq_left', exists_eq_left, exists_and_left, exists_eq_right, V.int.injEq, V.bl.injEq, V.ref.injEq, List.cons.injEq, and_true, true_and, and_assoc, exists_const, atI0, atI1, atI2, ixN30, ixN31, ixN32, upd_same, upd_upd, sq_updL, sq_updT, Nat.zero_add, Nat.reduceAdd, reduceCtorEq, false_and, and_false, exists_false, false_or, or_false, List.length_map, HO.lst.injEq, HO.tup.injEq, Bool.false_eq_true, if_false, if_true, decide_eq_true_eq, ite_true, ite_false, reduceIte, Int.reduceLT, Int.reduceLE, Nat.reduceLT, Int.zero_add, Bool.not_true, Bool.not_false, ha, hsa])
      by_cases hl : (xs.length : Int) = k
      · rw [if_pos hl]
        intro c nc
        have nac : a ≠ c := ne_of_none ha nc
        refine cl_seq (LW c xs H) ⟨none, rfl, SameX.upd, upd_same⟩ (fun j σ H' _ ⟨_, _, s, _⟩ => s _ _ nac ha) ?_ ?_
        · rintro i x σ H1 hx ⟨v, rfl, s1, e1⟩
          obtain ⟨t, ht⟩ := hk x (List.mem_of_getElem? hx)
          have ht1 := tyN_same (s1.same nc) ht
          have hi : i < xs.length := (List.getElem?_eq_some_iff.mp hx).1
          (try simp only [V.str.injEq, HO.dK.injEq, a_tAug, a_tDisp, a_prs0, a_prs, a_rGetK, a_rSetK, a_tAugS, a_ipI, a_tPar3, a_tListR, a_iS0, a_tPop0, a_tCalK, g3r_is, g2r_is, g2_is, g1_is, a_rNePP, a_iEnum, a_tSeqL, a_tChain, a_tDict, a_tLstA, a_rEqT, a_tIns, a_tRev, a_rSlA, a_rCatA, a_rCatL, a_tSeq, a_tFor, a_rIxL, a_iZip, a_tSortR, a_tSl, a_rSlL0, a_tNoPart, a_tPart, a_tApp, a_tRet, a_tRetN, a_tNext, a_tDrop, a_tAsg, a_gSub, a_gName, a_gNil, a_gCons, a_gTup0, a_rSetL, a_tIfS, a_tAnd, a_tOr, a_tNot, a_tTest, a_tB, a_tTrue, a_tIf, a_tAndV, a_tOrV, a_tNotV, a_tOp, a_tUn, a_rU, a_tVar, a_tC, a_rI0, a_rI, a_rEq, a_rNe, a_rIx0, a_rIn0, a_tCB, a_tCal, a_tCons, a_tNil, a_tTupA, a_tLst, a_tPar, a_tBits, a_tLC, a_iRng1, a_iRng2, a_iT0, a_iL0, a_tEmit, frS, scal, V.ty.injEq, tyN, subN, String.reduceEq, String.reduceBEq, Bool.true_or, Bool.false_or, Bool.or_false, Bool.true_and, Bool.false_and, Bool.and_false, or_true, true_or, beq_self_eq_true, decide_true, decide_false, List.map_cons, List.map_nil, List.length_cons, List.length_nil, List.getElem?_cons_zero, List.getElem?_cons_succ, List.getElem?_nil, List.set_cons_zero, List.set_cons_succ, Option.some.injEq, Option.bind_some, Option.bind_none, id, exists_eq_left', exists_eq_left, exists_and_left, exists_eq_right, V.int.injEq, V.bl.injEq, V.ref.injEq, List.cons.injEq, and_true, true_and, and_assoc, exists_const, atI0, atI1, atI2, ixN30, ixN31, ixN32, upd_same, upd_upd, sq_updL, sq_updT, Nat.zero_add, Nat.reduceAdd, reduceCtorEq, false_and, and_false, exists_false, false_or, or_false, List.length_map, HO.lst.injEq, HO.tup.injEq, Bool.false_eq_true, if_false, if_true, decide_eq_true_eq, ite_true, ite_false, reduceIte, Int.reduceLT, Int.reduceLE, Nat.reduceLT, Int.zero_add, Bool.not_true, Bool.not_false, e1])
          refine ⟨_, _, rfl, ht1, ?_⟩
          refine ⟨_, e1, small1000 (by rw [List.length_map, List.length_map, List.length_take]; omega), ⟨_, rfl, s1.trans SameX.upd, ?_⟩⟩
          rw [upd_same, List.take_add_one, hx]
          simp
        · rintro σ H1 ⟨v, rfl, s1, e1⟩
          rw [List.take_length] at e1
          refine ⟨_, sq_lst e1, ?_⟩
          have := q H1 (s1.same nc)
          rw [decide_eq_true hl, Bool.true_and] at this
          rw [List.all_map]
          exact this
      · rw [if_neg hl]
        have := q H (Same.refl H)
        rw [decide_eq_false hl, Bool.false_and] at this
        exact this
theorem isI_int {x : V} (h : isI x = true) : ∃ i, x = .int i := by
  cases x with
  | int i => exact ⟨i, rfl⟩
  | _ => cases h
theorem allI_ints : ∀ {xs : List V}, xs.all isI = true → ∃ ns : List Int, xs = ns.map V.int
  | [], _ => ⟨[], rfl⟩
  | x :: r, h => by
    rw [List.all_cons, Bool.and_eq_true] at h
    obtain ⟨ns, e⟩ := allI_ints h.2
    obtain ⟨i, rfl⟩ := isI_int h.1
    exact ⟨i :: ns, by rw [e]; rfl⟩
theorem allF_I {least : Int} : ∀ {xs : List V}, xs.all (isFrom least) = true → xs.all isI = true
  | [], _ => rfl
  | x :: r, h => by
    rw [List.all_cons, Bool.and_eq_true] at h
    rw [List.all_cons, allF_I h.2, Bool.and_true]
    cases x <;> first | rfl | exact h.1
def sp_from : Sp := fun vs H Q _ => (∃ (x : V) (k l : Int) (t : String), vs = [x, .int k, .int l] ∧ tyN H x = some t ∧ (t == "tuple") = false ∧ Q (.bl false) H) ∨
  ∃ (a : Addr) (k l : Int) (xs : List V), vs = [.ref a, .int k, .int l] ∧ H a = some (.tup xs) ∧ Kn H xs ∧ xs.length < 1000 ∧ ∀ H', Same H H' → Q (.bl (decide ((xs.length : Int) = k) && xs.all (isFrom l))) H'
def LF (c : Addr) (ns : List Int) (l : Int) (G : Hp) (i : Nat) (σ : St) (H : Hp) : Prop := ∃ v, σ = [v, some (.int l)] ∧ SameX c G H ∧ H c = some (.lst (((ns.take i).map fun n => decide (l ≤ n)).map V.bl))
theorem sc_are_wholes_from : FnScope ["thing", "many", "least"] ["thing", "many", "least"] (defScope s_are_wholes_from) := ⟨rfl, rfl, rfl, by decide +kernel, rfl, by decide +kernel, by decide +kernel⟩
theorem ok_from (F : Fun K "are_wholes_from" "are_wholes_from" s_are_wholes_from f fd) (hm : mg "are_wholes_from" = some (.ref f)) (hb : Binds K fd ["thing", "many", "least"] []) (T : Txt mg) (c_are_wholes : Cal P w K mg base "are_wholes" ["thing", "many"] 2 sp_wholes) : Cal P w K mg base "are_wholes_from" ["thing", "many", "least"] 3 sp_from := by
  refine cal_of F hm hb sc_are_wholes_from (fun vs H Q E h => ?_) (fun cdv A outer s H vs Q E hr h => ?_)
  · rcases h with h | h
    · obtain ⟨_, _, _, _, rfl, _⟩ := h; rfl
    · obtain ⟨_, _, _, _, rfl, _⟩ := h; rfl
  · rcases h with h | h
    · obtain ⟨x, k, l, t, rfl, hx, ht, q⟩ := h
      have sc := sc_are_wholes_from
      refine ⟨_, pss_one (ps_ret (pe_and (pe_cal c_are_wholes hr (pa_cns (pv 0) (pa_cns (pv 1) pa_nil))) (pe_one (pe_callB (all0 rfl) rfl T.all_ bt_all (pa_cns (pe_lc (N := ["part", "least"]) (fr := [none, some 2]) rfl (pi_t0 (pv 0)) (CScope.of rfl rfl rfl) rfl (fun _ _ _ => ⟨pg_name (i := 0) (show List.Nodup (α := Str) ["part", "least"] by decide +kernel) rfl (Or.inl rfl), pif_nil, pe_cmpR op_ge (pv 0) (pv 1) (nomark _)⟩)) pa_nil))))), ?_⟩
      rw [show L2.start ["thing", "many", "least"] [x, .int k, .int l] = [some (x), some (.int k), some (.int l)] from rfl]
      (walk_at "rd")
      refine .inl ⟨x, k, t, rfl, hx, ht, ?_⟩
      (walk_at "rd")
      exact q
    · obtain ⟨a, k, l, xs, rfl, ha, hk, hlen, q⟩ := h
      have sc := sc_are_wholes_from
      refine ⟨_, pss_one (ps_ret (pe_and (pe_cal c_are_wholes hr (pa_cns (pv 0) (pa_cns (pv 1) pa_nil))) (pe_one (pe_callB (all0 rfl) rfl T.all_ bt_all (pa_cns (pe_lc (N := ["part", "least"]) (fr := [none, some 2]) rfl (pi_t0 (pv 0)) (CScope.of rfl rfl rfl) rfl (fun _ _ _ => ⟨pg_name (i := 0) (show List.Nodup (α := Str) ["part", "least"] by decide +kernel) rfl (Or.inl rfl), pif_nil, pe_cmpR op_ge (pv 0) (pv 1) (nomark _)⟩)) pa_nil))))), ?_⟩
      rw [show L2.start ["thing", "many", "least"] [.ref a, .int k, .int l] = [some (.ref a), some (.int k), some (.int l)] from rfl]
      (walk_at "rd")
      refine .inr ⟨a, k, xs, rfl, ha, hk, hlen, fun H1 s1 => ?_⟩
      by_cases hl : (decide ((xs.length : Int) = k) && xs.all isI) = true
      · rw [hl]
        rw [Bool.and_eq_true, decide_eq_true_eq] at hl
        obtain ⟨ns, rfl⟩ := allI_ints hl.2
        have ha1 := s1 _ _ ha
        (try simp only [V.str.injEq, HO.dK.injEq, a_tAug, a_tDisp, a_prs0, a_prs, a_rGetK, a_rSetK, a_tAugS, a_ipI, a_tPar3, a_tListR, a_iS0, a_tPop0, a_tCalK, g3r_is, g2r_is, g2_is, g1_is, a_rNePP, a_iEnum, a_tSeqL, a_tChain, a_tDict, a_tLstA, a_rEqT, a_tIns, a_tRev, a_rSlA, a_rCatA, a_rCatL, a_tSeq, a_tFor, a_rIxL, a_iZip, a_tSortR, a_tSl, a_rSlL0, a_tNoPart, a_tPart, a_tApp, a_tRet, a_tRetN, a_tNext, a_tDrop, a_tAsg, a_gSub, a_gName, a_gNil, a_gCons, a_gTup0, a_rSetL, a_tIfS, a_tAnd, a_tOr, a_tNot, a_tTest, a_tB, a_tTrue, a_tIf, a_tAndV, a_tOrV, a_tNotV, a_tOp, a_tUn, a_rU, a_tVar, a_tC, a_rI0, a_rI, a_rEq, a_rNe, a_rIx0, a_rIn0, a_tCB, a_tCal, a_tCons, a_tNil, a_tTupA, a_tLst, a_tPar, a_tBits, a_tLC, a_iRng1, a_iRng2, a_iT0, a_iL0, a_tEmit, frS, scal, V.ty.injEq, tyN, subN, String.reduceEq, String.reduceBEq, Bool.true_or, Bool.false_or, Bool.or_false, Bool.true_and, Bool.false_and, Bool.and_false, or_true, true_or, beq_self_eq_true, decide_true, decide_false, List.map_cons, List.map_nil, List.length_cons, List.length_nil, List.getElem?_cons_zero, List.getElem?_cons_succ, List.getElem?_nil, List.set_cons_zero, List.set_cons_succ, Option.some.injEq, Option.bind_some, Option.bind_none, id, exists_eq_left', exists_eq_left, exists_and_left, exists_eq_right, V.int.injEq, V.bl.injEq, V.ref.injEq, List.cons.injEq, and_true, true_and, and_assoc, exists_const, atI0, atI1, atI2, ixN30, ixN31, ixN32, upd_same, upd_upd, sq_updL, sq_updT, Nat.zero_add, Nat.reduceAdd, reduceCtorEq, false_and, and_false, exists_false, false_or, or_false, List.length_map, HO.lst.injEq, HO.tup.injEq, Bool.false_eq_true, if_false, if_true, decide_eq_true_eq, ite_true, ite_false, reduceIte, Int.reduceLT, Int.reduceLE, Nat.reduceLT, Int.zero_add, Bool.not_true, Bool.not_false, ha1])
        intro c nc
        have nac : a ≠ c := ne_of_none ha1 nc
        refine cl_seq (LF c ns l H1) ⟨none, rfl, SameX.upd, upd_same⟩ (fun j σ H' _ ⟨_, _, s, _⟩ => s _ _ nac ha1) ?_ ?_
        · rintro i x σ H2 hx ⟨v, rfl, s2, e2⟩
          rw [List.getElem?_map] at hx
          obtain ⟨n, hn, rfl⟩ := Option.map_eq_some_iff.mp hx
          have hi : i < ns.length := (List.getElem?_eq_some_iff.mp hn).1
          rw [List.length_map] at hlen
          (try simp only [V.str.injEq, HO.dK.injEq, a_tAug, a_tDisp, a_prs0, a_prs, a_rGetK, a_rSetK, a_tAugS, a_ipI, a_tPar3, a_tListR, a_iS0, a_tPop0, a_tCalK, g3r_is, g2r_is, g2_is, g1_is, a_rNePP, a_iEnum, a_tSeqL, a_tChain, a_tDict, a_tLstA, a_rEqT, a_tIns, a_tRev, a_rSlA, a_rCatA, a_rCatL, a_tSeq, a_tFor, a_rIxL, a_iZip, a_tSortR, a_tSl, a_rSlL0, a_tNoPart, a_tPart, a_tApp, a_tRet, a_tRetN, a_tNext, a_tDrop, a_tAsg, a_gSub, a_gName, a_gNil, a_gCons, a_gTup0, a_rSetL, a_tIfS, a_tAnd, a_tOr, a_tNot, a_tTest, a_tB, a_tTrue, a_tIf, a_tAndV, a_tOrV, a_tNotV, a_tOp, a_tUn, a_rU, a_tVar, a_tC, a_rI0, a_rI, a_rEq, a_rNe, a_rIx0, a_rIn0, a_tCB, a_tCal, a_tCons, a_tNil, a_tTupA, a_tLst, a_tPar, a_tBits, a_tLC, a_iRng1, a_iRng2, a_iT0, a_iL0, a_tEmit, frS, scal, V.ty.injEq, tyN, subN, String.reduceEq, String.reduceBEq, Bool.true_or, Bool.false_or, Bool.or_false, Bool.true_and, Bool.false_and, Bool.and_false, or_true, true_or, beq_self_eq_true, decide_true, decide_false, List.map_cons, List.map_nil, List.length_cons, List.length_nil, List.getElem?_cons_zero, List.getElem?_cons_succ, List.getElem?_nil, List.set_cons_zero, List.set_cons_succ, Option.some.injEq, Option.bind_some, Option.bind_none, id, exists_eq_left', exists_eq_left, exists_and_left, exists_eq_right, V.int.injEq, V.bl.injEq, V.ref.injEq, List.cons.injEq, and_true, true_and, and_assoc, exists_const, atI0, atI1, atI2, ixN30, ixN31, ixN32, upd_same, upd_upd, sq_updL, sq_updT, Nat.zero_add, Nat.reduceAdd, reduceCtorEq, false_and, and_false, exists_false, false_or, or_false, List.length_map, HO.lst.injEq, HO.tup.injEq, Bool.false_eq_true, if_false, if_true, decide_eq_true_eq, ite_true, ite_false, reduceIte, Int.reduceLT, Int.reduceLE, Nat.reduceLT, Int.zero_add, Bool.not_true, Bool.not_false, e2])
          refine ⟨small1000 (by rw [List.length_take]; omega), ⟨_, rfl, s2.trans SameX.upd, ?_⟩⟩
          rw [upd_same, List.take_add_one, hn]
          simp
        · rintro σ H2 ⟨v, rfl, s2, e2⟩
          rw [List.length_map, List.take_length] at e2
          refine ⟨_, sq_lst e2, ?_⟩
          have := q H2 (s1.trans (s2.same nc))
          rw [decide_eq_true hl.1, Bool.true_and, List.all_map] at this
          rw [List.all_map]
          exact this
      · have hf : (decide ((xs.length : Int) = k) && xs.all isI) = false := by simpa using hl
        rw [hf]
        have e : (decide ((xs.length : Int) = k) && xs.all (isFrom l)) = false := by
          cases e1 : decide ((xs.length : Int) = k) with
          | false => rfl
          | true =>
            cases e2 : xs.all (isFrom l) with
            | false => rfl
            | true => rw [e1, allF_I e2] at hf; exact hf
        have := q H1 s1
        rw [e] at this
        (walk_at "rd")
        exact this
end
end K44
end
section
set_option Elab.async false
set_option linter.all false
set_option maxRecDepth 100000
set_option maxHeartbeats 8000000
namespace K44
open PySem L2
local macro_rules | `(tactic| walk_at "rd") => `(tactic| (try simp only [V.str.injEq, HO.dK.injEq, a_tAug, a_tDisp, a_prs0, a_prs, a_rGetK, a_rSetK, a_tAugS, a_ipI, a_tPar3, a_tListR, a_iS0, a_tPop0, a_tCalK, g3r_is, g2r_is, g2_is, g1_is, a_rNePP, a_iEnum, a_tSeqL, a_tChain, a_tDict, a_tLstA, a_rEqT, a_tIns, a_tRev, a_rSlA, a_rCatA, a_rCatL, a_tSeq, a_tFor, a_rIxL, a_iZip, a_tSortR, a_tSl, a_rSlL0, a_tNoPart, a_tPart, a_tApp, a_tRet, a_tRetN, a_tNext, a_tDrop, a_tAsg, a_gSub, a_gName, a_gNil, a_gCons, a_gTup0, a_rSetL, a_tIfS, a_tAnd, a_tOr, a_tNot, a_tTest, a_tB, a_tTrue, a_tIf, a_tAndV, a_tOrV, a_tNotV, a_tOp, a_tUn, a_rU, a_tVar, a_tC, a_rI0, a_rI, a_rEq, a_rNe, a_rIx0, a_rIn0, a_tCB, a_tCal, a_tCons, a_tNil, a_tTupA, a_tLst, a_tPar, a_tBits, a_tLC, a_iRng1, a_iRng2, a_iT0, a_iL0, a_tEmit, frS, scal, V.ty.injEq, tyN, subN, String.reduceEq, String.reduceBEq, Bool.true_or, Bool.false_or, Bool.or_false, Bool.true_and, Bool.false_and, Bool.and_false, or_true, true_or, beq_self_eq_true, decide_true, decide_false, List.map_cons, List.map_nil, List.length_cons, List.length_nil, List.getElem?_cons_zero, List.getElem?_cons_succ, List.getElem?_nil, List.set_cons_zero, List.set_cons_succ, Option.some.injEq, Option.bind_some, Option.bind_none, id, exists_eq_left', exists_eq_left, exists_and_left, exists_eq_right, V.int.injEq, V.bl.injEq, V.ref.injEq, List.cons.injEq, and_true, true_and, and_assoc, exists_const, atI0, atI1, atI2, ixN30, ixN31, ixN32, upd_same, upd_upd, sq_updL, sq_updT, Nat.zero_add, Nat.reduceAdd, reduceCtorEq, false_and, and_false, exists_false, false_or, or_false, List.length_map, HO.lst.injEq, HO.tup.injEq, Bool.false_eq_true, if_false, if_true, decide_eq_true_eq, ite_true, ite_false, reduceIte, Int.reduceLT, Int.reduceLE, Nat.reduceLT, Int.zero_add, Bool.not_true, Bool.not_false]))
section
variable {P : Program} {w : World} {K : PySem.W.Frag} {mg : Str → Option Value} {base : Heap} {f : Addr} {fd : FuncData}
theorem inV_int (x : Int) (xs : List Int) : inV (.int x) (xs.map V.int) = decide (x ∈ xs) := by
  unfold inV
  rw [Bool.eq_iff_iff, List.any_eq_true, decide_eq_true_eq]
  constructor
  · rintro ⟨y, hy, e⟩
    obtain ⟨z, hz, rfl⟩ := List.mem_map.mp hy
    have : z = x := by simpa [eqV] using e
    exact this ▸ hz
  · intro h
    exact ⟨.int x, List.mem_map.mpr ⟨x, h, rfl⟩, by simp [eqV]⟩
theorem flat_ints (ss : List Int) : (ss.map V.int).all flatV = true := by
  rw [List.all_map, List.all_eq_true]
  intro x _
  rfl
def gainAt (b : Int) (ws ns : List Int) (k : Nat) : Int := b * ws.getD k 0 - byBits ns (k : Int) ns.length
def bestB (b : Int) (ns ws : List Int) (k : Nat) : Bool := decide (∀ k', k' < ws.length → gainAt b ws ns k' ≤ gainAt b ws ns k)
def leftB (ns ds : List Int) : Bool := decide (∀ t, t < ns.length → ds.getD t 0 = -1 → ns.getD t 0 = 0)
def bestsB (ts : List (Addr × List Int)) (b : Int) (ns ds : List Int) (i : Nat) : List Bool := (List.range i).map fun h => bestB b ns (ts.getD h (0, [])).2 (hos ds (h : Int) ds.length)
def meetB (ts : List (Addr × List Int)) (b : Int) (ns ds : List Int) : Bool := (bestsB ts b ns ds ts.length).all id && leftB ns ds
theorem bestsB_succ (ts : List (Addr × List Int)) (b : Int) (ns ds : List Int) (i : Nat) : bestsB ts b ns ds (i + 1) = bestsB ts b ns ds i ++ [bestB b ns (ts.getD i (0, [])).2 (hos ds (i : Int) ds.length)] := by
  unfold bestsB
  rw [List.range_succ, List.map_append]
  rfl
theorem idxL_in {g : List Int} {m : Int} {n k : Nat} : ((k : Int) ∈ idxL g m n) ↔ k < n ∧ g.getD k 0 = m := by
  unfold idxL
  simp only [List.mem_map, List.mem_filter, List.mem_range, decide_eq_true_eq]
  constructor
  · rintro ⟨i, ⟨h1, h2⟩, e⟩
    have : i = k := by omega
    subst this
    exact ⟨h1, h2⟩
  · rintro ⟨h1, h2⟩
    exact ⟨k, ⟨h1, h2⟩, rfl⟩
theorem best_in {b : Int} {ns ws : List Int} {m : Int} {k : Nat} (n5 : ns.length ≤ 5) (wl : ws.length = 2 ^ ns.length) (hk : k < ws.length) (hm : m ∈ gainsL (ws.map fun x => b * x) ns) (hx : ∀ x ∈ gainsL (ws.map fun x => b * x) ns, x ≤ m) : decide ((k : Int) ∈ idxL (gainsL (ws.map fun x => b * x) ns) m (gainsL (ws.map fun x => b * x) ns).length) = bestB b ns ws k := by
  have gl : (gainsL (ws.map fun x => b * x) ns).length = ws.length := by rw [gainsL_len (by rw [List.length_map]; exact wl), wl]
  have ga : ∀ j, j < ws.length → (gainsL (ws.map fun x => b * x) ns).getD j 0 = gainAt b ws ns j := fun j hj => by
    rw [List.getD_eq_getElem?_getD, gain_at n5 wl hj]
    rfl
  unfold bestB
  rw [decide_eq_decide, idxL_in, gl, ga k hk]
  constructor
  · rintro ⟨_, e⟩ k' hk'
    rw [e, ← ga k' hk']
    refine hx _ ?_
    rw [List.getD_eq_getElem?_getD, List.getElem?_eq_getElem (by omega)]
    exact List.getElem_mem _
  · intro h
    refine ⟨hk, Int.le_antisymm ?_ ?_⟩
    · rw [← ga k hk]
      refine hx _ ?_
      rw [List.getD_eq_getElem?_getD, List.getElem?_eq_getElem (by omega)]
      exact List.getElem_mem _
    · obtain ⟨j, hj, e⟩ := List.getElem_of_mem hm
      rw [gl] at hj
      have := h j hj
      rw [← ga j hj, List.getD_eq_getElem?_getD, List.getElem?_eq_getElem (by omega)] at this
      rw [e] at this
      exact this
theorem bit_top {x k t : Nat} (hk : k < 5) (hx : x < 2 ^ k) (ht : t < 5) : bit ((x + 2 ^ k : Nat) : Int) t = if t = k then 1 else bit (x : Int) t := by
  have key : ∀ (x : _root_.Fin 32) (k t : _root_.Fin 5), x.val < 2 ^ k.val → bit ((x.val + 2 ^ k.val : Nat) : Int) t.val = if t.val = k.val then 1 else bit (x.val : Int) t.val := by decide +kernel
  have := pow32 (show k ≤ 5 by omega)
  exact key ⟨x, by omega⟩ ⟨k, hk⟩ ⟨t, ht⟩ hx
theorem hos_bit (ds : List Int) (s : Int) : ∀ k, k ≤ 5 → ∀ t, t < 5 → bit ((hos ds s k : Nat) : Int) t = if t < k ∧ ds.getD t 0 = s then 1 else 0
  | 0, _, t, ht => by
    have : ¬ bit ((0 : Nat) : Int) t = 1 := bit_0 ht
    have := bit_or (h := 0) (by decide) ht
    show bit ((0 : Nat) : Int) t = _
    rw [if_neg (by omega)]
    omega
  | k + 1, hk, t, ht => by
    have ih := hos_bit ds s k (by omega) t ht
    show bit ((hos ds s k + (if ds.getD k 0 = s then 2 ^ k else 0) : Nat) : Int) t = _
    by_cases e : ds.getD k 0 = s
    · rw [if_pos e, bit_top (by omega) (hos_lt ds s k) ht]
      by_cases z : t = k
      · rw [if_pos z, if_pos ⟨by omega, by rw [z]; exact e⟩]
      · rw [if_neg z, ih]
        by_cases y : ds.getD t 0 = s
        · by_cases x : t < k
          · rw [if_pos ⟨x, y⟩, if_pos ⟨by omega, y⟩]
          · rw [if_neg (fun q => x q.1), if_neg (fun q => x (by omega))]
        · rw [if_neg (fun q => y q.2), if_neg (fun q => y q.2)]
    · rw [if_neg e, Nat.add_zero, ih]
      by_cases y : ds.getD t 0 = s
      · have hne : t ≠ k := fun z => e (by rw [← z]; exact y)
        by_cases x : t < k
        · rw [if_pos ⟨x, y⟩, if_pos ⟨by omega, y⟩]
        · rw [if_neg (fun q => x q.1), if_neg (fun q => x (by omega))]
      · rw [if_neg (fun q => y q.2), if_neg (fun q => y q.2)]
theorem things_len (h : Int) : (thingsI h).length ≤ 5 := by
  unfold thingsI
  rw [List.length_map]
  exact Nat.le_trans (List.length_filter_le _ _) (by simp)
theorem left_mem {ns ds : List Int} {x : Int} (n5 : ns.length ≤ 5) (dl : ds.length = ns.length) (h : x ∈ thingsI (hos ds (-1) ds.length : Int)) : ∃ t : Nat, x = (t : Int) ∧ t < ns.length := by
  unfold thingsI at h
  simp only [List.mem_map, List.mem_filter, List.mem_range] at h
  obtain ⟨i, ⟨h1, h2⟩, rfl⟩ := h
  have h3 : bit (hos ds (-1) ds.length : Int) i = 1 := of_decide_eq_true h2
  rw [hos_bit ds (-1) _ (by omega) i h1, dl] at h3
  by_cases z : i < ns.length ∧ ds.getD i 0 = -1
  · exact ⟨i, rfl, z.1⟩
  · rw [if_neg z] at h3
    omega
theorem left_all {ns ds : List Int} (n5 : ns.length ≤ 5) (dl : ds.length = ns.length) : ((thingsI (hos ds (-1) ds.length : Int)).map fun t => decide (ns.getD t.toNat 0 = 0)).all id = leftB ns ds := by
  unfold leftB
  rw [List.all_map, Bool.eq_iff_iff, List.all_eq_true, decide_eq_true_eq]
  have mem : ∀ t : Nat, (t : Int) ∈ thingsI (hos ds (-1) ds.length : Int) ↔ t < ns.length ∧ ds.getD t 0 = -1 := fun t => by
    unfold thingsI
    simp only [List.mem_map, List.mem_filter, List.mem_range]
    constructor
    · rintro ⟨i, ⟨h1, h2⟩, e⟩
      have : i = t := by omega
      subst this
      have h3 : bit (hos ds (-1) ds.length : Int) i = 1 := of_decide_eq_true h2
      rw [hos_bit ds (-1) _ (by omega) i h1, dl] at h3
      by_cases z : i < ns.length ∧ ds.getD i 0 = -1
      · exact z
      · rw [if_neg z] at h3
        omega
    · rintro ⟨h1, h2⟩
      refine ⟨t, ⟨by omega, decide_eq_true ?_⟩, rfl⟩
      have : bit (hos ds (-1) ds.length : Int) t = 1 := by rw [hos_bit ds (-1) _ (by omega) t (by omega), if_pos ⟨by omega, h2⟩]
      exact this
  constructor
  · intro h t ht hd
    have := h (t : Int) ((mem t).mpr ⟨ht, hd⟩)
    simpa using this
  · intro h x hx
    have hx' := hx
    unfold thingsI at hx'
    obtain ⟨i, _, rfl⟩ := List.mem_map.mp hx'
    obtain ⟨h1, h2⟩ := (mem i).mp hx
    have := h i h1 h2
    simpa using this
def sp_isfrom : Sp := fun vs H Q _ => ∃ (x : V) (l : Int) (t : String), vs = [x, .int l] ∧ tyN H x = some t ∧ Q (.bl (isFrom l x)) H
theorem sc_is_whole_from : FnScope ["thing", "least"] ["thing", "least"] (defScope s_is_whole_from) := ⟨rfl, rfl, rfl, by decide +kernel, rfl, by decide +kernel, by decide +kernel⟩
theorem ok_isfrom (F : Fun K "is_whole_from" "is_whole_from" s_is_whole_from f fd) (hm : mg "is_whole_from" = some (.ref f)) (hb : Binds K fd ["thing", "least"] []) (T : Txt mg) (c_is_whole : Cal P w K mg base "is_whole" ["thing"] 1 sp_whole) : Cal P w K mg base "is_whole_from" ["thing", "least"] 2 sp_isfrom := by
  refine cal_of F hm hb sc_is_whole_from (fun vs H Q E h => ?_) (fun cdv A outer s H vs Q E hr h => ?_)
  · obtain ⟨_, _, _, rfl, _⟩ := h; rfl
  · obtain ⟨x, l, t, rfl, hx, q⟩ := h
    have sc := sc_is_whole_from
    refine ⟨_, pss_one (ps_ret (pe_and (pe_cal c_is_whole hr (pa_cns (pv 0) pa_nil)) (pe_one (pe_cmpR op_ge (pv 0) (pv 1) (nomark _))))), ?_⟩
    rw [show L2.start ["thing", "least"] [x, .int l] = [some (x), some (.int l)] from rfl]
    (walk_at "rd")
    refine ⟨_, t, rfl, hx, ?_⟩
    cases e : isI x with
    | true =>
      obtain ⟨i, rfl⟩ := isI_int e
      (walk_at "rd")
      exact q
    | false =>
      have : isFrom l x = false := by
        cases x with
        | int i => cases e
        | _ => rfl
      rw [this] at q
      (walk_at "rd")
      exact q
def Deal (ds : List Int) (m n : Nat) : Prop := ds.length = m ∧ ∀ x ∈ ds, -1 ≤ x ∧ x < (n : Int)
def intV : V → Int
  | .int i => i
  | _ => 0
def okH (n : Nat) (x : V) : Bool := isFrom (-1) x && decide (intV x < (n : Int))
def dealB (m n : Nat) (xs : List V) : Bool := decide (xs.length = m) && xs.all (okH n)
def ThB (H : Hp) (x : V) (m n : Nat) (b : Bool) : Prop := (∃ t, tyN H x = some t ∧ (t == "tuple") = false ∧ b = false) ∨ ∃ (a : Addr) (xs : List V), x = .ref a ∧ H a = some (.tup xs) ∧ Kn H xs ∧ xs.length < 1000 ∧ b = dealB m n xs
theorem ThB.same {H H' : Hp} {x : V} {m n : Nat} {b : Bool} (h : ThB H x m n b) (s : Same H H') : ThB H' x m n b := by
  rcases h with ⟨t, h1, h2, h3⟩ | ⟨a, xs, h1, h2, h3, h4, h5⟩
  · exact .inl ⟨t, tyN_same s h1, h2, h3⟩
  · exact .inr ⟨a, xs, h1, s _ _ h2, h3.same s, h4, h5⟩
theorem from_ints : ∀ {xs : List V} {l : Int}, xs.all (isFrom l) = true → ∃ ns : List Int, xs = ns.map V.int ∧ ∀ n ∈ ns, l ≤ n
  | [], _, _ => ⟨[], rfl, fun n hn => by simp at hn⟩
  | x :: xs, l, h => by
    rw [List.all_cons, Bool.and_eq_true] at h
    obtain ⟨ns, e, g⟩ := from_ints h.2
    cases x with
    | int i =>
      refine ⟨i :: ns, by rw [e]; rfl, fun n hn => ?_⟩
      rcases List.mem_cons.mp hn with rfl | z
      · exact of_decide_eq_true h.1
      · exact g n z
    | _ => exact absurd h.1 (by simp [isFrom])
theorem ok_all {ns : List Int} {n : Nat} {mx : Int} (g : ∀ x ∈ ns, (-1 : Int) ≤ x) (mm : mx ∈ ns) (mg' : ∀ x ∈ ns, x ≤ mx) : (ns.map V.int).all (okH n) = decide (mx < (n : Int)) := by
  rw [Bool.eq_iff_iff, List.all_eq_true, decide_eq_true_eq]
  constructor
  · intro h
    have := h (.int mx) (List.mem_map.mpr ⟨mx, mm, rfl⟩)
    unfold okH at this
    rw [Bool.and_eq_true] at this
    exact of_decide_eq_true this.2
  · intro h x hx
    obtain ⟨i, hi, rfl⟩ := List.mem_map.mp hx
    unfold okH
    rw [Bool.and_eq_true]
    refine ⟨decide_eq_true (g i hi), decide_eq_true ?_⟩
    have := mg' i hi
    show i < (n : Int)
    omega
def sp_isd : Sp := fun vs H Q _ => ∃ (t sd wt : Addr) (m : Nat) (ss : List Int) (ts : List (Addr × List Int)) (x : V) (b : Bool), vs = [.ref t, x] ∧ Rows H t sd wt ts m ∧ H sd = some (.tup (ss.map V.int)) ∧ ss.length = m ∧ 1 ≤ m ∧ ThB H x m ts.length b ∧ ∀ H', Same H H' → Q (.bl b) H'
theorem sc_is_dealing : FnScope ["town", "thing", "sides", "wants"] ["town", "thing"] (defScope s_is_dealing) := ⟨rfl, rfl, rfl, by decide +kernel, rfl, by decide +kernel, by decide +kernel⟩
theorem ok_isd (F : Fun K "is_dealing" "is_dealing" s_is_dealing f fd) (hm : mg "is_dealing" = some (.ref f)) (hb : Binds K fd ["town", "thing"] []) (T : Txt mg) (c_are_wholes_from : Cal P w K mg base "are_wholes_from" ["thing", "many", "least"] 3 sp_from) : Cal P w K mg base "is_dealing" ["town", "thing"] 4 sp_isd := by
  refine cal_of F hm hb sc_is_dealing (fun vs H Q E h => ?_) (fun cdv A outer s H vs Q E hr h => ?_)
  · obtain ⟨_, _, _, _, _, _, _, _, rfl, _⟩ := h; rfl
  · obtain ⟨t, sd, wt, m, ss, ts, x, b, rfl, W, hsd, slen, m1, th, q⟩ := h
    have sc := sc_is_dealing
    refine ⟨_, pss_consL (ps_asg (pv 0) (pg_tup0 (n := 2) rfl (pgs_cons (pg_name (i := 2) sc.nd rfl (Or.inl rfl)) (pgs_cons (pg_name (i := 3) sc.nd rfl (Or.inl rfl)) pgs_nil))))
      (pss_one (ps_ret (pe_and (pe_cal c_are_wholes_from hr (pa_cns (pv 1) (pa_cns (pe_callB len0 rfl T.len_ bt_len (pa_cns (pv 2) pa_nil)) (pa_cns (pe_glob (v := .int (-1)) rfl T.LEFT_c.choose_spec ⟨_, rfl⟩) pa_nil)))) (pe_one (pe_cmpR op_lt (pe_callB (max0 rfl) rfl T.max_ bt_max (pa_cns (pv 1) pa_nil)) (pe_callB len0 rfl T.len_ bt_len (pa_cns (pv 3) pa_nil)) (nomark _)))))), ?_⟩
    rw [show L2.start ["town", "thing", "sides", "wants"] [.ref t, x] = [some (.ref t), some (x), none, none] from rfl]
    have hat := W.tw
    have hss := sq_tup hsd
    (try simp only [V.str.injEq, HO.dK.injEq, a_tAug, a_tDisp, a_prs0, a_prs, a_rGetK, a_rSetK, a_tAugS, a_ipI, a_tPar3, a_tListR, a_iS0, a_tPop0, a_tCalK, g3r_is, g2r_is, g2_is, g1_is, a_rNePP, a_iEnum, a_tSeqL, a_tChain, a_tDict, a_tLstA, a_rEqT, a_tIns, a_tRev, a_rSlA, a_rCatA, a_rCatL, a_tSeq, a_tFor, a_rIxL, a_iZip, a_tSortR, a_tSl, a_rSlL0, a_tNoPart, a_tPart, a_tApp, a_tRet, a_tRetN, a_tNext, a_tDrop, a_tAsg, a_gSub, a_gName, a_gNil, a_gCons, a_gTup0, a_rSetL, a_tIfS, a_tAnd, a_tOr, a_tNot, a_tTest, a_tB, a_tTrue, a_tIf, a_tAndV, a_tOrV, a_tNotV, a_tOp, a_tUn, a_rU, a_tVar, a_tC, a_rI0, a_rI, a_rEq, a_rNe, a_rIx0, a_rIn0, a_tCB, a_tCal, a_tCons, a_tNil, a_tTupA, a_tLst, a_tPar, a_tBits, a_tLC, a_iRng1, a_iRng2, a_iT0, a_iL0, a_tEmit, frS, scal, V.ty.injEq, tyN, subN, String.reduceEq, String.reduceBEq, Bool.true_or, Bool.false_or, Bool.or_false, Bool.true_and, Bool.false_and, Bool.and_false, or_true, true_or, beq_self_eq_true, decide_true, decide_false, List.map_cons, List.map_nil, List.length_cons, List.length_nil, List.getElem?_cons_zero, List.getElem?_cons_succ, List.getElem?_nil, List.set_cons_zero, List.set_cons_succ, Option.some.injEq, Option.bind_some, Option.bind_none, id, exists_eq_left', exists_eq_left, exists_and_left, exists_eq_right, V.int.injEq, V.bl.injEq, V.ref.injEq, List.cons.injEq, and_true, true_and, and_assoc, exists_const, atI0, atI1, atI2, ixN30, ixN31, ixN32, upd_same, upd_upd, sq_updL, sq_updT, Nat.zero_add, Nat.reduceAdd, reduceCtorEq, false_and, and_false, exists_false, false_or, or_false, List.length_map, HO.lst.injEq, HO.tup.injEq, Bool.false_eq_true, if_false, if_true, decide_eq_true_eq, ite_true, ite_false, reduceIte, Int.reduceLT, Int.reduceLE, Nat.reduceLT, Int.zero_add, Bool.not_true, Bool.not_false, hat])
    (simp only [a_later])
    (try simp only [V.str.injEq, HO.dK.injEq, a_tAug, a_tDisp, a_prs0, a_prs, a_rGetK, a_rSetK, a_tAugS, a_ipI, a_tPar3, a_tListR, a_iS0, a_tPop0, a_tCalK, g3r_is, g2r_is, g2_is, g1_is, a_rNePP, a_iEnum, a_tSeqL, a_tChain, a_tDict, a_tLstA, a_rEqT, a_tIns, a_tRev, a_rSlA, a_rCatA, a_rCatL, a_tSeq, a_tFor, a_rIxL, a_iZip, a_tSortR, a_tSl, a_rSlL0, a_tNoPart, a_tPart, a_tApp, a_tRet, a_tRetN, a_tNext, a_tDrop, a_tAsg, a_gSub, a_gName, a_gNil, a_gCons, a_gTup0, a_rSetL, a_tIfS, a_tAnd, a_tOr, a_tNot, a_tTest, a_tB, a_tTrue, a_tIf, a_tAndV, a_tOrV, a_tNotV, a_tOp, a_tUn, a_rU, a_tVar, a_tC, a_rI0, a_rI, a_rEq, a_rNe, a_rIx0, a_rIn0, a_tCB, a_tCal, a_tCons, a_tNil, a_tTupA, a_tLst, a_tPar, a_tBits, a_tLC, a_iRng1, a_iRng2, a_iT0, a_iL0, a_tEmit, frS, scal, V.ty.injEq, tyN, subN, String.reduceEq, String.reduceBEq, Bool.true_or, Bool.false_or, Bool.or_false, Bool.true_and, Bool.false_and, Bool.and_false, or_true, true_or, beq_self_eq_true, decide_true, decide_false, List.map_cons, List.map_nil, List.length_cons, List.length_nil, List.getElem?_cons_zero, List.getElem?_cons_succ, List.getElem?_nil, List.set_cons_zero, List.set_cons_succ, Option.some.injEq, Option.bind_some, Option.bind_none, id, exists_eq_left', exists_eq_left, exists_and_left, exists_eq_right, V.int.injEq, V.bl.injEq, V.ref.injEq, List.cons.injEq, and_true, true_and, and_assoc, exists_const, atI0, atI1, atI2, ixN30, ixN31, ixN32, upd_same, upd_upd, sq_updL, sq_updT, Nat.zero_add, Nat.reduceAdd, reduceCtorEq, false_and, and_false, exists_false, false_or, or_false, List.length_map, HO.lst.injEq, HO.tup.injEq, Bool.false_eq_true, if_false, if_true, decide_eq_true_eq, ite_true, ite_false, reduceIte, Int.reduceLT, Int.reduceLE, Nat.reduceLT, Int.zero_add, Bool.not_true, Bool.not_false, hss])
    rw [slen]
    rcases th with ⟨ty, h1, h2, rfl⟩ | ⟨a, xs, rfl, ha, kn, xl, rfl⟩
    · refine .inl ⟨x, _, _, ty, rfl, h1, h2, ?_⟩
      (walk_at "rd")
      exact q H (Same.refl H)
    · refine .inr ⟨a, _, _, xs, rfl, ha, kn, xl, fun H1 s1 => ?_⟩
      cases hb1 : decide ((xs.length : Int) = (m : Int)) && xs.all (isFrom (-1)) with
      | false =>
        (walk_at "rd")
        have : dealB m ts.length xs = false := by
          unfold dealB
          rw [Bool.and_eq_false_iff] at hb1 ⊢
          rcases hb1 with z | z
          · exact .inl (decide_eq_false (fun e => of_decide_eq_false z (by omega)))
          · right
            rw [List.all_eq_false] at z ⊢
            obtain ⟨y, hy, e⟩ := z
            exact ⟨y, hy, fun z' => by unfold okH at z'; rw [Bool.and_eq_true] at z'; exact e z'.1⟩
        rw [← this]
        exact q H1 s1
      | true =>
        rw [Bool.and_eq_true] at hb1
        obtain ⟨ns, rfl, g⟩ := from_ints hb1.2
        have hl : ns.length = m := by have := of_decide_eq_true hb1.1; rw [List.length_map] at this; omega
        have hs1 := sq_tup (s1 _ _ ha)
        have hsw := sq_tup (s1 _ _ W.wa)
        (try simp only [V.str.injEq, HO.dK.injEq, a_tAug, a_tDisp, a_prs0, a_prs, a_rGetK, a_rSetK, a_tAugS, a_ipI, a_tPar3, a_tListR, a_iS0, a_tPop0, a_tCalK, g3r_is, g2r_is, g2_is, g1_is, a_rNePP, a_iEnum, a_tSeqL, a_tChain, a_tDict, a_tLstA, a_rEqT, a_tIns, a_tRev, a_rSlA, a_rCatA, a_rCatL, a_tSeq, a_tFor, a_rIxL, a_iZip, a_tSortR, a_tSl, a_rSlL0, a_tNoPart, a_tPart, a_tApp, a_tRet, a_tRetN, a_tNext, a_tDrop, a_tAsg, a_gSub, a_gName, a_gNil, a_gCons, a_gTup0, a_rSetL, a_tIfS, a_tAnd, a_tOr, a_tNot, a_tTest, a_tB, a_tTrue, a_tIf, a_tAndV, a_tOrV, a_tNotV, a_tOp, a_tUn, a_rU, a_tVar, a_tC, a_rI0, a_rI, a_rEq, a_rNe, a_rIx0, a_rIn0, a_tCB, a_tCal, a_tCons, a_tNil, a_tTupA, a_tLst, a_tPar, a_tBits, a_tLC, a_iRng1, a_iRng2, a_iT0, a_iL0, a_tEmit, frS, scal, V.ty.injEq, tyN, subN, String.reduceEq, String.reduceBEq, Bool.true_or, Bool.false_or, Bool.or_false, Bool.true_and, Bool.false_and, Bool.and_false, or_true, true_or, beq_self_eq_true, decide_true, decide_false, List.map_cons, List.map_nil, List.length_cons, List.length_nil, List.getElem?_cons_zero, List.getElem?_cons_succ, List.getElem?_nil, List.set_cons_zero, List.set_cons_succ, Option.some.injEq, Option.bind_some, Option.bind_none, id, exists_eq_left', exists_eq_left, exists_and_left, exists_eq_right, V.int.injEq, V.bl.injEq, V.ref.injEq, List.cons.injEq, and_true, true_and, and_assoc, exists_const, atI0, atI1, atI2, ixN30, ixN31, ixN32, upd_same, upd_upd, sq_updL, sq_updT, Nat.zero_add, Nat.reduceAdd, reduceCtorEq, false_and, and_false, exists_false, false_or, or_false, List.length_map, HO.lst.injEq, HO.tup.injEq, Bool.false_eq_true, if_false, if_true, decide_eq_true_eq, ite_true, ite_false, reduceIte, Int.reduceLT, Int.reduceLE, Nat.reduceLT, Int.zero_add, Bool.not_true, Bool.not_false, hs1])
        refine ⟨ns, rfl, fun z => by rw [z] at hl; simp at hl; omega, fun mx mm mg' => ?_⟩
        (try simp only [V.str.injEq, HO.dK.injEq, a_tAug, a_tDisp, a_prs0, a_prs, a_rGetK, a_rSetK, a_tAugS, a_ipI, a_tPar3, a_tListR, a_iS0, a_tPop0, a_tCalK, g3r_is, g2r_is, g2_is, g1_is, a_rNePP, a_iEnum, a_tSeqL, a_tChain, a_tDict, a_tLstA, a_rEqT, a_tIns, a_tRev, a_rSlA, a_rCatA, a_rCatL, a_tSeq, a_tFor, a_rIxL, a_iZip, a_tSortR, a_tSl, a_rSlL0, a_tNoPart, a_tPart, a_tApp, a_tRet, a_tRetN, a_tNext, a_tDrop, a_tAsg, a_gSub, a_gName, a_gNil, a_gCons, a_gTup0, a_rSetL, a_tIfS, a_tAnd, a_tOr, a_tNot, a_tTest, a_tB, a_tTrue, a_tIf, a_tAndV, a_tOrV, a_tNotV, a_tOp, a_tUn, a_rU, a_tVar, a_tC, a_rI0, a_rI, a_rEq, a_rNe, a_rIx0, a_rIn0, a_tCB, a_tCal, a_tCons, a_tNil, a_tTupA, a_tLst, a_tPar, a_tBits, a_tLC, a_iRng1, a_iRng2, a_iT0, a_iL0, a_tEmit, frS, scal, V.ty.injEq, tyN, subN, String.reduceEq, String.reduceBEq, Bool.true_or, Bool.false_or, Bool.or_false, Bool.true_and, Bool.false_and, Bool.and_false, or_true, true_or, beq_self_eq_true, decide_true, decide_false, List.map_cons, List.map_nil, List.length_cons, List.length_nil, List.getElem?_cons_zero, List.getElem?_cons_succ, List.getElem?_nil, List.set_cons_zero, List.set_cons_succ, Option.some.injEq, Option.bind_some, Option.bind_none, id, exists_eq_left', exists_eq_left, exists_and_left, exists_eq_right, V.int.injEq, V.bl.injEq, V.ref.injEq, List.cons.injEq, and_true, true_and, and_assoc, exists_const, atI0, atI1, atI2, ixN30, ixN31, ixN32, upd_same, upd_upd, sq_updL, sq_updT, Nat.zero_add, Nat.reduceAdd, reduceCtorEq, false_and, and_false, exists_false, false_or, or_false, List.length_map, HO.lst.injEq, HO.tup.injEq, Bool.false_eq_true, if_false, if_true, decide_eq_true_eq, ite_true, ite_false, reduceIte, Int.reduceLT, Int.reduceLE, Nat.reduceLT, Int.zero_add, Bool.not_true, Bool.not_false, hsw])
        have : dealB m ts.length (ns.map V.int) = decide (mx < (ts.length : Int)) := by
          unfold dealB
          rw [ok_all g mm mg', decide_eq_true (by rw [List.length_map]; exact hl), Bool.true_and]
        rw [← this]
        exact q H1 s1
def sp_meets : Sp := fun vs H Q _ => ∃ (t sd wt na a : Addr) (ts : List (Addr × List Int)) (b : Int) (ns ds : List Int), vs = [.ref t, .int b, .ref na, .ref a] ∧ Rows H t sd wt ts ns.length ∧ H na = some (.tup (ns.map V.int)) ∧ H a = some (.tup (ds.map V.int)) ∧ 0 ≤ b ∧ b ≤ 1000 ∧ ds.length = ns.length ∧ ∀ H', Same H H' → Q (.bl (meetB ts b ns ds)) H'
def MI (c na : Addr) (b : Int) (ts : List (Addr × List Int)) (ns ds : List Int) (G : Hp) (i : Nat) (σ : St) (H : Hp) : Prop := ∃ v1 v2 : Option V, σ = [v1, v2, some (.int b), some (.ref na)] ∧ SameX c G H ∧ H c = some (.lst ((bestsB ts b ns ds i).map V.bl))
def LI (c na : Addr) (ns xs : List Int) (G : Hp) (i : Nat) (σ : St) (H : Hp) : Prop := ∃ v : Option V, σ = [v, some (.ref na)] ∧ SameX c G H ∧ H c = some (.lst (((xs.take i).map fun t => decide (ns.getD t.toNat 0 = 0)).map V.bl))
theorem sc_meets : FnScope ["town", "by", "numbers", "dealing", "heaps"] ["town", "by", "numbers", "dealing"] (defScope s_meets) := ⟨rfl, rfl, rfl, by decide +kernel, rfl, by decide +kernel, by decide +kernel⟩
theorem ok_meets (F : Fun K "meets" "meets" s_meets f fd) (T : Txt mg) (c_heaps_of : Cal P w K mg base "heaps_of" ["town", "dealing"] 3 sp_heaps) (c_left_of : Cal P w K mg base "left_of" ["town", "dealing"] 3 sp_left) (c_things_in : Cal P w K mg base "things_in" ["heap"] 2 sp_things) (c_in_parts : Cal P w K mg base "in_parts" ["want", "by"] 1 sp_parts) (c_best_heaps : Cal P w K mg base "best_heaps" ["want", "prices"] 3 sp_best) : FnOk P w K mg base CX0 4 f fd ["town", "by", "numbers", "dealing"] sp_meets := by
  refine F.ok sc_meets (fun vs H Q E h => ?_) (fun cdv A outer s H vs Q E hr h => ?_)
  · obtain ⟨_, _, _, _, _, _, _, _, _, rfl, _⟩ := h; rfl
  · obtain ⟨t, sd, wt, na, a, ts, b, ns, ds, rfl, R, hna, ha, b0, b1, dl, q⟩ := h
    have sc := sc_meets
    refine ⟨_, pss_consL (ps_set (i := 4) sc.nd rfl (Or.inl rfl) (pe_cal c_heaps_of hr (pa_cns (pv 0) (pa_cns (pv 3) pa_nil))))
      (pss_consL (ps_if (pt_not (pt_val (pe_callB (all0 rfl) rfl T.all_ bt_all (pa_cns (pe_lc (N := ["want", "heap", "by", "numbers"]) (fr := [none, none, some 1, some 2]) rfl (pi_zip rfl T.zip_ (pa_cns (pe_ix ix0 (pv 0) pe_int (fun _ _ => rfl)) (pa_cns (pv 4) pa_nil))) (CScope.of rfl rfl rfl) rfl (fun _ _ _ => ⟨pg_tup0 (n := 2) rfl (pgs_cons (pg_name (i := 0) (show List.Nodup (α := Str) ["want", "heap", "by", "numbers"] by decide +kernel) rfl (Or.inl rfl)) (pgs_cons (pg_name (i := 1) (show List.Nodup (α := Str) ["want", "heap", "by", "numbers"] by decide +kernel) rfl (Or.inl rfl)) pgs_nil)), pif_nil, pe_cmpR in0 (pv 1) (pe_cal c_best_heaps hr (pa_cns (pe_cal c_in_parts hr (pa_cns (pv 0) (pa_cns (pv 2) pa_nil))) (pa_cns (pv 3) pa_nil))) rfl⟩)) pa_nil)))) (pss_one (ps_ret pe_bl)) pss_nil)
      (pss_one (ps_ret (pe_callB (all0 rfl) rfl T.all_ bt_all (pa_cns (pe_lc (N := ["thing", "numbers"]) (fr := [none, some 2]) rfl (pi_t0 (pe_cal c_things_in hr (pa_cns (pe_cal c_left_of hr (pa_cns (pv 0) (pa_cns (pv 3) pa_nil))) pa_nil))) (CScope.of rfl rfl rfl) rfl (fun _ _ _ => ⟨pg_name (i := 0) (show List.Nodup (α := Str) ["thing", "numbers"] by decide +kernel) rfl (Or.inl rfl), pif_nil, pe_cmpR op_eq (pe_ix ix0 (pv 1) (pv 0) (fun _ _ => rfl)) pe_int (nomark _)⟩)) pa_nil))))), ?_⟩
    rw [show L2.start ["town", "by", "numbers", "dealing", "heaps"] [.ref t, .int b, .ref na, .ref a] = [some (.ref t), some (.int b), some (.ref na), some (.ref a), none] from rfl]
    (walk_at "rd")
    have five := R.five
    have few := R.few
    refine ⟨t, sd, wt, a, _, ts, ds, rfl, R, ha, by omega, fun hp H1 nhp s1 e1 => ?_⟩
    have R1 := R.same s1
    have htw1 := sq_tup R1.tw
    (walk_at "rd")
    (simp only [a_later])
    (try simp only [V.str.injEq, HO.dK.injEq, a_tAug, a_tDisp, a_prs0, a_prs, a_rGetK, a_rSetK, a_tAugS, a_ipI, a_tPar3, a_tListR, a_iS0, a_tPop0, a_tCalK, g3r_is, g2r_is, g2_is, g1_is, a_rNePP, a_iEnum, a_tSeqL, a_tChain, a_tDict, a_tLstA, a_rEqT, a_tIns, a_tRev, a_rSlA, a_rCatA, a_rCatL, a_tSeq, a_tFor, a_rIxL, a_iZip, a_tSortR, a_tSl, a_rSlL0, a_tNoPart, a_tPart, a_tApp, a_tRet, a_tRetN, a_tNext, a_tDrop, a_tAsg, a_gSub, a_gName, a_gNil, a_gCons, a_gTup0, a_rSetL, a_tIfS, a_tAnd, a_tOr, a_tNot, a_tTest, a_tB, a_tTrue, a_tIf, a_tAndV, a_tOrV, a_tNotV, a_tOp, a_tUn, a_rU, a_tVar, a_tC, a_rI0, a_rI, a_rEq, a_rNe, a_rIx0, a_rIn0, a_tCB, a_tCal, a_tCons, a_tNil, a_tTupA, a_tLst, a_tPar, a_tBits, a_tLC, a_iRng1, a_iRng2, a_iT0, a_iL0, a_tEmit, frS, scal, V.ty.injEq, tyN, subN, String.reduceEq, String.reduceBEq, Bool.true_or, Bool.false_or, Bool.or_false, Bool.true_and, Bool.false_and, Bool.and_false, or_true, true_or, beq_self_eq_true, decide_true, decide_false, List.map_cons, List.map_nil, List.length_cons, List.length_nil, List.getElem?_cons_zero, List.getElem?_cons_succ, List.getElem?_nil, List.set_cons_zero, List.set_cons_succ, Option.some.injEq, Option.bind_some, Option.bind_none, id, exists_eq_left', exists_eq_left, exists_and_left, exists_eq_right, V.int.injEq, V.bl.injEq, V.ref.injEq, List.cons.injEq, and_true, true_and, and_assoc, exists_const, atI0, atI1, atI2, ixN30, ixN31, ixN32, upd_same, upd_upd, sq_updL, sq_updT, Nat.zero_add, Nat.reduceAdd, reduceCtorEq, false_and, and_false, exists_false, false_or, or_false, List.length_map, HO.lst.injEq, HO.tup.injEq, Bool.false_eq_true, if_false, if_true, decide_eq_true_eq, ite_true, ite_false, reduceIte, Int.reduceLT, Int.reduceLE, Nat.reduceLT, Int.zero_add, Bool.not_true, Bool.not_false, htw1])
    refine ⟨_, _, _, .inr ⟨rfl, R1.wa⟩, _, .inr ⟨rfl, e1⟩, fun c nc => ?_⟩
    have hna1 := s1 _ _ hna
    have p32 := pow32 five
    refine cl_zip (MI c na b ts ns ds H1) ⟨none, none, rfl, SameX.upd, upd_same⟩ (fun i σ H2 ⟨_, _, _, s, _⟩ => ⟨.inr ⟨rfl, s _ _ (ne_of_none R1.wa nc) R1.wa⟩, .inr ⟨rfl, s _ _ (ne_of_none e1 nc) e1⟩⟩) ?_ ?_
    · rintro i u v T' σ H2 H3 hu hv ⟨v1, v2, rfl, s2, e2⟩ nt s3 e3
      rw [List.getElem?_map] at hu hv
      obtain ⟨tt, htt, rfl⟩ := Option.map_eq_some_iff.mp hu
      obtain ⟨hh, hhh, rfl⟩ := Option.map_eq_some_iff.mp hv
      have hi : i < ts.length := (List.getElem?_eq_some_iff.mp htt).1
      obtain ⟨et, tl, tb⟩ := R1.row tt (List.mem_of_getElem? htt)
      have ehh : hh = (hos ds (i : Int) ds.length : Int) := by
        unfold heapsL at hhh
        rw [List.getElem?_map, List.getElem?_range hi] at hhh
        simpa using hhh.symm
      have S3 : ∀ a o, a ≠ c → H1 a = some o → H3 a = some o := fun a o n e => s3 _ _ (s2 _ _ n e)
      have ec := s3 _ _ e2
      (try simp only [V.str.injEq, HO.dK.injEq, a_tAug, a_tDisp, a_prs0, a_prs, a_rGetK, a_rSetK, a_tAugS, a_ipI, a_tPar3, a_tListR, a_iS0, a_tPop0, a_tCalK, g3r_is, g2r_is, g2_is, g1_is, a_rNePP, a_iEnum, a_tSeqL, a_tChain, a_tDict, a_tLstA, a_rEqT, a_tIns, a_tRev, a_rSlA, a_rCatA, a_rCatL, a_tSeq, a_tFor, a_rIxL, a_iZip, a_tSortR, a_tSl, a_rSlL0, a_tNoPart, a_tPart, a_tApp, a_tRet, a_tRetN, a_tNext, a_tDrop, a_tAsg, a_gSub, a_gName, a_gNil, a_gCons, a_gTup0, a_rSetL, a_tIfS, a_tAnd, a_tOr, a_tNot, a_tTest, a_tB, a_tTrue, a_tIf, a_tAndV, a_tOrV, a_tNotV, a_tOp, a_tUn, a_rU, a_tVar, a_tC, a_rI0, a_rI, a_rEq, a_rNe, a_rIx0, a_rIn0, a_tCB, a_tCal, a_tCons, a_tNil, a_tTupA, a_tLst, a_tPar, a_tBits, a_tLC, a_iRng1, a_iRng2, a_iT0, a_iL0, a_tEmit, frS, scal, V.ty.injEq, tyN, subN, String.reduceEq, String.reduceBEq, Bool.true_or, Bool.false_or, Bool.or_false, Bool.true_and, Bool.false_and, Bool.and_false, or_true, true_or, beq_self_eq_true, decide_true, decide_false, List.map_cons, List.map_nil, List.length_cons, List.length_nil, List.getElem?_cons_zero, List.getElem?_cons_succ, List.getElem?_nil, List.set_cons_zero, List.set_cons_succ, Option.some.injEq, Option.bind_some, Option.bind_none, id, exists_eq_left', exists_eq_left, exists_and_left, exists_eq_right, V.int.injEq, V.bl.injEq, V.ref.injEq, List.cons.injEq, and_true, true_and, and_assoc, exists_const, atI0, atI1, atI2, ixN30, ixN31, ixN32, upd_same, upd_upd, sq_updL, sq_updT, Nat.zero_add, Nat.reduceAdd, reduceCtorEq, false_and, and_false, exists_false, false_or, or_false, List.length_map, HO.lst.injEq, HO.tup.injEq, Bool.false_eq_true, if_false, if_true, decide_eq_true_eq, ite_true, ite_false, reduceIte, Int.reduceLT, Int.reduceLE, Nat.reduceLT, Int.zero_add, Bool.not_true, Bool.not_false, e3])
      refine ⟨tt.1, tt.2, b, rfl, S3 _ _ (ne_of_none et nc) et, b0, b1, by omega, fun pa H4 npa s4 e4 => ?_⟩
      obtain ⟨mx, hm1, hm2⟩ := exists_max (gainsL (tt.2.map fun x => b * x) ns) (gains_ne five (by rw [List.length_map]; exact tl))
      refine ⟨pa, na, _, ns, mx, rfl, e4, s4 _ _ (S3 _ _ (ne_of_none hna1 nc) hna1), five, by rw [List.length_map]; exact tl, hm1, hm2, fun bh H5 nbh s5 e5 => ?_⟩
      have hsb := sq_tup e5
      have ec5 := s5 _ _ (s4 _ _ ec)
      (try simp only [V.str.injEq, HO.dK.injEq, a_tAug, a_tDisp, a_prs0, a_prs, a_rGetK, a_rSetK, a_tAugS, a_ipI, a_tPar3, a_tListR, a_iS0, a_tPop0, a_tCalK, g3r_is, g2r_is, g2_is, g1_is, a_rNePP, a_iEnum, a_tSeqL, a_tChain, a_tDict, a_tLstA, a_rEqT, a_tIns, a_tRev, a_rSlA, a_rCatA, a_rCatL, a_tSeq, a_tFor, a_rIxL, a_iZip, a_tSortR, a_tSl, a_rSlL0, a_tNoPart, a_tPart, a_tApp, a_tRet, a_tRetN, a_tNext, a_tDrop, a_tAsg, a_gSub, a_gName, a_gNil, a_gCons, a_gTup0, a_rSetL, a_tIfS, a_tAnd, a_tOr, a_tNot, a_tTest, a_tB, a_tTrue, a_tIf, a_tAndV, a_tOrV, a_tNotV, a_tOp, a_tUn, a_rU, a_tVar, a_tC, a_rI0, a_rI, a_rEq, a_rNe, a_rIx0, a_rIn0, a_tCB, a_tCal, a_tCons, a_tNil, a_tTupA, a_tLst, a_tPar, a_tBits, a_tLC, a_iRng1, a_iRng2, a_iT0, a_iL0, a_tEmit, frS, scal, V.ty.injEq, tyN, subN, String.reduceEq, String.reduceBEq, Bool.true_or, Bool.false_or, Bool.or_false, Bool.true_and, Bool.false_and, Bool.and_false, or_true, true_or, beq_self_eq_true, decide_true, decide_false, List.map_cons, List.map_nil, List.length_cons, List.length_nil, List.getElem?_cons_zero, List.getElem?_cons_succ, List.getElem?_nil, List.set_cons_zero, List.set_cons_succ, Option.some.injEq, Option.bind_some, Option.bind_none, id, exists_eq_left', exists_eq_left, exists_and_left, exists_eq_right, V.int.injEq, V.bl.injEq, V.ref.injEq, List.cons.injEq, and_true, true_and, and_assoc, exists_const, atI0, atI1, atI2, ixN30, ixN31, ixN32, upd_same, upd_upd, sq_updL, sq_updT, Nat.zero_add, Nat.reduceAdd, reduceCtorEq, false_and, and_false, exists_false, false_or, or_false, List.length_map, HO.lst.injEq, HO.tup.injEq, Bool.false_eq_true, if_false, if_true, decide_eq_true_eq, ite_true, ite_false, reduceIte, Int.reduceLT, Int.reduceLE, Nat.reduceLT, Int.zero_add, Bool.not_true, Bool.not_false, hsb, ec5])
      have hlt := hos_lt ds (i : Int) ds.length
      rw [dl, ← dl] at hlt
      refine ⟨rfl, flat_ints _, small1000 (by unfold bestsB; rw [List.length_map, List.length_range]; omega), ⟨_, _, rfl, (s2.trans (s3.trans (s4.trans s5)).x).trans SameX.upd, ?_⟩⟩
      have gt : ts.getD i (0, []) = tt := by rw [List.getD_eq_getElem?_getD, htt]; rfl
      rw [upd_same, bestsB_succ, inV_int, ehh, best_in five tl (by rw [tl, ← dl]; exact hlt) hm1 hm2, gt]
      simp
    · rintro σ H2 ⟨v1, v2, rfl, s2, e2⟩
      rw [List.length_map, List.length_map, heapsL_len, Nat.min_self] at e2
      have S2 := s1.trans (s2.same nc)
      refine ⟨_, sq_lst e2, ?_⟩
      cases eb : (bestsB ts b ns ds ts.length).all id with
      | false =>
        (walk_at "rd")
        have := q H2 S2
        unfold meetB at this
        rw [eb, Bool.false_and] at this
        exact this
      | true =>
        (walk_at "rd")
        (simp only [a_later])
        (walk_at "rd")
        refine ⟨t, a, ds, rfl, S2 _ _ ha, by omega, fun H3 s3 => ?_⟩
        have hl5 := hos_lt ds (-1) ds.length
        have p32' := pow32 (show ds.length ≤ 5 by omega)
        refine ⟨_, rfl, by omega, by omega, fun th H4 nth s4 e4 => ?_⟩
        (try simp only [V.str.injEq, HO.dK.injEq, a_tAug, a_tDisp, a_prs0, a_prs, a_rGetK, a_rSetK, a_tAugS, a_ipI, a_tPar3, a_tListR, a_iS0, a_tPop0, a_tCalK, g3r_is, g2r_is, g2_is, g1_is, a_rNePP, a_iEnum, a_tSeqL, a_tChain, a_tDict, a_tLstA, a_rEqT, a_tIns, a_tRev, a_rSlA, a_rCatA, a_rCatL, a_tSeq, a_tFor, a_rIxL, a_iZip, a_tSortR, a_tSl, a_rSlL0, a_tNoPart, a_tPart, a_tApp, a_tRet, a_tRetN, a_tNext, a_tDrop, a_tAsg, a_gSub, a_gName, a_gNil, a_gCons, a_gTup0, a_rSetL, a_tIfS, a_tAnd, a_tOr, a_tNot, a_tTest, a_tB, a_tTrue, a_tIf, a_tAndV, a_tOrV, a_tNotV, a_tOp, a_tUn, a_rU, a_tVar, a_tC, a_rI0, a_rI, a_rEq, a_rNe, a_rIx0, a_rIn0, a_tCB, a_tCal, a_tCons, a_tNil, a_tTupA, a_tLst, a_tPar, a_tBits, a_tLC, a_iRng1, a_iRng2, a_iT0, a_iL0, a_tEmit, frS, scal, V.ty.injEq, tyN, subN, String.reduceEq, String.reduceBEq, Bool.true_or, Bool.false_or, Bool.or_false, Bool.true_and, Bool.false_and, Bool.and_false, or_true, true_or, beq_self_eq_true, decide_true, decide_false, List.map_cons, List.map_nil, List.length_cons, List.length_nil, List.getElem?_cons_zero, List.getElem?_cons_succ, List.getElem?_nil, List.set_cons_zero, List.set_cons_succ, Option.some.injEq, Option.bind_some, Option.bind_none, id, exists_eq_left', exists_eq_left, exists_and_left, exists_eq_right, V.int.injEq, V.bl.injEq, V.ref.injEq, List.cons.injEq, and_true, true_and, and_assoc, exists_const, atI0, atI1, atI2, ixN30, ixN31, ixN32, upd_same, upd_upd, sq_updL, sq_updT, Nat.zero_add, Nat.reduceAdd, reduceCtorEq, false_and, and_false, exists_false, false_or, or_false, List.length_map, HO.lst.injEq, HO.tup.injEq, Bool.false_eq_true, if_false, if_true, decide_eq_true_eq, ite_true, ite_false, reduceIte, Int.reduceLT, Int.reduceLE, Nat.reduceLT, Int.zero_add, Bool.not_true, Bool.not_false, e4])
        intro d nd
        have S4 := (S2.trans s3).trans s4
        have hna4 := S4 _ _ hna
        refine cl_seq (LI d na ns (thingsI (hos ds (-1) ds.length : Int)) H4) ⟨none, rfl, SameX.upd, upd_same⟩ (fun j σ H' _ ⟨_, _, s, _⟩ => s _ _ (ne_of_none e4 nd) e4) ?_ ?_
        · rintro j x σ H5 hx ⟨v, rfl, s5, e5⟩
          rw [List.getElem?_map] at hx
          obtain ⟨n, hn', rfl⟩ := Option.map_eq_some_iff.mp hx
          obtain ⟨tn, rfl, tn1⟩ := left_mem (by omega) dl (List.mem_of_getElem? hn')
          have hsn := sq_tup (s5 _ _ (ne_of_none hna4 nd) hna4)
          have hat := at_int (ns := ns) tn1
          have hj : j < (thingsI (hos ds (-1) ds.length : Int)).length := (List.getElem?_eq_some_iff.mp hn').1
          have tl5 := things_len (hos ds (-1) ds.length : Int)
          (try simp only [V.str.injEq, HO.dK.injEq, a_tAug, a_tDisp, a_prs0, a_prs, a_rGetK, a_rSetK, a_tAugS, a_ipI, a_tPar3, a_tListR, a_iS0, a_tPop0, a_tCalK, g3r_is, g2r_is, g2_is, g1_is, a_rNePP, a_iEnum, a_tSeqL, a_tChain, a_tDict, a_tLstA, a_rEqT, a_tIns, a_tRev, a_rSlA, a_rCatA, a_rCatL, a_tSeq, a_tFor, a_rIxL, a_iZip, a_tSortR, a_tSl, a_rSlL0, a_tNoPart, a_tPart, a_tApp, a_tRet, a_tRetN, a_tNext, a_tDrop, a_tAsg, a_gSub, a_gName, a_gNil, a_gCons, a_gTup0, a_rSetL, a_tIfS, a_tAnd, a_tOr, a_tNot, a_tTest, a_tB, a_tTrue, a_tIf, a_tAndV, a_tOrV, a_tNotV, a_tOp, a_tUn, a_rU, a_tVar, a_tC, a_rI0, a_rI, a_rEq, a_rNe, a_rIx0, a_rIn0, a_tCB, a_tCal, a_tCons, a_tNil, a_tTupA, a_tLst, a_tPar, a_tBits, a_tLC, a_iRng1, a_iRng2, a_iT0, a_iL0, a_tEmit, frS, scal, V.ty.injEq, tyN, subN, String.reduceEq, String.reduceBEq, Bool.true_or, Bool.false_or, Bool.or_false, Bool.true_and, Bool.false_and, Bool.and_false, or_true, true_or, beq_self_eq_true, decide_true, decide_false, List.map_cons, List.map_nil, List.length_cons, List.length_nil, List.getElem?_cons_zero, List.getElem?_cons_succ, List.getElem?_nil, List.set_cons_zero, List.set_cons_succ, Option.some.injEq, Option.bind_some, Option.bind_none, id, exists_eq_left', exists_eq_left, exists_and_left, exists_eq_right, V.int.injEq, V.bl.injEq, V.ref.injEq, List.cons.injEq, and_true, true_and, and_assoc, exists_const, atI0, atI1, atI2, ixN30, ixN31, ixN32, upd_same, upd_upd, sq_updL, sq_updT, Nat.zero_add, Nat.reduceAdd, reduceCtorEq, false_and, and_false, exists_false, false_or, or_false, List.length_map, HO.lst.injEq, HO.tup.injEq, Bool.false_eq_true, if_false, if_true, decide_eq_true_eq, ite_true, ite_false, reduceIte, Int.reduceLT, Int.reduceLE, Nat.reduceLT, Int.zero_add, Bool.not_true, Bool.not_false, hsn, hat, e5])
          refine ⟨small1000 (by rw [List.length_take]; omega), ⟨_, rfl, s5.trans SameX.upd, ?_⟩⟩
          rw [upd_same, List.take_add_one, hn']
          simp
        · rintro σ H5 ⟨v, rfl, s5, e5⟩
          rw [List.length_map, List.take_length] at e5
          refine ⟨_, sq_lst e5, ?_⟩
          rw [left_all five dl]
          have := q H5 (S4.trans (s5.same nd))
          unfold meetB at this
          rw [eb, Bool.true_and] at this
          exact this
end
end K44
end
section
set_option Elab.async false
set_option linter.all false
set_option maxRecDepth 100000
set_option maxHeartbeats 8000000
namespace K44
open PySem L2
local macro_rules | `(tactic| walk_at "rd") => `(tactic| (try simp only [V.str.injEq, HO.dK.injEq, a_tAug, a_tDisp, a_prs0, a_prs, a_rGetK, a_rSetK, a_tAugS, a_ipI, a_tPar3, a_tListR, a_iS0, a_tPop0, a_tCalK, g3r_is, g2r_is, g2_is, g1_is, a_rNePP, a_iEnum, a_tSeqL, a_tChain, a_tDict, a_tLstA, a_rEqT, a_tIns, a_tRev, a_rSlA, a_rCatA, a_rCatL, a_tSeq, a_tFor, a_rIxL, a_iZip, a_tSortR, a_tSl, a_rSlL0, a_tNoPart, a_tPart, a_tApp, a_tRet, a_tRetN, a_tNext, a_tDrop, a_tAsg, a_gSub, a_gName, a_gNil, a_gCons, a_gTup0, a_rSetL, a_tIfS, a_tAnd, a_tOr, a_tNot, a_tTest, a_tB, a_tTrue, a_tIf, a_tAndV, a_tOrV, a_tNotV, a_tOp, a_tUn, a_rU, a_tVar, a_tC, a_rI0, a_rI, a_rEq, a_rNe, a_rIx0, a_rIn0, a_tCB, a_tCal, a_tCons, a_tNil, a_tTupA, a_tLst, a_tPar, a_tBits, a_tLC, a_iRng1, a_iRng2, a_iT0, a_iL0, a_tEmit, frS, scal, V.ty.injEq, tyN, subN, String.reduceEq, String.reduceBEq, Bool.true_or, Bool.false_or, Bool.or_false, Bool.true_and, Bool.false_and, Bool.and_false, or_true, true_or, beq_self_eq_true, decide_true, decide_false, List.map_cons, List.map_nil, List.length_cons, List.length_nil, List.getElem?_cons_zero, List.getElem?_cons_succ, List.getElem?_nil, List.set_cons_zero, List.set_cons_succ, Option.some.injEq, Option.bind_some, Option.bind_none, id, exists_eq_left', exists_eq_left, exists_and_left, exists_eq_right, V.int.injEq, V.bl.injEq, V.ref.injEq, List.cons.injEq, and_true, true_and, and_assoc, exists_const, atI0, atI1, atI2, ixN30, ixN31, ixN32, upd_same, upd_upd, sq_updL, sq_updT, Nat.zero_add, Nat.reduceAdd, reduceCtorEq, false_and, and_false, exists_false, false_or, or_false, List.length_map, HO.lst.injEq, HO.tup.injEq, Bool.false_eq_true, if_false, if_true, decide_eq_true_eq, ite_true, ite_false, reduceIte, Int.reduceLT, Int.reduceLE, Nat.reduceLT, Int.zero_add, Bool.not_true, Bool.not_false]))
section
variable {P : Program} {w : World} {K : PySem.W.Frag} {mg : Str → Option Value} {base : Heap} {f : Addr} {fd : FuncData}
def NumB (H : Hp) (v : V) (m : Nat) : Prop := (∃ t, tyN H v = some t ∧ (t == "tuple") = false) ∨ ∃ (c : Addr) (xs : List V), v = .ref c ∧ H c = some (.tup xs) ∧ Kn H xs ∧ xs.length < 1000 ∧ (decide ((xs.length : Int) = (m : Int)) && xs.all (isFrom 0)) = false
inductive Sh (H : Hp) (m : Nat) (ts : List (Addr × List Int)) : V → Bool → Prop
  | kind {x : V} {t : String} (h : tyN H x = some t) (n : (t == "tuple") = false) : Sh H m ts x false
  | many {a : Addr} {xs : List V} (h : H a = some (.tup xs)) (n : xs.length ≠ 3) : Sh H m ts (.ref a) false
  | parts {a : Addr} {u v z : V} {t : String} (h : H a = some (.tup [u, v, z])) (k : tyN H u = some t) (n : isFrom 1 u = false) : Sh H m ts (.ref a) false
  | nums {a : Addr} {b : Int} {v z : V} (h : H a = some (.tup [.int b, v, z])) (b1 : 1 ≤ b) (n : NumB H v m) : Sh H m ts (.ref a) false
  | deal {a na : Addr} {b : Int} {ns : List Int} {z : V} (h : H a = some (.tup [.int b, .ref na, z])) (b1 : 1 ≤ b) (hn : H na = some (.tup (ns.map V.int))) (nl : ns.length = m) (n0 : ∀ x ∈ ns, 0 ≤ x) (n : ThB H z m ts.length false) : Sh H m ts (.ref a) false
  | good {a na da : Addr} {b : Int} {ns ds : List Int} (h : H a = some (.tup [.int b, .ref na, .ref da])) (b1 : 1 ≤ b) (b2 : b ≤ 1000) (hn : H na = some (.tup (ns.map V.int))) (nl : ns.length = m) (n0 : ∀ x ∈ ns, 0 ≤ x) (hd : H da = some (.tup (ds.map V.int))) (D : Deal ds m ts.length) : Sh H m ts (.ref a) (meetB ts b ns ds)
def sp_shows : Sp := fun vs H Q _ => ∃ (t sd wt : Addr) (m : Nat) (ss : List Int) (ts : List (Addr × List Int)) (x : V) (r : Bool), vs = [.ref t, x] ∧ Rows H t sd wt ts m ∧ H sd = some (.tup (ss.map V.int)) ∧ ss.length = m ∧ 1 ≤ m ∧ Sh H m ts x r ∧ ∀ H', Same H H' → Q (.bl r) H'
theorem deal_of {ds : List Int} {m n : Nat} (D : Deal ds m n) : dealB m n (ds.map V.int) = true := by
  unfold dealB
  rw [List.length_map, D.1, decide_eq_true rfl, Bool.true_and, List.all_eq_true]
  intro x hx
  obtain ⟨i, hi, rfl⟩ := List.mem_map.mp hx
  have := D.2 i hi
  unfold okH
  rw [Bool.and_eq_true]
  exact ⟨decide_eq_true this.1, decide_eq_true this.2⟩
theorem sc_shows_meeting : FnScope ["town", "thing", "by", "numbers", "dealing"] ["town", "thing"] (defScope s_shows_meeting) := ⟨rfl, rfl, rfl, by decide +kernel, rfl, by decide +kernel, by decide +kernel⟩
theorem ok_shows (F : Fun K "shows_meeting" "shows_meeting" s_shows_meeting f fd) (hm : mg "shows_meeting" = some (.ref f)) (hb : Binds K fd ["town", "thing"] []) (T : Txt mg) (c_is_whole_from : Cal P w K mg base "is_whole_from" ["thing", "least"] 2 sp_isfrom) (c_are_wholes_from : Cal P w K mg base "are_wholes_from" ["thing", "many", "least"] 3 sp_from) (c_is_dealing : Cal P w K mg base "is_dealing" ["town", "thing"] 4 sp_isd) (c_meets : Cal P w K mg base "meets" ["town", "by", "numbers", "dealing"] 4 sp_meets) : Cal P w K mg base "shows_meeting" ["town", "thing"] 5 sp_shows := by
  refine cal_of F hm hb sc_shows_meeting (fun vs H Q E h => ?_) (fun cdv A outer s H vs Q E hr h => ?_)
  · obtain ⟨_, _, _, _, _, _, _, _, rfl, _⟩ := h; rfl
  · obtain ⟨t, sd, wt, m, ss, ts, x, r, rfl, R, hsd, sl, m1, sh, q⟩ := h
    have sc := sc_shows_meeting
    refine ⟨_, pss_consL (ps_if (PW.pt (pw_or (pt_not (pt_val (pe_callB isi0 rfl T.isinstance_ bt_isinstance (pa_cns (pv 1) (pa_cns (pe_bltn (v := .ty "tuple") rfl T.tuple_ bt_tuple rfl) pa_nil))))) (pw_or1 (pt_cmpR op_ne (pe_callB len0 rfl T.len_ bt_len (pa_cns (pv 1) pa_nil)) pe_int (nomark _))))) (pss_one (ps_ret pe_bl)) pss_nil)
      (pss_consL (ps_asg (pv 1) (pg_tup0 (n := 3) rfl (pgs_cons (pg_name (i := 2) sc.nd rfl (Or.inl rfl)) (pgs_cons (pg_name (i := 3) sc.nd rfl (Or.inl rfl)) (pgs_cons (pg_name (i := 4) sc.nd rfl (Or.inl rfl)) pgs_nil)))))
      (pss_consL (ps_if (PW.pt (pw_or (pt_not (pt_val (pe_cal c_is_whole_from hr (pa_cns (pv 2) (pa_cns pe_int pa_nil))))) (pw_or1 (pt_not (pt_val (pe_cal c_are_wholes_from hr (pa_cns (pv 3) (pa_cns (pe_callB len0 rfl T.len_ bt_len (pa_cns (pe_ix ix0 (pv 0) pe_int (fun _ _ => rfl)) pa_nil)) (pa_cns pe_int pa_nil))))))))) (pss_one (ps_ret pe_bl)) pss_nil)
      (pss_one (ps_ret (pe_and (pe_cal c_is_dealing hr (pa_cns (pv 0) (pa_cns (pv 4) pa_nil))) (pe_one (pe_cal c_meets hr (pa_cns (pv 0) (pa_cns (pv 2) (pa_cns (pv 3) (pa_cns (pv 4) pa_nil))))))))))), ?_⟩
    rw [show L2.start ["town", "thing", "by", "numbers", "dealing"] [.ref t, x] = [some (.ref t), some (x), none, none, none] from rfl]
    have five := R.five
    have htw := sq_tup R.tw
    have hss := sq_tup hsd
    have nums : ∀ {ns : List Int}, ns.length = m → (∀ x ∈ ns, 0 ≤ x) → (decide (((ns.map V.int).length : Int) = (ss.length : Int)) && (ns.map V.int).all (isFrom 0)) = true := fun {ns} nl n0 => by
      rw [List.length_map, nl, sl, decide_eq_true rfl, Bool.true_and, List.all_map, List.all_eq_true]
      intro x hx
      exact decide_eq_true (n0 x hx)
    cases sh with
    | kind h n =>
      (walk_at "rd")
      refine ⟨_, h, ?_⟩
      rw [if_pos (by rw [n]; rfl)]
      exact q H (Same.refl H)
    | many h n =>
      have hs := sq_tup h
      (try simp only [V.str.injEq, HO.dK.injEq, a_tAug, a_tDisp, a_prs0, a_prs, a_rGetK, a_rSetK, a_tAugS, a_ipI, a_tPar3, a_tListR, a_iS0, a_tPop0, a_tCalK, g3r_is, g2r_is, g2_is, g1_is, a_rNePP, a_iEnum, a_tSeqL, a_tChain, a_tDict, a_tLstA, a_rEqT, a_tIns, a_tRev, a_rSlA, a_rCatA, a_rCatL, a_tSeq, a_tFor, a_rIxL, a_iZip, a_tSortR, a_tSl, a_rSlL0, a_tNoPart, a_tPart, a_tApp, a_tRet, a_tRetN, a_tNext, a_tDrop, a_tAsg, a_gSub, a_gName, a_gNil, a_gCons, a_gTup0, a_rSetL, a_tIfS, a_tAnd, a_tOr, a_tNot, a_tTest, a_tB, a_tTrue, a_tIf, a_tAndV, a_tOrV, a_tNotV, a_tOp, a_tUn, a_rU, a_tVar, a_tC, a_rI0, a_rI, a_rEq, a_rNe, a_rIx0, a_rIn0, a_tCB, a_tCal, a_tCons, a_tNil, a_tTupA, a_tLst, a_tPar, a_tBits, a_tLC, a_iRng1, a_iRng2, a_iT0, a_iL0, a_tEmit, frS, scal, V.ty.injEq, tyN, subN, String.reduceEq, String.reduceBEq, Bool.true_or, Bool.false_or, Bool.or_false, Bool.true_and, Bool.false_and, Bool.and_false, or_true, true_or, beq_self_eq_true, decide_true, decide_false, List.map_cons, List.map_nil, List.length_cons, List.length_nil, List.getElem?_cons_zero, List.getElem?_cons_succ, List.getElem?_nil, List.set_cons_zero, List.set_cons_succ, Option.some.injEq, Option.bind_some, Option.bind_none, id, exists_eq_left', exists_eq_left, exists_and_left, exists_eq_right, V.int.injEq, V.bl.injEq, V.ref.injEq, List.cons.injEq, and_true, true_and, and_assoc, exists_const, atI0, atI1, atI2, ixN30, ixN31, ixN32, upd_same, upd_upd, sq_updL, sq_updT, Nat.zero_add, Nat.reduceAdd, reduceCtorEq, false_and, and_false, exists_false, false_or, or_false, List.length_map, HO.lst.injEq, HO.tup.injEq, Bool.false_eq_true, if_false, if_true, decide_eq_true_eq, ite_true, ite_false, reduceIte, Int.reduceLT, Int.reduceLE, Nat.reduceLT, Int.zero_add, Bool.not_true, Bool.not_false, h, hs])
      rw [if_pos (by simp; omega)]
      exact q H (Same.refl H)
    | @parts a u v z ty h k n =>
      have hs := sq_tup h
      (try simp only [V.str.injEq, HO.dK.injEq, a_tAug, a_tDisp, a_prs0, a_prs, a_rGetK, a_rSetK, a_tAugS, a_ipI, a_tPar3, a_tListR, a_iS0, a_tPop0, a_tCalK, g3r_is, g2r_is, g2_is, g1_is, a_rNePP, a_iEnum, a_tSeqL, a_tChain, a_tDict, a_tLstA, a_rEqT, a_tIns, a_tRev, a_rSlA, a_rCatA, a_rCatL, a_tSeq, a_tFor, a_rIxL, a_iZip, a_tSortR, a_tSl, a_rSlL0, a_tNoPart, a_tPart, a_tApp, a_tRet, a_tRetN, a_tNext, a_tDrop, a_tAsg, a_gSub, a_gName, a_gNil, a_gCons, a_gTup0, a_rSetL, a_tIfS, a_tAnd, a_tOr, a_tNot, a_tTest, a_tB, a_tTrue, a_tIf, a_tAndV, a_tOrV, a_tNotV, a_tOp, a_tUn, a_rU, a_tVar, a_tC, a_rI0, a_rI, a_rEq, a_rNe, a_rIx0, a_rIn0, a_tCB, a_tCal, a_tCons, a_tNil, a_tTupA, a_tLst, a_tPar, a_tBits, a_tLC, a_iRng1, a_iRng2, a_iT0, a_iL0, a_tEmit, frS, scal, V.ty.injEq, tyN, subN, String.reduceEq, String.reduceBEq, Bool.true_or, Bool.false_or, Bool.or_false, Bool.true_and, Bool.false_and, Bool.and_false, or_true, true_or, beq_self_eq_true, decide_true, decide_false, List.map_cons, List.map_nil, List.length_cons, List.length_nil, List.getElem?_cons_zero, List.getElem?_cons_succ, List.getElem?_nil, List.set_cons_zero, List.set_cons_succ, Option.some.injEq, Option.bind_some, Option.bind_none, id, exists_eq_left', exists_eq_left, exists_and_left, exists_eq_right, V.int.injEq, V.bl.injEq, V.ref.injEq, List.cons.injEq, and_true, true_and, and_assoc, exists_const, atI0, atI1, atI2, ixN30, ixN31, ixN32, upd_same, upd_upd, sq_updL, sq_updT, Nat.zero_add, Nat.reduceAdd, reduceCtorEq, false_and, and_false, exists_false, false_or, or_false, List.length_map, HO.lst.injEq, HO.tup.injEq, Bool.false_eq_true, if_false, if_true, decide_eq_true_eq, ite_true, ite_false, reduceIte, Int.reduceLT, Int.reduceLE, Nat.reduceLT, Int.zero_add, Bool.not_true, Bool.not_false, h, hs])
      (simp only [a_later])
      (try simp only [V.str.injEq, HO.dK.injEq, a_tAug, a_tDisp, a_prs0, a_prs, a_rGetK, a_rSetK, a_tAugS, a_ipI, a_tPar3, a_tListR, a_iS0, a_tPop0, a_tCalK, g3r_is, g2r_is, g2_is, g1_is, a_rNePP, a_iEnum, a_tSeqL, a_tChain, a_tDict, a_tLstA, a_rEqT, a_tIns, a_tRev, a_rSlA, a_rCatA, a_rCatL, a_tSeq, a_tFor, a_rIxL, a_iZip, a_tSortR, a_tSl, a_rSlL0, a_tNoPart, a_tPart, a_tApp, a_tRet, a_tRetN, a_tNext, a_tDrop, a_tAsg, a_gSub, a_gName, a_gNil, a_gCons, a_gTup0, a_rSetL, a_tIfS, a_tAnd, a_tOr, a_tNot, a_tTest, a_tB, a_tTrue, a_tIf, a_tAndV, a_tOrV, a_tNotV, a_tOp, a_tUn, a_rU, a_tVar, a_tC, a_rI0, a_rI, a_rEq, a_rNe, a_rIx0, a_rIn0, a_tCB, a_tCal, a_tCons, a_tNil, a_tTupA, a_tLst, a_tPar, a_tBits, a_tLC, a_iRng1, a_iRng2, a_iT0, a_iL0, a_tEmit, frS, scal, V.ty.injEq, tyN, subN, String.reduceEq, String.reduceBEq, Bool.true_or, Bool.false_or, Bool.or_false, Bool.true_and, Bool.false_and, Bool.and_false, or_true, true_or, beq_self_eq_true, decide_true, decide_false, List.map_cons, List.map_nil, List.length_cons, List.length_nil, List.getElem?_cons_zero, List.getElem?_cons_succ, List.getElem?_nil, List.set_cons_zero, List.set_cons_succ, Option.some.injEq, Option.bind_some, Option.bind_none, id, exists_eq_left', exists_eq_left, exists_and_left, exists_eq_right, V.int.injEq, V.bl.injEq, V.ref.injEq, List.cons.injEq, and_true, true_and, and_assoc, exists_const, atI0, atI1, atI2, ixN30, ixN31, ixN32, upd_same, upd_upd, sq_updL, sq_updT, Nat.zero_add, Nat.reduceAdd, reduceCtorEq, false_and, and_false, exists_false, false_or, or_false, List.length_map, HO.lst.injEq, HO.tup.injEq, Bool.false_eq_true, if_false, if_true, decide_eq_true_eq, ite_true, ite_false, reduceIte, Int.reduceLT, Int.reduceLE, Nat.reduceLT, Int.zero_add, Bool.not_true, Bool.not_false, h])
      (simp only [a_later])
      (walk_at "rd")
      refine ⟨u, 1, ty, rfl, k, ?_⟩
      rw [n]
      (walk_at "rd")
      exact q H (Same.refl H)
    | @nums a b v z h b1 n =>
      have hs := sq_tup h
      (try simp only [V.str.injEq, HO.dK.injEq, a_tAug, a_tDisp, a_prs0, a_prs, a_rGetK, a_rSetK, a_tAugS, a_ipI, a_tPar3, a_tListR, a_iS0, a_tPop0, a_tCalK, g3r_is, g2r_is, g2_is, g1_is, a_rNePP, a_iEnum, a_tSeqL, a_tChain, a_tDict, a_tLstA, a_rEqT, a_tIns, a_tRev, a_rSlA, a_rCatA, a_rCatL, a_tSeq, a_tFor, a_rIxL, a_iZip, a_tSortR, a_tSl, a_rSlL0, a_tNoPart, a_tPart, a_tApp, a_tRet, a_tRetN, a_tNext, a_tDrop, a_tAsg, a_gSub, a_gName, a_gNil, a_gCons, a_gTup0, a_rSetL, a_tIfS, a_tAnd, a_tOr, a_tNot, a_tTest, a_tB, a_tTrue, a_tIf, a_tAndV, a_tOrV, a_tNotV, a_tOp, a_tUn, a_rU, a_tVar, a_tC, a_rI0, a_rI, a_rEq, a_rNe, a_rIx0, a_rIn0, a_tCB, a_tCal, a_tCons, a_tNil, a_tTupA, a_tLst, a_tPar, a_tBits, a_tLC, a_iRng1, a_iRng2, a_iT0, a_iL0, a_tEmit, frS, scal, V.ty.injEq, tyN, subN, String.reduceEq, String.reduceBEq, Bool.true_or, Bool.false_or, Bool.or_false, Bool.true_and, Bool.false_and, Bool.and_false, or_true, true_or, beq_self_eq_true, decide_true, decide_false, List.map_cons, List.map_nil, List.length_cons, List.length_nil, List.getElem?_cons_zero, List.getElem?_cons_succ, List.getElem?_nil, List.set_cons_zero, List.set_cons_succ, Option.some.injEq, Option.bind_some, Option.bind_none, id, exists_eq_left', exists_eq_left, exists_and_left, exists_eq_right, V.int.injEq, V.bl.injEq, V.ref.injEq, List.cons.injEq, and_true, true_and, and_assoc, exists_const, atI0, atI1, atI2, ixN30, ixN31, ixN32, upd_same, upd_upd, sq_updL, sq_updT, Nat.zero_add, Nat.reduceAdd, reduceCtorEq, false_and, and_false, exists_false, false_or, or_false, List.length_map, HO.lst.injEq, HO.tup.injEq, Bool.false_eq_true, if_false, if_true, decide_eq_true_eq, ite_true, ite_false, reduceIte, Int.reduceLT, Int.reduceLE, Nat.reduceLT, Int.zero_add, Bool.not_true, Bool.not_false, h, hs])
      (simp only [a_later])
      (try simp only [V.str.injEq, HO.dK.injEq, a_tAug, a_tDisp, a_prs0, a_prs, a_rGetK, a_rSetK, a_tAugS, a_ipI, a_tPar3, a_tListR, a_iS0, a_tPop0, a_tCalK, g3r_is, g2r_is, g2_is, g1_is, a_rNePP, a_iEnum, a_tSeqL, a_tChain, a_tDict, a_tLstA, a_rEqT, a_tIns, a_tRev, a_rSlA, a_rCatA, a_rCatL, a_tSeq, a_tFor, a_rIxL, a_iZip, a_tSortR, a_tSl, a_rSlL0, a_tNoPart, a_tPart, a_tApp, a_tRet, a_tRetN, a_tNext, a_tDrop, a_tAsg, a_gSub, a_gName, a_gNil, a_gCons, a_gTup0, a_rSetL, a_tIfS, a_tAnd, a_tOr, a_tNot, a_tTest, a_tB, a_tTrue, a_tIf, a_tAndV, a_tOrV, a_tNotV, a_tOp, a_tUn, a_rU, a_tVar, a_tC, a_rI0, a_rI, a_rEq, a_rNe, a_rIx0, a_rIn0, a_tCB, a_tCal, a_tCons, a_tNil, a_tTupA, a_tLst, a_tPar, a_tBits, a_tLC, a_iRng1, a_iRng2, a_iT0, a_iL0, a_tEmit, frS, scal, V.ty.injEq, tyN, subN, String.reduceEq, String.reduceBEq, Bool.true_or, Bool.false_or, Bool.or_false, Bool.true_and, Bool.false_and, Bool.and_false, or_true, true_or, beq_self_eq_true, decide_true, decide_false, List.map_cons, List.map_nil, List.length_cons, List.length_nil, List.getElem?_cons_zero, List.getElem?_cons_succ, List.getElem?_nil, List.set_cons_zero, List.set_cons_succ, Option.some.injEq, Option.bind_some, Option.bind_none, id, exists_eq_left', exists_eq_left, exists_and_left, exists_eq_right, V.int.injEq, V.bl.injEq, V.ref.injEq, List.cons.injEq, and_true, true_and, and_assoc, exists_const, atI0, atI1, atI2, ixN30, ixN31, ixN32, upd_same, upd_upd, sq_updL, sq_updT, Nat.zero_add, Nat.reduceAdd, reduceCtorEq, false_and, and_false, exists_false, false_or, or_false, List.length_map, HO.lst.injEq, HO.tup.injEq, Bool.false_eq_true, if_false, if_true, decide_eq_true_eq, ite_true, ite_false, reduceIte, Int.reduceLT, Int.reduceLE, Nat.reduceLT, Int.zero_add, Bool.not_true, Bool.not_false, h])
      (simp only [a_later])
      (try simp only [V.str.injEq, HO.dK.injEq, a_tAug, a_tDisp, a_prs0, a_prs, a_rGetK, a_rSetK, a_tAugS, a_ipI, a_tPar3, a_tListR, a_iS0, a_tPop0, a_tCalK, g3r_is, g2r_is, g2_is, g1_is, a_rNePP, a_iEnum, a_tSeqL, a_tChain, a_tDict, a_tLstA, a_rEqT, a_tIns, a_tRev, a_rSlA, a_rCatA, a_rCatL, a_tSeq, a_tFor, a_rIxL, a_iZip, a_tSortR, a_tSl, a_rSlL0, a_tNoPart, a_tPart, a_tApp, a_tRet, a_tRetN, a_tNext, a_tDrop, a_tAsg, a_gSub, a_gName, a_gNil, a_gCons, a_gTup0, a_rSetL, a_tIfS, a_tAnd, a_tOr, a_tNot, a_tTest, a_tB, a_tTrue, a_tIf, a_tAndV, a_tOrV, a_tNotV, a_tOp, a_tUn, a_rU, a_tVar, a_tC, a_rI0, a_rI, a_rEq, a_rNe, a_rIx0, a_rIn0, a_tCB, a_tCal, a_tCons, a_tNil, a_tTupA, a_tLst, a_tPar, a_tBits, a_tLC, a_iRng1, a_iRng2, a_iT0, a_iL0, a_tEmit, frS, scal, V.ty.injEq, tyN, subN, String.reduceEq, String.reduceBEq, Bool.true_or, Bool.false_or, Bool.or_false, Bool.true_and, Bool.false_and, Bool.and_false, or_true, true_or, beq_self_eq_true, decide_true, decide_false, List.map_cons, List.map_nil, List.length_cons, List.length_nil, List.getElem?_cons_zero, List.getElem?_cons_succ, List.getElem?_nil, List.set_cons_zero, List.set_cons_succ, Option.some.injEq, Option.bind_some, Option.bind_none, id, exists_eq_left', exists_eq_left, exists_and_left, exists_eq_right, V.int.injEq, V.bl.injEq, V.ref.injEq, List.cons.injEq, and_true, true_and, and_assoc, exists_const, atI0, atI1, atI2, ixN30, ixN31, ixN32, upd_same, upd_upd, sq_updL, sq_updT, Nat.zero_add, Nat.reduceAdd, reduceCtorEq, false_and, and_false, exists_false, false_or, or_false, List.length_map, HO.lst.injEq, HO.tup.injEq, Bool.false_eq_true, if_false, if_true, decide_eq_true_eq, ite_true, ite_false, reduceIte, Int.reduceLT, Int.reduceLE, Nat.reduceLT, Int.zero_add, Bool.not_true, Bool.not_false, htw, hss])
      refine ⟨.int b, 1, "int", rfl, rfl, ?_⟩
      rw [show isFrom 1 (.int b) = true from decide_eq_true b1]
      (try simp only [V.str.injEq, HO.dK.injEq, a_tAug, a_tDisp, a_prs0, a_prs, a_rGetK, a_rSetK, a_tAugS, a_ipI, a_tPar3, a_tListR, a_iS0, a_tPop0, a_tCalK, g3r_is, g2r_is, g2_is, g1_is, a_rNePP, a_iEnum, a_tSeqL, a_tChain, a_tDict, a_tLstA, a_rEqT, a_tIns, a_tRev, a_rSlA, a_rCatA, a_rCatL, a_tSeq, a_tFor, a_rIxL, a_iZip, a_tSortR, a_tSl, a_rSlL0, a_tNoPart, a_tPart, a_tApp, a_tRet, a_tRetN, a_tNext, a_tDrop, a_tAsg, a_gSub, a_gName, a_gNil, a_gCons, a_gTup0, a_rSetL, a_tIfS, a_tAnd, a_tOr, a_tNot, a_tTest, a_tB, a_tTrue, a_tIf, a_tAndV, a_tOrV, a_tNotV, a_tOp, a_tUn, a_rU, a_tVar, a_tC, a_rI0, a_rI, a_rEq, a_rNe, a_rIx0, a_rIn0, a_tCB, a_tCal, a_tCons, a_tNil, a_tTupA, a_tLst, a_tPar, a_tBits, a_tLC, a_iRng1, a_iRng2, a_iT0, a_iL0, a_tEmit, frS, scal, V.ty.injEq, tyN, subN, String.reduceEq, String.reduceBEq, Bool.true_or, Bool.false_or, Bool.or_false, Bool.true_and, Bool.false_and, Bool.and_false, or_true, true_or, beq_self_eq_true, decide_true, decide_false, List.map_cons, List.map_nil, List.length_cons, List.length_nil, List.getElem?_cons_zero, List.getElem?_cons_succ, List.getElem?_nil, List.set_cons_zero, List.set_cons_succ, Option.some.injEq, Option.bind_some, Option.bind_none, id, exists_eq_left', exists_eq_left, exists_and_left, exists_eq_right, V.int.injEq, V.bl.injEq, V.ref.injEq, List.cons.injEq, and_true, true_and, and_assoc, exists_const, atI0, atI1, atI2, ixN30, ixN31, ixN32, upd_same, upd_upd, sq_updL, sq_updT, Nat.zero_add, Nat.reduceAdd, reduceCtorEq, false_and, and_false, exists_false, false_or, or_false, List.length_map, HO.lst.injEq, HO.tup.injEq, Bool.false_eq_true, if_false, if_true, decide_eq_true_eq, ite_true, ite_false, reduceIte, Int.reduceLT, Int.reduceLE, Nat.reduceLT, Int.zero_add, Bool.not_true, Bool.not_false, htw, hss])
      rcases n with ⟨ty, k1, k2⟩ | ⟨c, xs, rfl, hc, kn, xl, n⟩
      · refine .inl ⟨v, _, 0, ty, rfl, k1, k2, ?_⟩
        (walk_at "rd")
        exact q H (Same.refl H)
      · refine .inr ⟨c, _, 0, xs, rfl, hc, kn, xl, fun H1 s1 => ?_⟩
        rw [sl, n]
        (walk_at "rd")
        exact q H1 s1
    | @deal a na b ns z h b1 hn nl n0 n =>
      have hs := sq_tup h
      (try simp only [V.str.injEq, HO.dK.injEq, a_tAug, a_tDisp, a_prs0, a_prs, a_rGetK, a_rSetK, a_tAugS, a_ipI, a_tPar3, a_tListR, a_iS0, a_tPop0, a_tCalK, g3r_is, g2r_is, g2_is, g1_is, a_rNePP, a_iEnum, a_tSeqL, a_tChain, a_tDict, a_tLstA, a_rEqT, a_tIns, a_tRev, a_rSlA, a_rCatA, a_rCatL, a_tSeq, a_tFor, a_rIxL, a_iZip, a_tSortR, a_tSl, a_rSlL0, a_tNoPart, a_tPart, a_tApp, a_tRet, a_tRetN, a_tNext, a_tDrop, a_tAsg, a_gSub, a_gName, a_gNil, a_gCons, a_gTup0, a_rSetL, a_tIfS, a_tAnd, a_tOr, a_tNot, a_tTest, a_tB, a_tTrue, a_tIf, a_tAndV, a_tOrV, a_tNotV, a_tOp, a_tUn, a_rU, a_tVar, a_tC, a_rI0, a_rI, a_rEq, a_rNe, a_rIx0, a_rIn0, a_tCB, a_tCal, a_tCons, a_tNil, a_tTupA, a_tLst, a_tPar, a_tBits, a_tLC, a_iRng1, a_iRng2, a_iT0, a_iL0, a_tEmit, frS, scal, V.ty.injEq, tyN, subN, String.reduceEq, String.reduceBEq, Bool.true_or, Bool.false_or, Bool.or_false, Bool.true_and, Bool.false_and, Bool.and_false, or_true, true_or, beq_self_eq_true, decide_true, decide_false, List.map_cons, List.map_nil, List.length_cons, List.length_nil, List.getElem?_cons_zero, List.getElem?_cons_succ, List.getElem?_nil, List.set_cons_zero, List.set_cons_succ, Option.some.injEq, Option.bind_some, Option.bind_none, id, exists_eq_left', exists_eq_left, exists_and_left, exists_eq_right, V.int.injEq, V.bl.injEq, V.ref.injEq, List.cons.injEq, and_true, true_and, and_assoc, exists_const, atI0, atI1, atI2, ixN30, ixN31, ixN32, upd_same, upd_upd, sq_updL, sq_updT, Nat.zero_add, Nat.reduceAdd, reduceCtorEq, false_and, and_false, exists_false, false_or, or_false, List.length_map, HO.lst.injEq, HO.tup.injEq, Bool.false_eq_true, if_false, if_true, decide_eq_true_eq, ite_true, ite_false, reduceIte, Int.reduceLT, Int.reduceLE, Nat.reduceLT, Int.zero_add, Bool.not_true, Bool.not_false, h, hs])
      (simp only [a_later])
      (try simp only [V.str.injEq, HO.dK.injEq, a_tAug, a_tDisp, a_prs0, a_prs, a_rGetK, a_rSetK, a_tAugS, a_ipI, a_tPar3, a_tListR, a_iS0, a_tPop0, a_tCalK, g3r_is, g2r_is, g2_is, g1_is, a_rNePP, a_iEnum, a_tSeqL, a_tChain, a_tDict, a_tLstA, a_rEqT, a_tIns, a_tRev, a_rSlA, a_rCatA, a_rCatL, a_tSeq, a_tFor, a_rIxL, a_iZip, a_tSortR, a_tSl, a_rSlL0, a_tNoPart, a_tPart, a_tApp, a_tRet, a_tRetN, a_tNext, a_tDrop, a_tAsg, a_gSub, a_gName, a_gNil, a_gCons, a_gTup0, a_rSetL, a_tIfS, a_tAnd, a_tOr, a_tNot, a_tTest, a_tB, a_tTrue, a_tIf, a_tAndV, a_tOrV, a_tNotV, a_tOp, a_tUn, a_rU, a_tVar, a_tC, a_rI0, a_rI, a_rEq, a_rNe, a_rIx0, a_rIn0, a_tCB, a_tCal, a_tCons, a_tNil, a_tTupA, a_tLst, a_tPar, a_tBits, a_tLC, a_iRng1, a_iRng2, a_iT0, a_iL0, a_tEmit, frS, scal, V.ty.injEq, tyN, subN, String.reduceEq, String.reduceBEq, Bool.true_or, Bool.false_or, Bool.or_false, Bool.true_and, Bool.false_and, Bool.and_false, or_true, true_or, beq_self_eq_true, decide_true, decide_false, List.map_cons, List.map_nil, List.length_cons, List.length_nil, List.getElem?_cons_zero, List.getElem?_cons_succ, List.getElem?_nil, List.set_cons_zero, List.set_cons_succ, Option.some.injEq, Option.bind_some, Option.bind_none, id, exists_eq_left', exists_eq_left, exists_and_left, exists_eq_right, V.int.injEq, V.bl.injEq, V.ref.injEq, List.cons.injEq, and_true, true_and, and_assoc, exists_const, atI0, atI1, atI2, ixN30, ixN31, ixN32, upd_same, upd_upd, sq_updL, sq_updT, Nat.zero_add, Nat.reduceAdd, reduceCtorEq, false_and, and_false, exists_false, false_or, or_false, List.length_map, HO.lst.injEq, HO.tup.injEq, Bool.false_eq_true, if_false, if_true, decide_eq_true_eq, ite_true, ite_false, reduceIte, Int.reduceLT, Int.reduceLE, Nat.reduceLT, Int.zero_add, Bool.not_true, Bool.not_false, h])
      (simp only [a_later])
      (try simp only [V.str.injEq, HO.dK.injEq, a_tAug, a_tDisp, a_prs0, a_prs, a_rGetK, a_rSetK, a_tAugS, a_ipI, a_tPar3, a_tListR, a_iS0, a_tPop0, a_tCalK, g3r_is, g2r_is, g2_is, g1_is, a_rNePP, a_iEnum, a_tSeqL, a_tChain, a_tDict, a_tLstA, a_rEqT, a_tIns, a_tRev, a_rSlA, a_rCatA, a_rCatL, a_tSeq, a_tFor, a_rIxL, a_iZip, a_tSortR, a_tSl, a_rSlL0, a_tNoPart, a_tPart, a_tApp, a_tRet, a_tRetN, a_tNext, a_tDrop, a_tAsg, a_gSub, a_gName, a_gNil, a_gCons, a_gTup0, a_rSetL, a_tIfS, a_tAnd, a_tOr, a_tNot, a_tTest, a_tB, a_tTrue, a_tIf, a_tAndV, a_tOrV, a_tNotV, a_tOp, a_tUn, a_rU, a_tVar, a_tC, a_rI0, a_rI, a_rEq, a_rNe, a_rIx0, a_rIn0, a_tCB, a_tCal, a_tCons, a_tNil, a_tTupA, a_tLst, a_tPar, a_tBits, a_tLC, a_iRng1, a_iRng2, a_iT0, a_iL0, a_tEmit, frS, scal, V.ty.injEq, tyN, subN, String.reduceEq, String.reduceBEq, Bool.true_or, Bool.false_or, Bool.or_false, Bool.true_and, Bool.false_and, Bool.and_false, or_true, true_or, beq_self_eq_true, decide_true, decide_false, List.map_cons, List.map_nil, List.length_cons, List.length_nil, List.getElem?_cons_zero, List.getElem?_cons_succ, List.getElem?_nil, List.set_cons_zero, List.set_cons_succ, Option.some.injEq, Option.bind_some, Option.bind_none, id, exists_eq_left', exists_eq_left, exists_and_left, exists_eq_right, V.int.injEq, V.bl.injEq, V.ref.injEq, List.cons.injEq, and_true, true_and, and_assoc, exists_const, atI0, atI1, atI2, ixN30, ixN31, ixN32, upd_same, upd_upd, sq_updL, sq_updT, Nat.zero_add, Nat.reduceAdd, reduceCtorEq, false_and, and_false, exists_false, false_or, or_false, List.length_map, HO.lst.injEq, HO.tup.injEq, Bool.false_eq_true, if_false, if_true, decide_eq_true_eq, ite_true, ite_false, reduceIte, Int.reduceLT, Int.reduceLE, Nat.reduceLT, Int.zero_add, Bool.not_true, Bool.not_false, htw, hss])
      refine ⟨.int b, 1, "int", rfl, rfl, ?_⟩
      rw [show isFrom 1 (.int b) = true from decide_eq_true b1]
      (try simp only [V.str.injEq, HO.dK.injEq, a_tAug, a_tDisp, a_prs0, a_prs, a_rGetK, a_rSetK, a_tAugS, a_ipI, a_tPar3, a_tListR, a_iS0, a_tPop0, a_tCalK, g3r_is, g2r_is, g2_is, g1_is, a_rNePP, a_iEnum, a_tSeqL, a_tChain, a_tDict, a_tLstA, a_rEqT, a_tIns, a_tRev, a_rSlA, a_rCatA, a_rCatL, a_tSeq, a_tFor, a_rIxL, a_iZip, a_tSortR, a_tSl, a_rSlL0, a_tNoPart, a_tPart, a_tApp, a_tRet, a_tRetN, a_tNext, a_tDrop, a_tAsg, a_gSub, a_gName, a_gNil, a_gCons, a_gTup0, a_rSetL, a_tIfS, a_tAnd, a_tOr, a_tNot, a_tTest, a_tB, a_tTrue, a_tIf, a_tAndV, a_tOrV, a_tNotV, a_tOp, a_tUn, a_rU, a_tVar, a_tC, a_rI0, a_rI, a_rEq, a_rNe, a_rIx0, a_rIn0, a_tCB, a_tCal, a_tCons, a_tNil, a_tTupA, a_tLst, a_tPar, a_tBits, a_tLC, a_iRng1, a_iRng2, a_iT0, a_iL0, a_tEmit, frS, scal, V.ty.injEq, tyN, subN, String.reduceEq, String.reduceBEq, Bool.true_or, Bool.false_or, Bool.or_false, Bool.true_and, Bool.false_and, Bool.and_false, or_true, true_or, beq_self_eq_true, decide_true, decide_false, List.map_cons, List.map_nil, List.length_cons, List.length_nil, List.getElem?_cons_zero, List.getElem?_cons_succ, List.getElem?_nil, List.set_cons_zero, List.set_cons_succ, Option.some.injEq, Option.bind_some, Option.bind_none, id, exists_eq_left', exists_eq_left, exists_and_left, exists_eq_right, V.int.injEq, V.bl.injEq, V.ref.injEq, List.cons.injEq, and_true, true_and, and_assoc, exists_const, atI0, atI1, atI2, ixN30, ixN31, ixN32, upd_same, upd_upd, sq_updL, sq_updT, Nat.zero_add, Nat.reduceAdd, reduceCtorEq, false_and, and_false, exists_false, false_or, or_false, List.length_map, HO.lst.injEq, HO.tup.injEq, Bool.false_eq_true, if_false, if_true, decide_eq_true_eq, ite_true, ite_false, reduceIte, Int.reduceLT, Int.reduceLE, Nat.reduceLT, Int.zero_add, Bool.not_true, Bool.not_false, htw, hss])
      refine .inr ⟨na, _, 0, _, rfl, hn, Kn.ints ns, by rw [List.length_map]; omega, fun H1 s1 => ?_⟩
      rw [nums nl n0]
      (walk_at "rd")
      (simp only [a_later])
      (walk_at "rd")
      refine ⟨t, sd, wt, m, ss, ts, z, false, rfl, R.same s1, s1 _ _ hsd, sl, m1, n.same s1, fun H2 s2 => ?_⟩
      (walk_at "rd")
      exact q H2 (s1.trans s2)
    | @good a na da b ns ds h b1 b2 hn nl n0 hd D =>
      have hs := sq_tup h
      (try simp only [V.str.injEq, HO.dK.injEq, a_tAug, a_tDisp, a_prs0, a_prs, a_rGetK, a_rSetK, a_tAugS, a_ipI, a_tPar3, a_tListR, a_iS0, a_tPop0, a_tCalK, g3r_is, g2r_is, g2_is, g1_is, a_rNePP, a_iEnum, a_tSeqL, a_tChain, a_tDict, a_tLstA, a_rEqT, a_tIns, a_tRev, a_rSlA, a_rCatA, a_rCatL, a_tSeq, a_tFor, a_rIxL, a_iZip, a_tSortR, a_tSl, a_rSlL0, a_tNoPart, a_tPart, a_tApp, a_tRet, a_tRetN, a_tNext, a_tDrop, a_tAsg, a_gSub, a_gName, a_gNil, a_gCons, a_gTup0, a_rSetL, a_tIfS, a_tAnd, a_tOr, a_tNot, a_tTest, a_tB, a_tTrue, a_tIf, a_tAndV, a_tOrV, a_tNotV, a_tOp, a_tUn, a_rU, a_tVar, a_tC, a_rI0, a_rI, a_rEq, a_rNe, a_rIx0, a_rIn0, a_tCB, a_tCal, a_tCons, a_tNil, a_tTupA, a_tLst, a_tPar, a_tBits, a_tLC, a_iRng1, a_iRng2, a_iT0, a_iL0, a_tEmit, frS, scal, V.ty.injEq, tyN, subN, String.reduceEq, String.reduceBEq, Bool.true_or, Bool.false_or, Bool.or_false, Bool.true_and, Bool.false_and, Bool.and_false, or_true, true_or, beq_self_eq_true, decide_true, decide_false, List.map_cons, List.map_nil, List.length_cons, List.length_nil, List.getElem?_cons_zero, List.getElem?_cons_succ, List.getElem?_nil, List.set_cons_zero, List.set_cons_succ, Option.some.injEq, Option.bind_some, Option.bind_none, id, exists_eq_left', exists_eq_left, exists_and_left, exists_eq_right, V.int.injEq, V.bl.injEq, V.ref.injEq, List.cons.injEq, and_true, true_and, and_assoc, exists_const, atI0, atI1, atI2, ixN30, ixN31, ixN32, upd_same, upd_upd, sq_updL, sq_updT, Nat.zero_add, Nat.reduceAdd, reduceCtorEq, false_and, and_false, exists_false, false_or, or_false, List.length_map, HO.lst.injEq, HO.tup.injEq, Bool.false_eq_true, if_false, if_true, decide_eq_true_eq, ite_true, ite_false, reduceIte, Int.reduceLT, Int.reduceLE, Nat.reduceLT, Int.zero_add, Bool.not_true, Bool.not_false, h, hs])
      (simp only [a_later])
      (try simp only [V.str.injEq, HO.dK.injEq, a_tAug, a_tDisp, a_prs0, a_prs, a_rGetK, a_rSetK, a_tAugS, a_ipI, a_tPar3, a_tListR, a_iS0, a_tPop0, a_tCalK, g3r_is, g2r_is, g2_is, g1_is, a_rNePP, a_iEnum, a_tSeqL, a_tChain, a_tDict, a_tLstA, a_rEqT, a_tIns, a_tRev, a_rSlA, a_rCatA, a_rCatL, a_tSeq, a_tFor, a_rIxL, a_iZip, a_tSortR, a_tSl, a_rSlL0, a_tNoPart, a_tPart, a_tApp, a_tRet, a_tRetN, a_tNext, a_tDrop, a_tAsg, a_gSub, a_gName, a_gNil, a_gCons, a_gTup0, a_rSetL, a_tIfS, a_tAnd, a_tOr, a_tNot, a_tTest, a_tB, a_tTrue, a_tIf, a_tAndV, a_tOrV, a_tNotV, a_tOp, a_tUn, a_rU, a_tVar, a_tC, a_rI0, a_rI, a_rEq, a_rNe, a_rIx0, a_rIn0, a_tCB, a_tCal, a_tCons, a_tNil, a_tTupA, a_tLst, a_tPar, a_tBits, a_tLC, a_iRng1, a_iRng2, a_iT0, a_iL0, a_tEmit, frS, scal, V.ty.injEq, tyN, subN, String.reduceEq, String.reduceBEq, Bool.true_or, Bool.false_or, Bool.or_false, Bool.true_and, Bool.false_and, Bool.and_false, or_true, true_or, beq_self_eq_true, decide_true, decide_false, List.map_cons, List.map_nil, List.length_cons, List.length_nil, List.getElem?_cons_zero, List.getElem?_cons_succ, List.getElem?_nil, List.set_cons_zero, List.set_cons_succ, Option.some.injEq, Option.bind_some, Option.bind_none, id, exists_eq_left', exists_eq_left, exists_and_left, exists_eq_right, V.int.injEq, V.bl.injEq, V.ref.injEq, List.cons.injEq, and_true, true_and, and_assoc, exists_const, atI0, atI1, atI2, ixN30, ixN31, ixN32, upd_same, upd_upd, sq_updL, sq_updT, Nat.zero_add, Nat.reduceAdd, reduceCtorEq, false_and, and_false, exists_false, false_or, or_false, List.length_map, HO.lst.injEq, HO.tup.injEq, Bool.false_eq_true, if_false, if_true, decide_eq_true_eq, ite_true, ite_false, reduceIte, Int.reduceLT, Int.reduceLE, Nat.reduceLT, Int.zero_add, Bool.not_true, Bool.not_false, h])
      (simp only [a_later])
      (try simp only [V.str.injEq, HO.dK.injEq, a_tAug, a_tDisp, a_prs0, a_prs, a_rGetK, a_rSetK, a_tAugS, a_ipI, a_tPar3, a_tListR, a_iS0, a_tPop0, a_tCalK, g3r_is, g2r_is, g2_is, g1_is, a_rNePP, a_iEnum, a_tSeqL, a_tChain, a_tDict, a_tLstA, a_rEqT, a_tIns, a_tRev, a_rSlA, a_rCatA, a_rCatL, a_tSeq, a_tFor, a_rIxL, a_iZip, a_tSortR, a_tSl, a_rSlL0, a_tNoPart, a_tPart, a_tApp, a_tRet, a_tRetN, a_tNext, a_tDrop, a_tAsg, a_gSub, a_gName, a_gNil, a_gCons, a_gTup0, a_rSetL, a_tIfS, a_tAnd, a_tOr, a_tNot, a_tTest, a_tB, a_tTrue, a_tIf, a_tAndV, a_tOrV, a_tNotV, a_tOp, a_tUn, a_rU, a_tVar, a_tC, a_rI0, a_rI, a_rEq, a_rNe, a_rIx0, a_rIn0, a_tCB, a_tCal, a_tCons, a_tNil, a_tTupA, a_tLst, a_tPar, a_tBits, a_tLC, a_iRng1, a_iRng2, a_iT0, a_iL0, a_tEmit, frS, scal, V.ty.injEq, tyN, subN, String.reduceEq, String.reduceBEq, Bool.true_or, Bool.false_or, Bool.or_false, Bool.true_and, Bool.false_and, Bool.and_false, or_true, true_or, beq_self_eq_true, decide_true, decide_false, List.map_cons, List.map_nil, List.length_cons, List.length_nil, List.getElem?_cons_zero, List.getElem?_cons_succ, List.getElem?_nil, List.set_cons_zero, List.set_cons_succ, Option.some.injEq, Option.bind_some, Option.bind_none, id, exists_eq_left', exists_eq_left, exists_and_left, exists_eq_right, V.int.injEq, V.bl.injEq, V.ref.injEq, List.cons.injEq, and_true, true_and, and_assoc, exists_const, atI0, atI1, atI2, ixN30, ixN31, ixN32, upd_same, upd_upd, sq_updL, sq_updT, Nat.zero_add, Nat.reduceAdd, reduceCtorEq, false_and, and_false, exists_false, false_or, or_false, List.length_map, HO.lst.injEq, HO.tup.injEq, Bool.false_eq_true, if_false, if_true, decide_eq_true_eq, ite_true, ite_false, reduceIte, Int.reduceLT, Int.reduceLE, Nat.reduceLT, Int.zero_add, Bool.not_true, Bool.not_false, htw, hss])
      refine ⟨.int b, 1, "int", rfl, rfl, ?_⟩
      rw [show isFrom 1 (.int b) = true from decide_eq_true b1]
      (try simp only [V.str.injEq, HO.dK.injEq, a_tAug, a_tDisp, a_prs0, a_prs, a_rGetK, a_rSetK, a_tAugS, a_ipI, a_tPar3, a_tListR, a_iS0, a_tPop0, a_tCalK, g3r_is, g2r_is, g2_is, g1_is, a_rNePP, a_iEnum, a_tSeqL, a_tChain, a_tDict, a_tLstA, a_rEqT, a_tIns, a_tRev, a_rSlA, a_rCatA, a_rCatL, a_tSeq, a_tFor, a_rIxL, a_iZip, a_tSortR, a_tSl, a_rSlL0, a_tNoPart, a_tPart, a_tApp, a_tRet, a_tRetN, a_tNext, a_tDrop, a_tAsg, a_gSub, a_gName, a_gNil, a_gCons, a_gTup0, a_rSetL, a_tIfS, a_tAnd, a_tOr, a_tNot, a_tTest, a_tB, a_tTrue, a_tIf, a_tAndV, a_tOrV, a_tNotV, a_tOp, a_tUn, a_rU, a_tVar, a_tC, a_rI0, a_rI, a_rEq, a_rNe, a_rIx0, a_rIn0, a_tCB, a_tCal, a_tCons, a_tNil, a_tTupA, a_tLst, a_tPar, a_tBits, a_tLC, a_iRng1, a_iRng2, a_iT0, a_iL0, a_tEmit, frS, scal, V.ty.injEq, tyN, subN, String.reduceEq, String.reduceBEq, Bool.true_or, Bool.false_or, Bool.or_false, Bool.true_and, Bool.false_and, Bool.and_false, or_true, true_or, beq_self_eq_true, decide_true, decide_false, List.map_cons, List.map_nil, List.length_cons, List.length_nil, List.getElem?_cons_zero, List.getElem?_cons_succ, List.getElem?_nil, List.set_cons_zero, List.set_cons_succ, Option.some.injEq, Option.bind_some, Option.bind_none, id, exists_eq_left', exists_eq_left, exists_and_left, exists_eq_right, V.int.injEq, V.bl.injEq, V.ref.injEq, List.cons.injEq, and_true, true_and, and_assoc, exists_const, atI0, atI1, atI2, ixN30, ixN31, ixN32, upd_same, upd_upd, sq_updL, sq_updT, Nat.zero_add, Nat.reduceAdd, reduceCtorEq, false_and, and_false, exists_false, false_or, or_false, List.length_map, HO.lst.injEq, HO.tup.injEq, Bool.false_eq_true, if_false, if_true, decide_eq_true_eq, ite_true, ite_false, reduceIte, Int.reduceLT, Int.reduceLE, Nat.reduceLT, Int.zero_add, Bool.not_true, Bool.not_false, htw, hss])
      refine .inr ⟨na, _, 0, _, rfl, hn, Kn.ints ns, by rw [List.length_map]; omega, fun H1 s1 => ?_⟩
      rw [nums nl n0]
      (walk_at "rd")
      (simp only [a_later])
      (walk_at "rd")
      refine ⟨t, sd, wt, m, ss, ts, .ref da, true, rfl, R.same s1, s1 _ _ hsd, sl, m1, .inr ⟨da, _, rfl, s1 _ _ hd, Kn.ints ds, by rw [List.length_map, D.1]; omega, (deal_of D).symm⟩, fun H2 s2 => ?_⟩
      (walk_at "rd")
      have S2 := s1.trans s2
      exact ⟨t, sd, wt, na, da, ts, b, ns, ds, rfl, by rw [nl]; exact R.same S2, S2 _ _ hn, S2 _ _ hd, by omega, b2, by rw [D.1, nl], fun H3 s3 => q H3 (S2.trans s3)⟩
end
end K44
end
section
set_option Elab.async false
set_option linter.all false
set_option maxRecDepth 100000
set_option maxHeartbeats 8000000
namespace K44
open PySem L2
local macro_rules | `(tactic| walk_at "rd") => `(tactic| (try simp only [V.str.injEq, HO.dK.injEq, a_tAug, a_tDisp, a_prs0, a_prs, a_rGetK, a_rSetK, a_tAugS, a_ipI, a_tPar3, a_tListR, a_iS0, a_tPop0, a_tCalK, g3r_is, g2r_is, g2_is, g1_is, a_rNePP, a_iEnum, a_tSeqL, a_tChain, a_tDict, a_tLstA, a_rEqT, a_tIns, a_tRev, a_rSlA, a_rCatA, a_rCatL, a_tSeq, a_tFor, a_rIxL, a_iZip, a_tSortR, a_tSl, a_rSlL0, a_tNoPart, a_tPart, a_tApp, a_tRet, a_tRetN, a_tNext, a_tDrop, a_tAsg, a_gSub, a_gName, a_gNil, a_gCons, a_gTup0, a_rSetL, a_tIfS, a_tAnd, a_tOr, a_tNot, a_tTest, a_tB, a_tTrue, a_tIf, a_tAndV, a_tOrV, a_tNotV, a_tOp, a_tUn, a_rU, a_tVar, a_tC, a_rI0, a_rI, a_rEq, a_rNe, a_rIx0, a_rIn0, a_tCB, a_tCal, a_tCons, a_tNil, a_tTupA, a_tLst, a_tPar, a_tBits, a_tLC, a_iRng1, a_iRng2, a_iT0, a_iL0, a_tEmit, frS, scal, V.ty.injEq, tyN, subN, String.reduceEq, String.reduceBEq, Bool.true_or, Bool.false_or, Bool.or_false, Bool.true_and, Bool.false_and, Bool.and_false, or_true, true_or, beq_self_eq_true, decide_true, decide_false, List.map_cons, List.map_nil, List.length_cons, List.length_nil, List.getElem?_cons_zero, List.getElem?_cons_succ, List.getElem?_nil, List.set_cons_zero, List.set_cons_succ, Option.some.injEq, Option.bind_some, Option.bind_none, id, exists_eq_left', exists_eq_left, exists_and_left, exists_eq_right, V.int.injEq, V.bl.injEq, V.ref.injEq, List.cons.injEq, and_true, true_and, and_assoc, exists_const, atI0, atI1, atI2, ixN30, ixN31, ixN32, upd_same, upd_upd, sq_updL, sq_updT, Nat.zero_add, Nat.reduceAdd, reduceCtorEq, false_and, and_false, exists_false, false_or, or_false, List.length_map, HO.lst.injEq, HO.tup.injEq, Bool.false_eq_true, if_false, if_true, decide_eq_true_eq, ite_true, ite_false, reduceIte, Int.reduceLT, Int.reduceLE, Nat.reduceLT, Int.zero_add, Bool.not_true, Bool.not_false]))
section
variable {P : Program} {w : World} {K : PySem.W.Frag} {mg : Str → Option Value} {base : Heap} {f : Addr} {fd : FuncData}
def tabL (ws : List Int) (m k : Nat) : List Int := (List.range k).map fun x : Nat => byBits ws (x : Int) m
structure Al (W : List (List Int)) (m n : Nat) (b : Int) (ns ds : List Int) : Prop where
  len : W.length = n
  row : ∀ ws ∈ W, ws.length = m ∧ ∀ x ∈ ws, 1 ≤ x ∧ x ≤ 30
  nl : ns.length = m
  dl : ds.length = m
  at' : ∀ t, t < m → ∃ h, h < n ∧ ds.getD t 0 = (h : Int) ∧ ns.getD t 0 = b * (W.getD h []).getD t 0 ∧ ∀ g, g < n → (W.getD g []).getD t 0 ≤ (W.getD h []).getD t 0
def sp_alone : Sp := fun vs H Q _ => ∃ p l : Addr, vs = [.ref p] ∧ Spool H p l ∧ ∀ (r tw sa wa th na da : Addr) (ts : List (Addr × List Int)) (ss : List Int) (W : List (List Int)) (b : Int) (ns ds : List Int) (H' : Hp), H' r = some (.tup [.ref tw, .ref th]) → Rows H' tw sa wa ts ss.length → H' sa = some (.tup (ss.map V.int)) → 1 ≤ ss.length → 1 ≤ ts.length → H' th = some (.tup [.int b, .ref na, .ref da]) → 1 ≤ b → b ≤ 3 → H' na = some (.tup (ns.map V.int)) → H' da = some (.tup (ds.map V.int)) → (ts.map fun t => t.2) = W.map (fun ws => tabL ws ss.length (2 ^ ss.length)) → Al W ss.length ts.length b ns ds → Spool H' p l → SameX p H H' → Q (.ref r) H'
def TB0 (c : Addr) (G : Hp) (i : Nat) (σ : St) (H : Hp) : Prop := ∃ (v : Option V) (tas : List Addr), σ = [v] ∧ tas.length = i ∧ tas.Nodup ∧ (∀ a ∈ tas, a ≠ c ∧ G a = none ∧ H a = some (.lst [.int 0])) ∧ SameX c G H ∧ H c = some (.lst (tas.map V.ref))
def WI (p l d : Addr) (m : Nat) (G : Hp) (i : Nat) (σ : St) (H : Hp) : Prop := ∃ (v : Option V) (rs : List (Addr × List Int)), σ = [v, some (.int (m : Int)), some (.ref p)] ∧ rs.length = i ∧ (∀ r ∈ rs, r.1 ≠ d ∧ r.1 ≠ p ∧ G r.1 = none ∧ H r.1 = some (.lst (r.2.map V.int)) ∧ r.2.length = m ∧ ∀ x ∈ r.2, 1 ≤ x ∧ x ≤ 30) ∧ Spool H p l ∧ (∀ b o, b ≠ p → b ≠ d → G b = some o → H b = some o) ∧ H d = some (.lst (rs.map fun r => V.ref r.1))
def TH (tas : List Addr) (W : List (List Int)) (m k j : Nat) (H : Hp) : Prop := ∀ (h : Nat) (a : Addr), tas[h]? = some a → H a = some (.lst ((tabL (W.getD h []) m (if h < j then k + 1 else k)).map V.int))
def OutT (tas : List Addr) (G H : Hp) : Prop := ∀ b o, b ∉ tas → G b = some o → H b = some o
def AH (p c de nu d : Addr) (m n : Nat) (tas : List Addr) (W : List (List Int)) (G : Hp) (i : Nat) (σ : St) (H : Hp) : Prop := ∃ v7 v8 v9 v10 v11 v12 : Option V, σ = [some (.ref p), some (.int (m : Int)), some (.int (n : Int)), some (.ref c), some (.ref de), some (.ref nu), some (.ref d), v7, v8, v9, v10, v11, v12] ∧ OutT tas G H ∧ TH tas W m (1 + i) 0 H
def AJ (p c de nu d : Addr) (m n : Nat) (tas : List Addr) (W : List (List Int)) (k : Nat) (G : Hp) (j : Nat) (σ : St) (H : Hp) : Prop := ∃ v8 v9 v10 v11 v12 : Option V, σ = [some (.ref p), some (.int (m : Int)), some (.int (n : Int)), some (.ref c), some (.ref de), some (.ref nu), some (.ref d), some (.int (k : Int)), v8, v9, v10, v11, v12] ∧ OutT tas G H ∧ TH tas W m k j H
def SO (c d : Addr) (j : Nat) (ws : List Int) (h : Nat) (G : Hp) (i : Nat) (σ : St) (H : Hp) : Prop := ∃ (v : Option V) (cs : List Int), σ = [v, some (.ref d), some (.int (j : Int)), some (.int (h : Int))] ∧ cs.length ≤ i ∧ (∀ x ∈ cs, 0 ≤ x ∧ x ≤ 30) ∧ cs.sum = byBits ws (h : Int) i ∧ SameX c G H ∧ H c = some (.lst (cs.map V.int))
theorem tab_snoc (ws : List Int) (m k : Nat) : tabL ws m (k + 1) = tabL ws m k ++ [byBits ws (k : Int) m] := by
  unfold tabL
  rw [List.range_succ, List.map_append]
  rfl
theorem tab_len (ws : List Int) (m k : Nat) : (tabL ws m k).length = k := by unfold tabL; simp
theorem bits_zero (ws : List Int) : ∀ m, m ≤ 5 → byBits ws 0 m = 0
  | 0, _ => rfl
  | m + 1, h => by
    rw [byBits_succ, bits_zero ws m (by omega)]
    have : bit 0 m = 0 := by
      have key : ∀ b : _root_.Fin 5, bit 0 b.val = 0 := by decide +kernel
      exact key ⟨m, by omega⟩
    rw [this]
    simp
theorem nodup_at {tas : List Addr} (nd : tas.Nodup) {i j : Nat} {a : Addr} (h1 : tas[i]? = some a) (h2 : tas[j]? = some a) : i = j := by
  obtain ⟨l1, e1⟩ := List.getElem?_eq_some_iff.mp h1
  obtain ⟨l2, e2⟩ := List.getElem?_eq_some_iff.mp h2
  exact (List.getElem_inj nd).mp (e1.trans e2.symm)
def AT (p c de nu d : Addr) (m n : Nat) (b : Int) (W : List (List Int)) (G : Hp) (i : Nat) (σ : St) (H : Hp) : Prop := ∃ (v7 v8 v9 v11 v12 : Option V) (ns ds : List Int), σ = [some (.ref p), some (.int (m : Int)), some (.int (n : Int)), some (.ref c), some (.ref de), some (.ref nu), some (.ref d), v7, v8, v9, some (.int b), v11, v12] ∧ ns.length = i ∧ ds.length = i ∧ (∀ t, t < i → ∃ h, h < n ∧ ds.getD t 0 = (h : Int) ∧ ns.getD t 0 = b * (W.getD h []).getD t 0 ∧ ∀ g, g < n → (W.getD g []).getD t 0 ≤ (W.getD h []).getD t 0) ∧ (∀ b o, b ≠ nu → b ≠ de → G b = some o → H b = some o) ∧ H nu = some (.lst (ns.map V.int)) ∧ H de = some (.lst (ds.map V.int))
def SPr (c d : Addr) (t : Nat) (W : List (List Int)) (G : Hp) (j : Nat) (σ : St) (H : Hp) : Prop := ∃ (v : Option V) (qs : List (Addr × Int × Int)), σ = [v, some (.ref d), some (.int (t : Int))] ∧ qs.length = j ∧ (∀ (k : Nat) (r : Addr × Int × Int), qs[k]? = some r → H r.1 = some (.tup [.int r.2.1, .int r.2.2]) ∧ r.2.2 = (k : Int) ∧ r.2.1 = (W.getD k []).getD t 0) ∧ SameX c G H ∧ H c = some (.lst (qs.map fun r => V.ref r.1))
theorem pair_le {w h a b : Int} (z : HT.lexLt (flatK [Ky.i w, Ky.i h]) (flatK [Ky.i a, Ky.i b]) = false) : a ≤ w := by
  have e1 : flatK [Ky.i w, Ky.i h] = [w, h] := rfl
  have e2 : flatK [Ky.i a, Ky.i b] = [a, b] := rfl
  rw [e1, e2, HT.lexLt_cons] at z
  by_cases e : w = a
  · omega
  · rw [if_neg e] at z
    have := of_decide_eq_false z
    omega
theorem bits_bd {ws : List Int} (h30 : ∀ x ∈ ws, 1 ≤ x ∧ x ≤ 30) {h : Nat} (hh : h < 32) : ∀ k, k ≤ 5 → 0 ≤ byBits ws (h : Int) k ∧ byBits ws (h : Int) k ≤ 30 * (k : Int)
  | 0, _ => by
    have : byBits ws (h : Int) 0 = 0 := rfl
    omega
  | k + 1, hk => by
    have ih := bits_bd h30 hh k (by omega)
    have g : 0 ≤ ws.getD k 0 ∧ ws.getD k 0 ≤ 30 := by
      rw [List.getD_eq_getElem?_getD]
      cases e : ws[k]? with
      | none => exact ⟨Int.le_refl _, by decide⟩
      | some x =>
        have := h30 x (List.mem_of_getElem? e)
        exact ⟨by show 0 ≤ x; omega, this.2⟩
    rw [byBits_succ]
    rcases bit_or hh (show k < 5 by omega) with z | z
    · rw [z, Int.mul_zero]
      omega
    · rw [z, Int.mul_one]
      omega
theorem tab_bd {ws : List Int} (h30 : ∀ x ∈ ws, 1 ≤ x ∧ x ≤ 30) {m : Nat} (m5 : m ≤ 5) : ∀ x ∈ tabL ws m (2 ^ m), 0 ≤ x ∧ x ≤ 10000 := fun x hx => by
  unfold tabL at hx
  obtain ⟨h, hh, rfl⟩ := List.mem_map.mp hx
  have := pow32 m5
  have := bits_bd h30 (show h < 32 by have := List.mem_range.mp hh; omega) m m5
  omega
def WT (wl : Addr) (m : Nat) (W : List (List Int)) (G : Hp) (i : Nat) (σ : St) (H : Hp) : Prop := ∃ (v : Option V) (ts : List (Addr × List Int)), σ = [v] ∧ ts.length = i ∧ (∀ (k : Nat) (t : Addr × List Int), ts[k]? = some t → H t.1 = some (.tup (t.2.map V.int)) ∧ t.2 = tabL (W.getD k []) m (2 ^ m)) ∧ SameX wl G H ∧ H wl = some (.lst (ts.map fun t => V.ref t.1))
theorem sc__law_alone : FnScope ["_law_spool_here", "_law_many", "_law_hands", "_law_tables", "_law_dealing", "_law_numbers", "_law_worths", "_law_heap", "_law_hand", "_law_some", "_law_by", "_law_thing", "_law_sides"] ["_law_spool_here"] (defScope s__law_alone) := ⟨rfl, rfl, rfl, by decide +kernel, rfl, by decide +kernel, by decide +kernel⟩
theorem ok_alone (F : Fun K "_law_alone" "_law_alone" s__law_alone f fd) (hm : mg "_law_alone" = some (.ref f)) (hb : Binds K fd ["_law_spool_here"] []) (T : Txt mg) (c__law_draw : Cal P w K mg base "_law_draw" ["_law_spool_here", "_law_many"] 2 spDraw) : Cal P w K mg base "_law_alone" ["_law_spool_here"] 3 sp_alone := by
  refine cal_of F hm hb sc__law_alone (fun vs H Q E h => ?_) (fun cdv A outer s H vs Q E hr h => ?_)
  · obtain ⟨_, _, rfl, _⟩ := h; rfl
  · obtain ⟨p, l, rfl, sp, q⟩ := h
    have sc := sc__law_alone
    refine ⟨_, pss_consL (ps_asg (pe_tupA (pa_cns (pe_op op_add pe_int (pe_cal c__law_draw hr (pa_cns (pv 0) (pa_cns pe_int pa_nil)))) (pa_cns (pe_op op_add pe_int (pe_cal c__law_draw hr (pa_cns (pv 0) (pa_cns pe_int pa_nil)))) pa_nil))) (pg_tup0 (n := 2) rfl (pgs_cons (pg_name (i := 1) sc.nd rfl (Or.inr rfl)) (pgs_cons (pg_name (i := 2) sc.nd rfl (Or.inl rfl)) pgs_nil))))
      (pss_consL (ps_par3 (i := 3) (j := 4) (k := 5) rfl sc.nd rfl rfl rfl (by decide) (by decide) (by decide) rfl rfl rfl (pa_cns (pe_lc (N := ["_law_hand"]) (fr := [none]) rfl (pi_range1 rfl T.range_ (pa_cns (pv 2) pa_nil)) (CScope.of rfl rfl rfl) rfl (fun _ _ _ => ⟨pg_name (i := 0) (show List.Nodup (α := Str) ["_law_hand"] by decide +kernel) rfl (Or.inl rfl), pif_nil, pe_lstA (pa_cns pe_int pa_nil)⟩)) (pa_cns (pe_lstA pa_nil) (pa_cns (pe_lstA pa_nil) pa_nil))) rfl)
      (pss_consL (ps_set (i := 6) sc.nd rfl (Or.inr rfl) (pe_lc (N := ["_law_hand", "_law_many", "_law_spool_here"]) (fr := [none, some 1, some 0]) rfl (pi_range1 rfl T.range_ (pa_cns (pv 2) pa_nil)) (CScope.of rfl rfl rfl) rfl (fun _ _ _ => ⟨pg_name (i := 0) (show List.Nodup (α := Str) ["_law_hand", "_law_many", "_law_spool_here"] by decide +kernel) rfl (Or.inl rfl), pif_nil, pe_lc (N := ["_law_thing", "_law_spool_here"]) (fr := [none, some 2]) rfl (pi_range1 rfl T.range_ (pa_cns (pv 1) pa_nil)) (CScope.of rfl rfl rfl) rfl (fun _ _ _ => ⟨pg_name (i := 0) (show List.Nodup (α := Str) ["_law_thing", "_law_spool_here"] by decide +kernel) rfl (Or.inl rfl), pif_nil, pe_op op_add pe_int (pe_cal c__law_draw hr (pa_cns (pv 1) (pa_cns pe_int pa_nil)))⟩)⟩)))
      (pss_consL (ps_for PassesOwn.never rfl (pi_range2 rfl T.range_ (pa_cns pe_int (pa_cns (pe_op op_shl pe_int (pv 1)) pa_nil))) (pg_name (i := 7) sc.nd rfl (Or.inr rfl))
        (pss_one (ps_for PassesOwn.never rfl (pi_range1 rfl T.range_ (pa_cns (pv 2) pa_nil)) (pg_name (i := 8) sc.nd rfl (Or.inr rfl))
        (pss_consL (ps_setLC (i := 9) sc.nd rfl (Or.inl rfl) (N := ["_law_thing", "_law_worths", "_law_hand", "_law_heap"]) (fr := [none, some 6, some 8, some 7]) rfl (pi_range1 rfl T.range_ (pa_cns (pv 1) pa_nil)) (CScope.of rfl rfl rfl) rfl (fun _ _ _ => ⟨pg_name (i := 0) (show List.Nodup (α := Str) ["_law_thing", "_law_worths", "_law_hand", "_law_heap"] by decide +kernel) rfl (Or.inl rfl), pif_one (pt_cmpR op_eq (pe_op op_and (pe_op op_shr (pv 3) (pv 0)) pe_int) pe_int (nomark _)), pe_ix ix0 (pe_ix ix0 (pv 1) (pv 2) (fun _ _ => rfl)) (pv 0) (fun _ _ => rfl)⟩))
      (pss_one (ps_expr (pe_append (pe_ix ix0 (pv 3) (pv 8) (fun _ _ => rfl)) (pa_cns (pe_callB (sum0 rfl) rfl T.sum_ bt_sum (pa_cns (pv 9) pa_nil)) pa_nil))))))))
      (pss_consL (ps_set (i := 10) sc.nd rfl (Or.inl rfl) (pe_op op_add pe_int (pe_cal c__law_draw hr (pa_cns (pv 0) (pa_cns pe_int pa_nil)))))
      (pss_consL (ps_for PassesOwn.never rfl (pi_range1 rfl T.range_ (pa_cns (pv 1) pa_nil)) (pg_name (i := 11) sc.nd rfl (Or.inr rfl))
        (pss_consL (ps_setLC (i := 9) sc.nd rfl (Or.inl rfl) (N := ["_law_hand", "_law_worths", "_law_thing"]) (fr := [none, some 6, some 11]) rfl (pi_range1 rfl T.range_ (pa_cns (pv 2) pa_nil)) (CScope.of rfl rfl rfl) rfl (fun _ _ _ => ⟨pg_name (i := 0) (show List.Nodup (α := Str) ["_law_hand", "_law_worths", "_law_thing"] by decide +kernel) rfl (Or.inl rfl), pif_nil, pe_tupA (pa_cns (pe_ix ix0 (pe_ix ix0 (pv 1) (pv 0) (fun _ _ => rfl)) (pv 2) (fun _ _ => rfl)) (pa_cns (pv 0) pa_nil))⟩))
      (pss_consL (ps_expr (pe_append (pv 5) (pa_cns (pe_op op_mul (pv 10) (pe_ix ix0 (pe_callB (maxP0 rfl (hu128 hr)) rfl T.max_ bt_max (pa_cns (pv 9) pa_nil)) pe_int (fun _ _ => rfl))) pa_nil)))
      (pss_one (ps_expr (pe_append (pv 4) (pa_cns (pe_ix ix0 (pe_callB (maxP0 rfl (hu128 hr)) rfl T.max_ bt_max (pa_cns (pv 9) pa_nil)) pe_int (fun _ _ => rfl)) pa_nil)))))))
      (pss_consL (ps_set (i := 12) sc.nd rfl (Or.inl rfl) (pe_callTy tupA0 rfl T.tuple_ bt_tuple (pa_cns (pe_lc (N := ["_law_thing", "_law_spool_here"]) (fr := [none, some 0]) rfl (pi_range1 rfl T.range_ (pa_cns (pv 1) pa_nil)) (CScope.of rfl rfl rfl) rfl (fun _ _ _ => ⟨pg_name (i := 0) (show List.Nodup (α := Str) ["_law_thing", "_law_spool_here"] by decide +kernel) rfl (Or.inl rfl), pif_nil, pe_cal c__law_draw hr (pa_cns (pv 1) (pa_cns pe_int pa_nil))⟩)) pa_nil)))
      (pss_one (ps_ret (pe_tupA (pa_cns (pe_tupA (pa_cns (pv 12) (pa_cns (pe_callTy tupA0 rfl T.tuple_ bt_tuple (pa_cns (pe_lc (N := ["_law_table"]) (fr := [none]) rfl (pi_l0 (pv 3)) (CScope.of rfl rfl rfl) rfl (fun _ _ _ => ⟨pg_name (i := 0) (show List.Nodup (α := Str) ["_law_table"] by decide +kernel) rfl (Or.inl rfl), pif_nil, pe_callTy tupA0 rfl T.tuple_ bt_tuple (pa_cns (pv 0) pa_nil)⟩)) pa_nil)) pa_nil))) (pa_cns (pe_tupA (pa_cns (pv 10) (pa_cns (pe_callTy tupA0 rfl T.tuple_ bt_tuple (pa_cns (pv 5) pa_nil)) (pa_cns (pe_callTy tupA0 rfl T.tuple_ bt_tuple (pa_cns (pv 4) pa_nil)) pa_nil)))) pa_nil))))))))))), ?_⟩
    rw [show L2.start ["_law_spool_here", "_law_many", "_law_hands", "_law_tables", "_law_dealing", "_law_numbers", "_law_worths", "_law_heap", "_law_hand", "_law_some", "_law_by", "_law_thing", "_law_sides"] [.ref p] = [some (.ref p), none, none, none, none, none, none, none, none, none, none, none, none] from rfl]
    (walk_at "rd")
    refine ⟨p, l, 5, rfl, sp, by decide, by decide, fun r1 H1 r10 r11 sp1 sx1 => ?_⟩
    (walk_at "rd")
    refine ⟨p, l, 5, rfl, sp1, by decide, by decide, fun r2 H2 r20 r21 sp2 sx2 => ?_⟩
    (walk_at "rd")
    refine ⟨by decide, fun T1 H3 n3 s3 e3 => ⟨_, e3, rfl, _, _, rfl, _, _, rfl, rfl, ?_⟩⟩
    obtain ⟨m, hm'⟩ := Int.eq_ofNat_of_zero_le (show 0 ≤ 1 + r1 by omega)
    obtain ⟨n, hn'⟩ := Int.eq_ofNat_of_zero_le (show 0 ≤ 1 + r2 by omega)
    rw [hm', hn']
    have m5 : m ≤ 5 := by omega
    have n5 : n ≤ 5 := by omega
    have p32 := pow32 m5
    have sp3 := sp2.same s3
    have sxa : SameX p H H3 := (sx1.trans sx2).trans s3.x
    (simp only [a_later])
    (walk_at "rd")
    refine ⟨by omega, by omega, fun c nc => ?_⟩
    refine cl_range (TB0 c H3) ⟨none, [], rfl, rfl, by simp, fun _ z => absurd z (by simp), SameX.upd, upd_same⟩ ?_ ?_
    · rintro i σ H4 hi ⟨v, tas, rfl, tl, tn, tt, s4, e4⟩
      rw [Int.toNat_natCast] at hi
      (walk_at "rd")
      refine ⟨by decide, fun u H5 n5' s5 e5 => ?_⟩
      have e5c := s5 _ _ e4
      have nuc : u ≠ c := fun z => by rw [z, e4] at n5'; cases n5'
      have gu : H3 u = none := by
        cases e : H3 u with
        | none => rfl
        | some o => rw [s4 _ _ nuc e] at n5'; cases n5'
      (try simp only [V.str.injEq, HO.dK.injEq, a_tAug, a_tDisp, a_prs0, a_prs, a_rGetK, a_rSetK, a_tAugS, a_ipI, a_tPar3, a_tListR, a_iS0, a_tPop0, a_tCalK, g3r_is, g2r_is, g2_is, g1_is, a_rNePP, a_iEnum, a_tSeqL, a_tChain, a_tDict, a_tLstA, a_rEqT, a_tIns, a_tRev, a_rSlA, a_rCatA, a_rCatL, a_tSeq, a_tFor, a_rIxL, a_iZip, a_tSortR, a_tSl, a_rSlL0, a_tNoPart, a_tPart, a_tApp, a_tRet, a_tRetN, a_tNext, a_tDrop, a_tAsg, a_gSub, a_gName, a_gNil, a_gCons, a_gTup0, a_rSetL, a_tIfS, a_tAnd, a_tOr, a_tNot, a_tTest, a_tB, a_tTrue, a_tIf, a_tAndV, a_tOrV, a_tNotV, a_tOp, a_tUn, a_rU, a_tVar, a_tC, a_rI0, a_rI, a_rEq, a_rNe, a_rIx0, a_rIn0, a_tCB, a_tCal, a_tCons, a_tNil, a_tTupA, a_tLst, a_tPar, a_tBits, a_tLC, a_iRng1, a_iRng2, a_iT0, a_iL0, a_tEmit, frS, scal, V.ty.injEq, tyN, subN, String.reduceEq, String.reduceBEq, Bool.true_or, Bool.false_or, Bool.or_false, Bool.true_and, Bool.false_and, Bool.and_false, or_true, true_or, beq_self_eq_true, decide_true, decide_false, List.map_cons, List.map_nil, List.length_cons, List.length_nil, List.getElem?_cons_zero, List.getElem?_cons_succ, List.getElem?_nil, List.set_cons_zero, List.set_cons_succ, Option.some.injEq, Option.bind_some, Option.bind_none, id, exists_eq_left', exists_eq_left, exists_and_left, exists_eq_right, V.int.injEq, V.bl.injEq, V.ref.injEq, List.cons.injEq, and_true, true_and, and_assoc, exists_const, atI0, atI1, atI2, ixN30, ixN31, ixN32, upd_same, upd_upd, sq_updL, sq_updT, Nat.zero_add, Nat.reduceAdd, reduceCtorEq, false_and, and_false, exists_false, false_or, or_false, List.length_map, HO.lst.injEq, HO.tup.injEq, Bool.false_eq_true, if_false, if_true, decide_eq_true_eq, ite_true, ite_false, reduceIte, Int.reduceLT, Int.reduceLE, Nat.reduceLT, Int.zero_add, Bool.not_true, Bool.not_false, e5c])
      refine ⟨small1000 (by omega), ⟨_, tas ++ [u], rfl, by rw [List.length_append, tl]; rfl, ?_, fun a ha => ?_, (s4.trans s5.x).trans SameX.upd, by rw [upd_same]; simp⟩⟩
      · refine List.nodup_append.mpr ⟨tn, by simp, fun a ha b hb e => ?_⟩
        have : b = u := by simpa using hb
        rw [e, this] at ha
        rw [(tt u ha).2.2] at n5'
        cases n5'
      · rcases List.mem_append.mp ha with z | z
        · obtain ⟨a1, a2, a3⟩ := tt a z
          exact ⟨a1, a2, by rw [upd_ne a1]; exact s5 _ _ a3⟩
        · have : a = u := by simpa using z
          subst this
          exact ⟨nuc, gu, by rw [upd_ne nuc]; exact e5⟩
    · rintro σ H4 ⟨v, tas, rfl, tl, tn, tt, s4, e4⟩
      rw [Int.toNat_natCast] at tl
      have S4 := s4.same nc
      have sp4 := sp3.same S4
      (walk_at "rd")
      refine ⟨by decide, fun de H5 n5' s5 e5 => ?_⟩
      (walk_at "rd")
      refine ⟨by decide, fun nu H6 n6 s6 e6 => ?_⟩
      (walk_at "rd")
      (simp only [a_later])
      have S6 := s5.trans s6
      have sp6 := sp4.same S6
      (walk_at "rd")
      refine ⟨by omega, by omega, fun d nd => ?_⟩
      have npd := sp6.nep nd
      have nld := sp6.nel nd
      refine cl_range (WI p l d m H6) ⟨none, [], rfl, rfl, fun _ z => absurd z (by simp), sp6.upd npd nld, fun b o _ n e => by rw [upd_ne n]; exact e, upd_same⟩ ?_ ?_
      · rintro i σ H7 hi ⟨v, rs, rfl, rl, rr, sp7, k7, e7⟩
        rw [Int.toNat_natCast] at hi
        (walk_at "rd")
        refine ⟨by omega, by omega, fun c2 nc2 => ?_⟩
        have npc2 := sp7.nep nc2
        have nlc2 := sp7.nel nc2
        have ndc2 : d ≠ c2 := ne_of_none e7 nc2
        have gc2 : H6 c2 = none := by
          cases e : H6 c2 with
          | none => rfl
          | some o => rw [k7 _ _ npc2.symm ndc2.symm e] at nc2; cases nc2
        refine cl_range (MadeS p l c2 (fun x => 1 ≤ x ∧ x ≤ 30) [some (.ref p)] H7) (MadeS.zero sp7 nc2) ?_ ?_
        · rintro j σ H8 hj ⟨v, ws, rfl, hl, hbd, sp8, k8, e8⟩
          rw [Int.toNat_natCast] at hj
          (walk_at "rd")
          refine ⟨p, l, 30, rfl, sp8, by decide, by decide, fun r H9 r0 r1' sp9 sx9 => ?_⟩
          have e9 := sx9 _ _ npc2.symm e8
          subst hl
          (try simp only [V.str.injEq, HO.dK.injEq, a_tAug, a_tDisp, a_prs0, a_prs, a_rGetK, a_rSetK, a_tAugS, a_ipI, a_tPar3, a_tListR, a_iS0, a_tPop0, a_tCalK, g3r_is, g2r_is, g2_is, g1_is, a_rNePP, a_iEnum, a_tSeqL, a_tChain, a_tDict, a_tLstA, a_rEqT, a_tIns, a_tRev, a_rSlA, a_rCatA, a_rCatL, a_tSeq, a_tFor, a_rIxL, a_iZip, a_tSortR, a_tSl, a_rSlL0, a_tNoPart, a_tPart, a_tApp, a_tRet, a_tRetN, a_tNext, a_tDrop, a_tAsg, a_gSub, a_gName, a_gNil, a_gCons, a_gTup0, a_rSetL, a_tIfS, a_tAnd, a_tOr, a_tNot, a_tTest, a_tB, a_tTrue, a_tIf, a_tAndV, a_tOrV, a_tNotV, a_tOp, a_tUn, a_rU, a_tVar, a_tC, a_rI0, a_rI, a_rEq, a_rNe, a_rIx0, a_rIn0, a_tCB, a_tCal, a_tCons, a_tNil, a_tTupA, a_tLst, a_tPar, a_tBits, a_tLC, a_iRng1, a_iRng2, a_iT0, a_iL0, a_tEmit, frS, scal, V.ty.injEq, tyN, subN, String.reduceEq, String.reduceBEq, Bool.true_or, Bool.false_or, Bool.or_false, Bool.true_and, Bool.false_and, Bool.and_false, or_true, true_or, beq_self_eq_true, decide_true, decide_false, List.map_cons, List.map_nil, List.length_cons, List.length_nil, List.getElem?_cons_zero, List.getElem?_cons_succ, List.getElem?_nil, List.set_cons_zero, List.set_cons_succ, Option.some.injEq, Option.bind_some, Option.bind_none, id, exists_eq_left', exists_eq_left, exists_and_left, exists_eq_right, V.int.injEq, V.bl.injEq, V.ref.injEq, List.cons.injEq, and_true, true_and, and_assoc, exists_const, atI0, atI1, atI2, ixN30, ixN31, ixN32, upd_same, upd_upd, sq_updL, sq_updT, Nat.zero_add, Nat.reduceAdd, reduceCtorEq, false_and, and_false, exists_false, false_or, or_false, List.length_map, HO.lst.injEq, HO.tup.injEq, Bool.false_eq_true, if_false, if_true, decide_eq_true_eq, ite_true, ite_false, reduceIte, Int.reduceLT, Int.reduceLE, Nat.reduceLT, Int.zero_add, Bool.not_true, Bool.not_false, e9])
          exact ⟨small1000 (by omega), MadeS.more npc2 nlc2 hbd k8 sx9 sp9 ⟨by omega, by omega⟩⟩
        · rintro σ H8 ⟨v, ws, rfl, hl, hbd, sp8, k8, e8⟩
          rw [Int.toNat_natCast] at hl
          have e8d := k8 _ _ npd.symm ndc2 e7
          (try simp only [V.str.injEq, HO.dK.injEq, a_tAug, a_tDisp, a_prs0, a_prs, a_rGetK, a_rSetK, a_tAugS, a_ipI, a_tPar3, a_tListR, a_iS0, a_tPop0, a_tCalK, g3r_is, g2r_is, g2_is, g1_is, a_rNePP, a_iEnum, a_tSeqL, a_tChain, a_tDict, a_tLstA, a_rEqT, a_tIns, a_tRev, a_rSlA, a_rCatA, a_rCatL, a_tSeq, a_tFor, a_rIxL, a_iZip, a_tSortR, a_tSl, a_rSlL0, a_tNoPart, a_tPart, a_tApp, a_tRet, a_tRetN, a_tNext, a_tDrop, a_tAsg, a_gSub, a_gName, a_gNil, a_gCons, a_gTup0, a_rSetL, a_tIfS, a_tAnd, a_tOr, a_tNot, a_tTest, a_tB, a_tTrue, a_tIf, a_tAndV, a_tOrV, a_tNotV, a_tOp, a_tUn, a_rU, a_tVar, a_tC, a_rI0, a_rI, a_rEq, a_rNe, a_rIx0, a_rIn0, a_tCB, a_tCal, a_tCons, a_tNil, a_tTupA, a_tLst, a_tPar, a_tBits, a_tLC, a_iRng1, a_iRng2, a_iT0, a_iL0, a_tEmit, frS, scal, V.ty.injEq, tyN, subN, String.reduceEq, String.reduceBEq, Bool.true_or, Bool.false_or, Bool.or_false, Bool.true_and, Bool.false_and, Bool.and_false, or_true, true_or, beq_self_eq_true, decide_true, decide_false, List.map_cons, List.map_nil, List.length_cons, List.length_nil, List.getElem?_cons_zero, List.getElem?_cons_succ, List.getElem?_nil, List.set_cons_zero, List.set_cons_succ, Option.some.injEq, Option.bind_some, Option.bind_none, id, exists_eq_left', exists_eq_left, exists_and_left, exists_eq_right, V.int.injEq, V.bl.injEq, V.ref.injEq, List.cons.injEq, and_true, true_and, and_assoc, exists_const, atI0, atI1, atI2, ixN30, ixN31, ixN32, upd_same, upd_upd, sq_updL, sq_updT, Nat.zero_add, Nat.reduceAdd, reduceCtorEq, false_and, and_false, exists_false, false_or, or_false, List.length_map, HO.lst.injEq, HO.tup.injEq, Bool.false_eq_true, if_false, if_true, decide_eq_true_eq, ite_true, ite_false, reduceIte, Int.reduceLT, Int.reduceLE, Nat.reduceLT, Int.zero_add, Bool.not_true, Bool.not_false, e8d])
          refine ⟨small1000 (by omega), ⟨_, rs ++ [(c2, ws)], rfl, by rw [List.length_append, rl]; rfl, fun r hr' => ?_, sp8.upd npd nld, fun b o n1 n2 e => by rw [upd_ne n2]; exact k8 b o n1 (ne_of_none (k7 b o n1 n2 e) nc2) (k7 b o n1 n2 e), by rw [upd_same]; simp⟩⟩
          rcases List.mem_append.mp hr' with z | z
          · obtain ⟨a1, a2, a3, a4, a5⟩ := rr r z
            exact ⟨a1, a2, a3, by rw [upd_ne a1]; exact k8 _ _ a2 (ne_of_none a4 nc2) a4, a5⟩
          · have : r = (c2, ws) := by simpa using z
            subst this
            exact ⟨ndc2.symm, npc2.symm, gc2, by rw [upd_ne ndc2.symm]; exact e8, hl, hbd⟩
      · rintro σ H7 ⟨v, rs, rfl, rl, rr, sp7, k7, e7⟩
        rw [Int.toNat_natCast] at rl
        (walk_at "rd")
        (simp only [a_later])
        (walk_at "rd")
        rw [hpow]
        have tw : ∀ a ∈ tas, a ≠ p ∧ a ≠ d ∧ H7 a = some (.lst [.int 0]) := fun a ha => by
          obtain ⟨a1, a2, a3⟩ := tt a ha
          have a6 := S6 _ _ a3
          have ap : a ≠ p := fun z => by
            obtain ⟨_, _, _, _, _, _, y, _⟩ := sp6
            rw [z, y] at a6
            cases a6
          have ad : a ≠ d := ne_of_none a6 nd
          exact ⟨ap, ad, k7 _ _ ap ad a6⟩
        have lk : ∀ {b : Addr} {L : List V}, H6 b = some (.lst L) → H7 b = some (.lst L) := fun {b L} e => by
          refine k7 _ _ (fun z => ?_) (ne_of_none e nd) e
          obtain ⟨_, _, _, _, _, _, y, _⟩ := sp6
          rw [z, y] at e
          cases e
        have e7c := lk (S6 _ _ e4)
        have e7e := lk (s6 _ _ e5)
        have e7n := lk e6
        have nct : c ∉ tas := fun z => (tt c z).1 rfl
        have ndt : d ∉ tas := fun z => (tw d z).2.1 rfl
        have nrt : ∀ r ∈ rs, r.1 ∉ tas := fun r hr' z => by
          have := (rr r hr').2.2.1
          rw [S6 _ _ (tt r.1 z).2.2] at this
          cases this
        have net : de ∉ tas := fun z => by
          rw [(tt de z).2.2] at n5'
          cases n5'
        have nnt : nu ∉ tas := fun z => by
          rw [s5 _ _ (tt nu z).2.2] at n6
          cases n6
        refine ⟨⟨by omega, by omega, by decide⟩, by decide, by decide, by omega, by omega, ?_⟩
        refine fl_range (AH p c de nu d m n tas (rs.map fun r => r.2) H7) ⟨_, _, _, _, _, _, rfl, fun _ _ _ e => e, fun h a ha => ?_⟩ ?_ ?_
        · rw [(tw a (List.mem_of_getElem? ha)).2.2, if_neg (by omega)]
          have : tabL ((rs.map fun r => r.2).getD h []) m (1 + 0) = [0] := by
            rw [show 1 + 0 = 0 + 1 from rfl, tab_snoc]
            show [] ++ [byBits _ ((0 : Nat) : Int) m] = [0]
            rw [show ((0 : Nat) : Int) = 0 from rfl, bits_zero _ m m5]
            rfl
          rw [this]
          rfl
        · rintro i σ H8 hi ⟨v7, v8, v9, v10, v11, v12, rfl, o8, t8⟩
          have hi' : 1 + i < 2 ^ m := by omega
          (walk_at "rd")
          rw [show (1 : Int) + (i : Int) = ((1 + i : Nat) : Int) by omega]
          refine ⟨by omega, by omega, fl_range (AJ p c de nu d m n tas (rs.map fun r => r.2) (1 + i) H7) ⟨_, _, _, _, _, rfl, o8, t8⟩ ?_ ?_⟩
          · rintro j σ H9 hj ⟨w8, w9, w10, w11, w12, rfl, o9, t9⟩
            rw [Int.toNat_natCast] at hj
            obtain ⟨r, hr9⟩ : ∃ r, rs[j]? = some r := ⟨_, List.getElem?_eq_getElem (by omega)⟩
            obtain ⟨ta, hta⟩ : ∃ a, tas[j]? = some a := ⟨_, List.getElem?_eq_getElem (by omega)⟩
            have rmem := List.mem_of_getElem? hr9
            obtain ⟨q1, q2, q3, q4, q5, q6⟩ := rr r rmem
            have e9d := o9 _ _ ndt e7
            have e9r := o9 _ _ (nrt r rmem) q4
            have gw : (rs.map fun r => r.2).getD j [] = r.2 := by rw [List.getD_eq_getElem?_getD, List.getElem?_map, hr9]; rfl
            have e9t := t9 j ta hta
            rw [if_neg (by omega), gw] at e9t
            (walk_at "rd")
            refine ⟨by omega, by omega, fun c3 nc3 => ?_⟩
            have ndc3 : d ≠ c3 := ne_of_none e9d nc3
            have nrc3 : r.1 ≠ c3 := ne_of_none e9r nc3
            refine cl_range (SO c3 d j r.2 (1 + i) H9) ⟨none, [], rfl, Nat.le_refl _, fun _ z => absurd z (by simp), rfl, SameX.upd, upd_same⟩ ?_ ?_
            · rintro t σ H10 ht ⟨v, cs, rfl, cl, cb, csum, s10, e10⟩
              rw [Int.toNat_natCast] at ht
              have hsd := sq_lst (s10 _ _ ndc3 e9d)
              have hsr := sq_lst (s10 _ _ nrc3 e9r)
              have at1 : atI (rs.map fun r => V.ref r.1) (j : Int) = some (.ref r.1) := atI_nat (by rw [List.getElem?_map, hr9]; rfl)
              have at2 : atI (r.2.map V.int) (t : Int) = some (.int (r.2.getD t 0)) := at_int (by omega)
              (walk_at "rd")
              refine ⟨by omega, ?_⟩
              split
              · rename_i cc
                have b1 : bit ((1 + i : Nat) : Int) t = 1 := cc
                (try simp only [V.str.injEq, HO.dK.injEq, a_tAug, a_tDisp, a_prs0, a_prs, a_rGetK, a_rSetK, a_tAugS, a_ipI, a_tPar3, a_tListR, a_iS0, a_tPop0, a_tCalK, g3r_is, g2r_is, g2_is, g1_is, a_rNePP, a_iEnum, a_tSeqL, a_tChain, a_tDict, a_tLstA, a_rEqT, a_tIns, a_tRev, a_rSlA, a_rCatA, a_rCatL, a_tSeq, a_tFor, a_rIxL, a_iZip, a_tSortR, a_tSl, a_rSlL0, a_tNoPart, a_tPart, a_tApp, a_tRet, a_tRetN, a_tNext, a_tDrop, a_tAsg, a_gSub, a_gName, a_gNil, a_gCons, a_gTup0, a_rSetL, a_tIfS, a_tAnd, a_tOr, a_tNot, a_tTest, a_tB, a_tTrue, a_tIf, a_tAndV, a_tOrV, a_tNotV, a_tOp, a_tUn, a_rU, a_tVar, a_tC, a_rI0, a_rI, a_rEq, a_rNe, a_rIx0, a_rIn0, a_tCB, a_tCal, a_tCons, a_tNil, a_tTupA, a_tLst, a_tPar, a_tBits, a_tLC, a_iRng1, a_iRng2, a_iT0, a_iL0, a_tEmit, frS, scal, V.ty.injEq, tyN, subN, String.reduceEq, String.reduceBEq, Bool.true_or, Bool.false_or, Bool.or_false, Bool.true_and, Bool.false_and, Bool.and_false, or_true, true_or, beq_self_eq_true, decide_true, decide_false, List.map_cons, List.map_nil, List.length_cons, List.length_nil, List.getElem?_cons_zero, List.getElem?_cons_succ, List.getElem?_nil, List.set_cons_zero, List.set_cons_succ, Option.some.injEq, Option.bind_some, Option.bind_none, id, exists_eq_left', exists_eq_left, exists_and_left, exists_eq_right, V.int.injEq, V.bl.injEq, V.ref.injEq, List.cons.injEq, and_true, true_and, and_assoc, exists_const, atI0, atI1, atI2, ixN30, ixN31, ixN32, upd_same, upd_upd, sq_updL, sq_updT, Nat.zero_add, Nat.reduceAdd, reduceCtorEq, false_and, and_false, exists_false, false_or, or_false, List.length_map, HO.lst.injEq, HO.tup.injEq, Bool.false_eq_true, if_false, if_true, decide_eq_true_eq, ite_true, ite_false, reduceIte, Int.reduceLT, Int.reduceLE, Nat.reduceLT, Int.zero_add, Bool.not_true, Bool.not_false, hsd, at1, hsr, at2, e10])
                have bx := q6 (r.2.getD t 0) (by rw [List.getD_eq_getElem?_getD, List.getElem?_eq_getElem (by omega)]; exact List.getElem_mem _)
                refine ⟨small1000 (by omega), ⟨_, cs ++ [r.2.getD t 0], rfl, by simp; omega, fun y hy => ?_, ?_, s10.trans SameX.upd, by rw [upd_same]; simp⟩⟩
                · rcases List.mem_append.mp hy with z | z
                  · exact cb y z
                  · have : y = r.2.getD t 0 := by simpa using z
                    omega
                · rw [byBits_succ, b1, List.sum_append, csum]
                  simp
              · rename_i cc
                have b1 : bit ((1 + i : Nat) : Int) t = 0 := (bit_or (by omega) (by omega)).resolve_right cc
                exact ⟨_, cs, rfl, by omega, cb, by rw [byBits_succ, b1, csum]; simp, s10, e10⟩
            · rintro σ H10 ⟨v, cs, rfl, cl, cb, csum, s10, e10⟩
              rw [Int.toNat_natCast] at cl csum
              have S10 := s10.same nc3
              have hsc := sq_lst (S10 _ _ (o9 _ _ nct e7c))
              have at3 : atI (tas.map V.ref) (j : Int) = some (.ref ta) := atI_nat (by rw [List.getElem?_map, hta]; rfl)
              have e10t := S10 _ _ e9t
              have hsx := sq_lst e10
              (walk_at "rd")
              (simp only [a_later])
              (try simp only [V.str.injEq, HO.dK.injEq, a_tAug, a_tDisp, a_prs0, a_prs, a_rGetK, a_rSetK, a_tAugS, a_ipI, a_tPar3, a_tListR, a_iS0, a_tPop0, a_tCalK, g3r_is, g2r_is, g2_is, g1_is, a_rNePP, a_iEnum, a_tSeqL, a_tChain, a_tDict, a_tLstA, a_rEqT, a_tIns, a_tRev, a_rSlA, a_rCatA, a_rCatL, a_tSeq, a_tFor, a_rIxL, a_iZip, a_tSortR, a_tSl, a_rSlL0, a_tNoPart, a_tPart, a_tApp, a_tRet, a_tRetN, a_tNext, a_tDrop, a_tAsg, a_gSub, a_gName, a_gNil, a_gCons, a_gTup0, a_rSetL, a_tIfS, a_tAnd, a_tOr, a_tNot, a_tTest, a_tB, a_tTrue, a_tIf, a_tAndV, a_tOrV, a_tNotV, a_tOp, a_tUn, a_rU, a_tVar, a_tC, a_rI0, a_rI, a_rEq, a_rNe, a_rIx0, a_rIn0, a_tCB, a_tCal, a_tCons, a_tNil, a_tTupA, a_tLst, a_tPar, a_tBits, a_tLC, a_iRng1, a_iRng2, a_iT0, a_iL0, a_tEmit, frS, scal, V.ty.injEq, tyN, subN, String.reduceEq, String.reduceBEq, Bool.true_or, Bool.false_or, Bool.or_false, Bool.true_and, Bool.false_and, Bool.and_false, or_true, true_or, beq_self_eq_true, decide_true, decide_false, List.map_cons, List.map_nil, List.length_cons, List.length_nil, List.getElem?_cons_zero, List.getElem?_cons_succ, List.getElem?_nil, List.set_cons_zero, List.set_cons_succ, Option.some.injEq, Option.bind_some, Option.bind_none, id, exists_eq_left', exists_eq_left, exists_and_left, exists_eq_right, V.int.injEq, V.bl.injEq, V.ref.injEq, List.cons.injEq, and_true, true_and, and_assoc, exists_const, atI0, atI1, atI2, ixN30, ixN31, ixN32, upd_same, upd_upd, sq_updL, sq_updT, Nat.zero_add, Nat.reduceAdd, reduceCtorEq, false_and, and_false, exists_false, false_or, or_false, List.length_map, HO.lst.injEq, HO.tup.injEq, Bool.false_eq_true, if_false, if_true, decide_eq_true_eq, ite_true, ite_false, reduceIte, Int.reduceLT, Int.reduceLE, Nat.reduceLT, Int.zero_add, Bool.not_true, Bool.not_false, hsc, at3, e10t])
              have tam := List.mem_of_getElem? hta
              have e40 : (2 : Int) ^ 40 = 1099511627776 := by decide
              refine ⟨cs, hsx, sumFits_of (fun n hn => by have := cb n hn; omega) (by omega), small1000 (by rw [tab_len]; omega), _, _, _, _, _, rfl, fun b' o' nb' e => ?_, fun h a ha => ?_⟩
              · rw [upd_ne (fun z => nb' (by rw [z]; exact tam))]
                exact S10 _ _ (o9 _ _ nb' e)
              · by_cases z : h = j
                · subst z
                  rw [hta] at ha
                  cases ha
                  rw [upd_same, if_pos (by omega), gw, tab_snoc, csum]
                  simp [q5]
                · have ne : a ≠ ta := fun y => z (nodup_at tn ha (by rw [y]; exact hta))
                  rw [upd_ne ne]
                  have := S10 _ _ (t9 h a ha)
                  rw [this]
                  by_cases y : h < j
                  · rw [if_pos y, if_pos (by omega)]
                  · rw [if_neg y, if_neg (by omega)]
          · rintro σ H9 ⟨w8, w9, w10, w11, w12, rfl, o9, t9⟩
            rw [Int.toNat_natCast] at t9
            refine ⟨_, _, _, _, _, _, rfl, o9, fun h a ha => ?_⟩
            have := t9 h a ha
            have hl : h < n := by have := (List.getElem?_eq_some_iff.mp ha).1; omega
            rw [if_pos hl] at this
            rw [if_neg (by omega), this]
            rfl
        · rintro σ H8 ⟨v7, v8, v9, v10, v11, v12, rfl, o8, t8⟩
          have e8c := o8 _ _ nct e7c
          have e8d := o8 _ _ ndt e7
          have e8e := o8 _ _ net e7e
          have e8n := o8 _ _ nnt e7n
          have r8 : ∀ r ∈ rs, H8 r.1 = some (.lst (r.2.map V.int)) := fun r hr' => o8 _ _ (nrt r hr') (rr r hr').2.2.2.1
          have tb8 : ∀ (h : Nat) (a : Addr), tas[h]? = some a → H8 a = some (.lst ((tabL ((rs.map fun r => r.2).getD h []) m (2 ^ m)).map V.int)) := fun h a ha => by
            have := t8 h a ha
            rw [if_neg (by omega)] at this
            rw [this]
            congr 4
            omega
          have sp8 : Spool H8 p l := by
            obtain ⟨zs, a, g, f', m', x, y1, y2, y3, y4⟩ := sp7
            have lt : l ∉ tas := fun z => by
              obtain ⟨_, _, _, _, _, _, _, u2, _⟩ := sp3
              rw [(tt l z).2.1] at u2
              cases u2
            exact ⟨zs, a, g, f', m', x, o8 _ _ (fun z => (tw p z).1 rfl) y1, o8 _ _ lt y2, y3, y4⟩
          (simp only [a_later])
          (walk_at "rd")
          refine ⟨p, l, 3, rfl, sp8, by decide, by decide, fun r3 H9 r30 r31 sp9 sx9 => ?_⟩
          have lp : ∀ {b : Addr} {L : List V}, H8 b = some (.lst L) → H9 b = some (.lst L) := fun {b L} e => by
            refine sx9 _ _ (fun z => ?_) e
            obtain ⟨_, _, _, _, _, _, y, _⟩ := sp8
            rw [z, y] at e
            cases e
          (walk_at "rd")
          obtain ⟨b, hb'⟩ : ∃ b, b = 1 + r3 := ⟨_, rfl⟩
          rw [← hb']
          have e9d := lp e8d
          have e9e := lp e8e
          have e9n := lp e8n
          have r9 : ∀ r ∈ rs, H9 r.1 = some (.lst (r.2.map V.int)) := fun r hr' => lp (r8 r hr')
          have nne : nu ≠ de := fun z => by
            rw [z, e5] at n6
            cases n6
          (simp only [a_later])
          (walk_at "rd")
          refine ⟨by omega, by omega, fl_range (AT p c de nu d m n b (rs.map fun r => r.2) H9) ⟨_, _, _, _, _, [], [], rfl, rfl, rfl, fun t ht => absurd ht (by omega), fun _ _ _ _ e => e, e9n, e9e⟩ ?_ ?_⟩
          · rintro t σ H10 ht ⟨u7, u8, u9, u11, u12, ns, ds, rfl, nl, dl, al, k10, e10n, e10e⟩
            rw [Int.toNat_natCast] at ht
            have lq : ∀ {b : Addr} {L : List V}, b ≠ nu → b ≠ de → H9 b = some (.lst L) → H10 b = some (.lst L) := fun n1 n2 e => k10 _ _ n1 n2 e
            have ndn : d ≠ nu := fun z => by rw [z, e9n] at e9d; injection e9d with e9d; injection e9d with e9d; have := congrArg List.length e9d; simp at this; omega
            have ndd : d ≠ de := fun z => by rw [z, e9e] at e9d; injection e9d with e9d; injection e9d with e9d; have := congrArg List.length e9d; simp at this; omega
            have e10d := k10 _ _ ndn ndd e9d
            have r10 : ∀ r ∈ rs, H10 r.1 = some (.lst (r.2.map V.int)) := fun r hr' => by
              have l1 := (rr r hr').2.2.2.2.1
              have e := r9 r hr'
              refine k10 _ _ (fun z => ?_) (fun z => ?_) e
              · rw [z, e9n] at e; injection e with e; injection e with e; have := congrArg List.length e; simp at this; omega
              · rw [z, e9e] at e; injection e with e; injection e with e; have := congrArg List.length e; simp at this; omega
            (walk_at "rd")
            refine ⟨by omega, by omega, fun c4 nc4 => ?_⟩
            have ndc4 : d ≠ c4 := ne_of_none e10d nc4
            refine cl_range (SPr c4 d t (rs.map fun r => r.2) H10) ⟨none, [], rfl, rfl, fun _ _ z => absurd z (by simp), SameX.upd, upd_same⟩ ?_ ?_
            · rintro g σ H11 hg ⟨v, qs, rfl, ql, qq, s11, e11⟩
              rw [Int.toNat_natCast] at hg
              obtain ⟨r, hr9⟩ : ∃ r, rs[g]? = some r := ⟨_, List.getElem?_eq_getElem (by omega)⟩
              have rmem := List.mem_of_getElem? hr9
              have q5 := (rr r rmem).2.2.2.2.1
              have gw : (rs.map fun r => r.2).getD g [] = r.2 := by rw [List.getD_eq_getElem?_getD, List.getElem?_map, hr9]; rfl
              have e10r := r10 r rmem
              have hsd := sq_lst (s11 _ _ ndc4 e10d)
              have hsr := sq_lst (s11 _ _ (ne_of_none e10r nc4) e10r)
              have at1 : atI (rs.map fun r => V.ref r.1) (g : Int) = some (.ref r.1) := atI_nat (by rw [List.getElem?_map, hr9]; rfl)
              have at2 : atI (r.2.map V.int) (t : Int) = some (.int (r.2.getD t 0)) := at_int (by omega)
              (try simp only [V.str.injEq, HO.dK.injEq, a_tAug, a_tDisp, a_prs0, a_prs, a_rGetK, a_rSetK, a_tAugS, a_ipI, a_tPar3, a_tListR, a_iS0, a_tPop0, a_tCalK, g3r_is, g2r_is, g2_is, g1_is, a_rNePP, a_iEnum, a_tSeqL, a_tChain, a_tDict, a_tLstA, a_rEqT, a_tIns, a_tRev, a_rSlA, a_rCatA, a_rCatL, a_tSeq, a_tFor, a_rIxL, a_iZip, a_tSortR, a_tSl, a_rSlL0, a_tNoPart, a_tPart, a_tApp, a_tRet, a_tRetN, a_tNext, a_tDrop, a_tAsg, a_gSub, a_gName, a_gNil, a_gCons, a_gTup0, a_rSetL, a_tIfS, a_tAnd, a_tOr, a_tNot, a_tTest, a_tB, a_tTrue, a_tIf, a_tAndV, a_tOrV, a_tNotV, a_tOp, a_tUn, a_rU, a_tVar, a_tC, a_rI0, a_rI, a_rEq, a_rNe, a_rIx0, a_rIn0, a_tCB, a_tCal, a_tCons, a_tNil, a_tTupA, a_tLst, a_tPar, a_tBits, a_tLC, a_iRng1, a_iRng2, a_iT0, a_iL0, a_tEmit, frS, scal, V.ty.injEq, tyN, subN, String.reduceEq, String.reduceBEq, Bool.true_or, Bool.false_or, Bool.or_false, Bool.true_and, Bool.false_and, Bool.and_false, or_true, true_or, beq_self_eq_true, decide_true, decide_false, List.map_cons, List.map_nil, List.length_cons, List.length_nil, List.getElem?_cons_zero, List.getElem?_cons_succ, List.getElem?_nil, List.set_cons_zero, List.set_cons_succ, Option.some.injEq, Option.bind_some, Option.bind_none, id, exists_eq_left', exists_eq_left, exists_and_left, exists_eq_right, V.int.injEq, V.bl.injEq, V.ref.injEq, List.cons.injEq, and_true, true_and, and_assoc, exists_const, atI0, atI1, atI2, ixN30, ixN31, ixN32, upd_same, upd_upd, sq_updL, sq_updT, Nat.zero_add, Nat.reduceAdd, reduceCtorEq, false_and, and_false, exists_false, false_or, or_false, List.length_map, HO.lst.injEq, HO.tup.injEq, Bool.false_eq_true, if_false, if_true, decide_eq_true_eq, ite_true, ite_false, reduceIte, Int.reduceLT, Int.reduceLE, Nat.reduceLT, Int.zero_add, Bool.not_true, Bool.not_false, hsd, at1, hsr, at2])
              refine ⟨by decide, fun T2 H12 n12 s12 e12 => ?_⟩
              have e12c := s12 _ _ e11
              have ntc : T2 ≠ c4 := fun z => by rw [z, e11] at n12; cases n12
              refine ⟨_, e12c, small1000 (by rw [List.length_map]; omega), _, qs ++ [(T2, r.2.getD t 0, (g : Int))], rfl, by rw [List.length_append, ql]; rfl, fun k r' hr' => ?_, (s11.trans s12.x).trans SameX.upd, by rw [upd_same]; simp⟩
              rcases Nat.lt_or_ge k qs.length with z | z
              · rw [List.getElem?_append_left z] at hr'
                obtain ⟨a1, a2, a3⟩ := qq k r' hr'
                exact ⟨by rw [upd_ne (fun y => by rw [y, e11] at a1; cases a1)]; exact s12 _ _ a1, a2, a3⟩
              · rw [List.getElem?_append_right z] at hr'
                have hk0 : k - qs.length = 0 := by
                  have := (List.getElem?_eq_some_iff.mp hr').1
                  simp at this
                  omega
                rw [hk0] at hr'
                have : (T2, r.2.getD t 0, (g : Int)) = r' := by simpa using hr'
                subst this
                exact ⟨by rw [upd_ne ntc]; exact e12, by show (g : Int) = (k : Int); omega, by rw [show k = g by omega, gw]⟩
            · rintro σ H11 ⟨v, qs, rfl, ql, qq, s11, e11⟩
              rw [Int.toNat_natCast] at ql
              have S11 := s11.same nc4
              have e11n := S11 _ _ e10n
              have e11e := S11 _ _ e10e
              have RK : ∀ H' : Hp, (∀ b L, H11 b = some (.tup L) → H' b = some (.tup L)) → RowsK H' (qs.map fun r => (r.1, [Ky.i r.2.1, Ky.i r.2.2])) := fun H' st => by
                refine ⟨fun r hr => ?_, [none, none], fun r hr => ?_⟩
                · obtain ⟨r', hr', rfl⟩ := List.mem_map.mp hr
                  obtain ⟨k, hk⟩ := List.getElem?_of_mem hr'
                  refine ⟨st _ _ (qq k r' hk).1, fun y hy => ?_⟩
                  have : y = .i r'.2.1 ∨ y = .i r'.2.2 := by simpa using hy
                  rcases this with rfl | rfl <;> trivial
                · obtain ⟨r', hr', rfl⟩ := List.mem_map.mp hr
                  rfl
              have qne : (qs.map fun r => (r.1, [Ky.i r.2.1, Ky.i r.2.2])) ≠ [] := fun z => by
                have := congrArg List.length z
                simp at this
                rw [this] at ql
                simp at ql
                omega
              have top : ∀ m', m' ∈ (qs.map fun r => (r.1, [Ky.i r.2.1, Ky.i r.2.2])) → (∀ r ∈ (qs.map fun r => (r.1, [Ky.i r.2.1, Ky.i r.2.2])), HT.lexLt (flatK m'.2) (flatK r.2) = false) → ∃ g r', g < n ∧ qs[g]? = some r' ∧ m' = (r'.1, [Ky.i r'.2.1, Ky.i r'.2.2]) ∧ ∀ k, k < n → ((rs.map fun r => r.2).getD k []).getD t 0 ≤ ((rs.map fun r => r.2).getD g []).getD t 0 := fun m' hm' hx => by
                obtain ⟨r', hr', rfl⟩ := List.mem_map.mp hm'
                obtain ⟨g, hg⟩ := List.getElem?_of_mem hr'
                refine ⟨g, r', by have := (List.getElem?_eq_some_iff.mp hg).1; omega, hg, rfl, fun k hk => ?_⟩
                obtain ⟨r2, hr2⟩ : ∃ r2, qs[k]? = some r2 := ⟨_, List.getElem?_eq_getElem (by omega)⟩
                have := pair_le (hx (r2.1, [Ky.i r2.2.1, Ky.i r2.2.2]) (List.mem_map.mpr ⟨r2, List.mem_of_getElem? hr2, rfl⟩))
                rw [← (qq k r2 hr2).2.2, ← (qq g r' hg).2.2]
                exact this
              have hsq : ∀ H' : Hp, H' c4 = some (.lst (qs.map fun r => V.ref r.1)) → sq H' c4 = some ((qs.map fun r => (r.1, [Ky.i r.2.1, Ky.i r.2.2])).map fun r => V.ref r.1) := fun H' e => by rw [sq_lst e, List.map_map]; rfl
              have ncn : c4 ≠ nu := fun z => by rw [z, e10n] at nc4; cases nc4
              have nce : c4 ≠ de := fun z => by rw [z, e10e] at nc4; cases nc4
              (walk_at "rd")
              (simp only [a_later])
              (try simp only [V.str.injEq, HO.dK.injEq, a_tAug, a_tDisp, a_prs0, a_prs, a_rGetK, a_rSetK, a_tAugS, a_ipI, a_tPar3, a_tListR, a_iS0, a_tPop0, a_tCalK, g3r_is, g2r_is, g2_is, g1_is, a_rNePP, a_iEnum, a_tSeqL, a_tChain, a_tDict, a_tLstA, a_rEqT, a_tIns, a_tRev, a_rSlA, a_rCatA, a_rCatL, a_tSeq, a_tFor, a_rIxL, a_iZip, a_tSortR, a_tSl, a_rSlL0, a_tNoPart, a_tPart, a_tApp, a_tRet, a_tRetN, a_tNext, a_tDrop, a_tAsg, a_gSub, a_gName, a_gNil, a_gCons, a_gTup0, a_rSetL, a_tIfS, a_tAnd, a_tOr, a_tNot, a_tTest, a_tB, a_tTrue, a_tIf, a_tAndV, a_tOrV, a_tNotV, a_tOp, a_tUn, a_rU, a_tVar, a_tC, a_rI0, a_rI, a_rEq, a_rNe, a_rIx0, a_rIn0, a_tCB, a_tCal, a_tCons, a_tNil, a_tTupA, a_tLst, a_tPar, a_tBits, a_tLC, a_iRng1, a_iRng2, a_iT0, a_iL0, a_tEmit, frS, scal, V.ty.injEq, tyN, subN, String.reduceEq, String.reduceBEq, Bool.true_or, Bool.false_or, Bool.or_false, Bool.true_and, Bool.false_and, Bool.and_false, or_true, true_or, beq_self_eq_true, decide_true, decide_false, List.map_cons, List.map_nil, List.length_cons, List.length_nil, List.getElem?_cons_zero, List.getElem?_cons_succ, List.getElem?_nil, List.set_cons_zero, List.set_cons_succ, Option.some.injEq, Option.bind_some, Option.bind_none, id, exists_eq_left', exists_eq_left, exists_and_left, exists_eq_right, V.int.injEq, V.bl.injEq, V.ref.injEq, List.cons.injEq, and_true, true_and, and_assoc, exists_const, atI0, atI1, atI2, ixN30, ixN31, ixN32, upd_same, upd_upd, sq_updL, sq_updT, Nat.zero_add, Nat.reduceAdd, reduceCtorEq, false_and, and_false, exists_false, false_or, or_false, List.length_map, HO.lst.injEq, HO.tup.injEq, Bool.false_eq_true, if_false, if_true, decide_eq_true_eq, ite_true, ite_false, reduceIte, Int.reduceLT, Int.reduceLE, Nat.reduceLT, Int.zero_add, Bool.not_true, Bool.not_false, e11n])
              refine ⟨_, hsq H11 e11, RK H11 (fun _ _ e => e), qne, fun m1 hm1 hx1 => ?_⟩
              obtain ⟨g1, r1', g1n, hg1, rfl, top1⟩ := top m1 hm1 hx1
              have hs1 := sq_tup (qq g1 r1' hg1).1
              (try simp only [V.str.injEq, HO.dK.injEq, a_tAug, a_tDisp, a_prs0, a_prs, a_rGetK, a_rSetK, a_tAugS, a_ipI, a_tPar3, a_tListR, a_iS0, a_tPop0, a_tCalK, g3r_is, g2r_is, g2_is, g1_is, a_rNePP, a_iEnum, a_tSeqL, a_tChain, a_tDict, a_tLstA, a_rEqT, a_tIns, a_tRev, a_rSlA, a_rCatA, a_rCatL, a_tSeq, a_tFor, a_rIxL, a_iZip, a_tSortR, a_tSl, a_rSlL0, a_tNoPart, a_tPart, a_tApp, a_tRet, a_tRetN, a_tNext, a_tDrop, a_tAsg, a_gSub, a_gName, a_gNil, a_gCons, a_gTup0, a_rSetL, a_tIfS, a_tAnd, a_tOr, a_tNot, a_tTest, a_tB, a_tTrue, a_tIf, a_tAndV, a_tOrV, a_tNotV, a_tOp, a_tUn, a_rU, a_tVar, a_tC, a_rI0, a_rI, a_rEq, a_rNe, a_rIx0, a_rIn0, a_tCB, a_tCal, a_tCons, a_tNil, a_tTupA, a_tLst, a_tPar, a_tBits, a_tLC, a_iRng1, a_iRng2, a_iT0, a_iL0, a_tEmit, frS, scal, V.ty.injEq, tyN, subN, String.reduceEq, String.reduceBEq, Bool.true_or, Bool.false_or, Bool.or_false, Bool.true_and, Bool.false_and, Bool.and_false, or_true, true_or, beq_self_eq_true, decide_true, decide_false, List.map_cons, List.map_nil, List.length_cons, List.length_nil, List.getElem?_cons_zero, List.getElem?_cons_succ, List.getElem?_nil, List.set_cons_zero, List.set_cons_succ, Option.some.injEq, Option.bind_some, Option.bind_none, id, exists_eq_left', exists_eq_left, exists_and_left, exists_eq_right, V.int.injEq, V.bl.injEq, V.ref.injEq, List.cons.injEq, and_true, true_and, and_assoc, exists_const, atI0, atI1, atI2, ixN30, ixN31, ixN32, upd_same, upd_upd, sq_updL, sq_updT, Nat.zero_add, Nat.reduceAdd, reduceCtorEq, false_and, and_false, exists_false, false_or, or_false, List.length_map, HO.lst.injEq, HO.tup.injEq, Bool.false_eq_true, if_false, if_true, decide_eq_true_eq, ite_true, ite_false, reduceIte, Int.reduceLT, Int.reduceLE, Nat.reduceLT, Int.zero_add, Bool.not_true, Bool.not_false, hs1])
              refine ⟨.inl ⟨by omega, by omega⟩, small1000 (by omega), ?_⟩
              have e12e : upd H11 nu (.lst (ns.map V.int ++ [V.int (b * r1'.2.1)])) de = some (.lst (ds.map V.int)) := by rw [upd_ne nne.symm]; exact e11e
              have e12c : upd H11 nu (.lst (ns.map V.int ++ [V.int (b * r1'.2.1)])) c4 = some (.lst (qs.map fun r => V.ref r.1)) := by rw [upd_ne ncn]; exact e11
              have st12 : ∀ b' L, H11 b' = some (.tup L) → upd H11 nu (.lst (ns.map V.int ++ [V.int (b * r1'.2.1)])) b' = some (.tup L) := fun b' L e => by
                rw [upd_ne (fun z => by rw [z, e11n] at e; cases e)]
                exact e
              (simp only [a_later])
              (try simp only [V.str.injEq, HO.dK.injEq, a_tAug, a_tDisp, a_prs0, a_prs, a_rGetK, a_rSetK, a_tAugS, a_ipI, a_tPar3, a_tListR, a_iS0, a_tPop0, a_tCalK, g3r_is, g2r_is, g2_is, g1_is, a_rNePP, a_iEnum, a_tSeqL, a_tChain, a_tDict, a_tLstA, a_rEqT, a_tIns, a_tRev, a_rSlA, a_rCatA, a_rCatL, a_tSeq, a_tFor, a_rIxL, a_iZip, a_tSortR, a_tSl, a_rSlL0, a_tNoPart, a_tPart, a_tApp, a_tRet, a_tRetN, a_tNext, a_tDrop, a_tAsg, a_gSub, a_gName, a_gNil, a_gCons, a_gTup0, a_rSetL, a_tIfS, a_tAnd, a_tOr, a_tNot, a_tTest, a_tB, a_tTrue, a_tIf, a_tAndV, a_tOrV, a_tNotV, a_tOp, a_tUn, a_rU, a_tVar, a_tC, a_rI0, a_rI, a_rEq, a_rNe, a_rIx0, a_rIn0, a_tCB, a_tCal, a_tCons, a_tNil, a_tTupA, a_tLst, a_tPar, a_tBits, a_tLC, a_iRng1, a_iRng2, a_iT0, a_iL0, a_tEmit, frS, scal, V.ty.injEq, tyN, subN, String.reduceEq, String.reduceBEq, Bool.true_or, Bool.false_or, Bool.or_false, Bool.true_and, Bool.false_and, Bool.and_false, or_true, true_or, beq_self_eq_true, decide_true, decide_false, List.map_cons, List.map_nil, List.length_cons, List.length_nil, List.getElem?_cons_zero, List.getElem?_cons_succ, List.getElem?_nil, List.set_cons_zero, List.set_cons_succ, Option.some.injEq, Option.bind_some, Option.bind_none, id, exists_eq_left', exists_eq_left, exists_and_left, exists_eq_right, V.int.injEq, V.bl.injEq, V.ref.injEq, List.cons.injEq, and_true, true_and, and_assoc, exists_const, atI0, atI1, atI2, ixN30, ixN31, ixN32, upd_same, upd_upd, sq_updL, sq_updT, Nat.zero_add, Nat.reduceAdd, reduceCtorEq, false_and, and_false, exists_false, false_or, or_false, List.length_map, HO.lst.injEq, HO.tup.injEq, Bool.false_eq_true, if_false, if_true, decide_eq_true_eq, ite_true, ite_false, reduceIte, Int.reduceLT, Int.reduceLE, Nat.reduceLT, Int.zero_add, Bool.not_true, Bool.not_false, e12e])
              refine ⟨_, hsq _ e12c, RK _ st12, qne, fun m2 hm2 hx2 => ?_⟩
              obtain ⟨g2, r2', g2n, hg2, rfl, top2⟩ := top m2 hm2 hx2
              have hs2 := sq_tup (st12 _ _ (qq g2 r2' hg2).1)
              (try simp only [V.str.injEq, HO.dK.injEq, a_tAug, a_tDisp, a_prs0, a_prs, a_rGetK, a_rSetK, a_tAugS, a_ipI, a_tPar3, a_tListR, a_iS0, a_tPop0, a_tCalK, g3r_is, g2r_is, g2_is, g1_is, a_rNePP, a_iEnum, a_tSeqL, a_tChain, a_tDict, a_tLstA, a_rEqT, a_tIns, a_tRev, a_rSlA, a_rCatA, a_rCatL, a_tSeq, a_tFor, a_rIxL, a_iZip, a_tSortR, a_tSl, a_rSlL0, a_tNoPart, a_tPart, a_tApp, a_tRet, a_tRetN, a_tNext, a_tDrop, a_tAsg, a_gSub, a_gName, a_gNil, a_gCons, a_gTup0, a_rSetL, a_tIfS, a_tAnd, a_tOr, a_tNot, a_tTest, a_tB, a_tTrue, a_tIf, a_tAndV, a_tOrV, a_tNotV, a_tOp, a_tUn, a_rU, a_tVar, a_tC, a_rI0, a_rI, a_rEq, a_rNe, a_rIx0, a_rIn0, a_tCB, a_tCal, a_tCons, a_tNil, a_tTupA, a_tLst, a_tPar, a_tBits, a_tLC, a_iRng1, a_iRng2, a_iT0, a_iL0, a_tEmit, frS, scal, V.ty.injEq, tyN, subN, String.reduceEq, String.reduceBEq, Bool.true_or, Bool.false_or, Bool.or_false, Bool.true_and, Bool.false_and, Bool.and_false, or_true, true_or, beq_self_eq_true, decide_true, decide_false, List.map_cons, List.map_nil, List.length_cons, List.length_nil, List.getElem?_cons_zero, List.getElem?_cons_succ, List.getElem?_nil, List.set_cons_zero, List.set_cons_succ, Option.some.injEq, Option.bind_some, Option.bind_none, id, exists_eq_left', exists_eq_left, exists_and_left, exists_eq_right, V.int.injEq, V.bl.injEq, V.ref.injEq, List.cons.injEq, and_true, true_and, and_assoc, exists_const, atI0, atI1, atI2, ixN30, ixN31, ixN32, upd_same, upd_upd, sq_updL, sq_updT, Nat.zero_add, Nat.reduceAdd, reduceCtorEq, false_and, and_false, exists_false, false_or, or_false, List.length_map, HO.lst.injEq, HO.tup.injEq, Bool.false_eq_true, if_false, if_true, decide_eq_true_eq, ite_true, ite_false, reduceIte, Int.reduceLT, Int.reduceLE, Nat.reduceLT, Int.zero_add, Bool.not_true, Bool.not_false, hs2])
              refine ⟨small1000 (by omega), _, _, _, _, _, ns ++ [b * r1'.2.1], ds ++ [r2'.2.2], rfl, by rw [List.length_append, nl]; rfl, by rw [List.length_append, dl]; rfl, fun t' ht' => ?_, fun b' o' n1 n2 e => by rw [upd_ne n2, upd_ne n1]; exact S11 _ _ (k10 _ _ n1 n2 e), by rw [upd_ne nne, upd_same]; simp, by rw [upd_same]; simp⟩
              rcases Nat.lt_or_ge t' t with z | z
              · obtain ⟨h, h1, h2, h3, h4⟩ := al t' z
                refine ⟨h, h1, ?_, ?_, h4⟩
                · rw [List.getD_eq_getElem?_getD, List.getElem?_append_left (by omega), ← List.getD_eq_getElem?_getD]
                  exact h2
                · rw [List.getD_eq_getElem?_getD, List.getElem?_append_left (by omega), ← List.getD_eq_getElem?_getD]
                  exact h3
              · have et : t' = t := by omega
                subst et
                have w1 := (qq g1 r1' hg1).2.2
                have w2 := (qq g2 r2' hg2)
                have eq := Int.le_antisymm (top2 g1 g1n) (top1 g2 g2n)
                refine ⟨g2, g2n, ?_, ?_, top2⟩
                · rw [List.getD_eq_getElem?_getD, ← dl, List.getElem?_concat_length]
                  exact w2.2.1
                · rw [List.getD_eq_getElem?_getD, ← nl, List.getElem?_concat_length, nl, ← eq]
                  show b * r1'.2.1 = _
                  rw [w1]
          · rintro σ H10 ⟨u7, u8, u9, u11, u12, ns, ds, rfl, nl, dl, al, k10, e10n, e10e⟩
            rw [Int.toNat_natCast] at nl dl al
            have k910 : ∀ {x : Addr} {o : HO}, x ≠ nu → x ≠ de → H9 x = some o → H10 x = some o := fun n1 n2 e => k10 _ _ n1 n2 e
            have pn : p ≠ nu := (sp4.same s5).nep n6
            have pe : p ≠ de := sp4.nep n5'
            have ln' : l ≠ nu := (sp4.same s5).nel n6
            have le' : l ≠ de := sp4.nel n5'
            have sp10 : Spool H10 p l := by
              obtain ⟨zs, a, g, f', m', x, y1, y2, y3, y4⟩ := sp9
              exact ⟨zs, a, g, f', m', x, k910 pn pe y1, k910 ln' le' y2, y3, y4⟩
            have cn' : c ≠ nu := fun z => by rw [z] at e4; rw [s5 _ _ e4] at n6; cases n6
            have ce' : c ≠ de := fun z => by rw [z] at e4; rw [e4] at n5'; cases n5'
            have e10c := k910 cn' ce' (lp e8c)
            have tb10 : ∀ (h : Nat) (a : Addr), tas[h]? = some a → H10 a = some (.lst ((tabL ((rs.map fun r => r.2).getD h []) m (2 ^ m)).map V.int)) := fun h a ha => by
              have am := List.mem_of_getElem? ha
              exact k910 (fun z => nnt (by rw [← z]; exact am)) (fun z => net (by rw [← z]; exact am)) (lp (tb8 h a ha))
            (simp only [a_later])
            (walk_at "rd")
            refine ⟨by omega, by omega, fun e ne => ?_⟩
            have npe := sp10.nep ne
            have nle := sp10.nel ne
            refine cl_range (MadeS p l e (fun x => x = 0 ∨ x = 1) [some (.ref p)] H10) (MadeS.zero sp10 ne) ?_ ?_
            · rintro j σ H11 hj ⟨v, ws, rfl, hl, hbd, sp11, k11, e11⟩
              rw [Int.toNat_natCast] at hj
              (walk_at "rd")
              refine ⟨p, l, 2, rfl, sp11, by decide, by decide, fun r H12 r0 r1' sp12 sx12 => ?_⟩
              have e12 := sx12 _ _ npe.symm e11
              subst hl
              (try simp only [V.str.injEq, HO.dK.injEq, a_tAug, a_tDisp, a_prs0, a_prs, a_rGetK, a_rSetK, a_tAugS, a_ipI, a_tPar3, a_tListR, a_iS0, a_tPop0, a_tCalK, g3r_is, g2r_is, g2_is, g1_is, a_rNePP, a_iEnum, a_tSeqL, a_tChain, a_tDict, a_tLstA, a_rEqT, a_tIns, a_tRev, a_rSlA, a_rCatA, a_rCatL, a_tSeq, a_tFor, a_rIxL, a_iZip, a_tSortR, a_tSl, a_rSlL0, a_tNoPart, a_tPart, a_tApp, a_tRet, a_tRetN, a_tNext, a_tDrop, a_tAsg, a_gSub, a_gName, a_gNil, a_gCons, a_gTup0, a_rSetL, a_tIfS, a_tAnd, a_tOr, a_tNot, a_tTest, a_tB, a_tTrue, a_tIf, a_tAndV, a_tOrV, a_tNotV, a_tOp, a_tUn, a_rU, a_tVar, a_tC, a_rI0, a_rI, a_rEq, a_rNe, a_rIx0, a_rIn0, a_tCB, a_tCal, a_tCons, a_tNil, a_tTupA, a_tLst, a_tPar, a_tBits, a_tLC, a_iRng1, a_iRng2, a_iT0, a_iL0, a_tEmit, frS, scal, V.ty.injEq, tyN, subN, String.reduceEq, String.reduceBEq, Bool.true_or, Bool.false_or, Bool.or_false, Bool.true_and, Bool.false_and, Bool.and_false, or_true, true_or, beq_self_eq_true, decide_true, decide_false, List.map_cons, List.map_nil, List.length_cons, List.length_nil, List.getElem?_cons_zero, List.getElem?_cons_succ, List.getElem?_nil, List.set_cons_zero, List.set_cons_succ, Option.some.injEq, Option.bind_some, Option.bind_none, id, exists_eq_left', exists_eq_left, exists_and_left, exists_eq_right, V.int.injEq, V.bl.injEq, V.ref.injEq, List.cons.injEq, and_true, true_and, and_assoc, exists_const, atI0, atI1, atI2, ixN30, ixN31, ixN32, upd_same, upd_upd, sq_updL, sq_updT, Nat.zero_add, Nat.reduceAdd, reduceCtorEq, false_and, and_false, exists_false, false_or, or_false, List.length_map, HO.lst.injEq, HO.tup.injEq, Bool.false_eq_true, if_false, if_true, decide_eq_true_eq, ite_true, ite_false, reduceIte, Int.reduceLT, Int.reduceLE, Nat.reduceLT, Int.zero_add, Bool.not_true, Bool.not_false, e12])
              exact ⟨small1000 (by omega), MadeS.more npe nle hbd k11 sx12 sp12 (by omega)⟩
            · rintro σ H11 ⟨v, ss, rfl, hl, hbd, sp11, k11, e11⟩
              rw [Int.toNat_natCast] at hl
              refine ⟨_, e11, fun sa H12 nsa s12 e12 => ?_⟩
              have lk12 : ∀ {x : Addr} {L : List V}, H10 x = some (.lst L) → H12 x = some (.lst L) := fun {x L} ex => by
                refine s12 _ _ (k11 _ _ (fun z => ?_) (ne_of_none ex ne) ex)
                obtain ⟨_, _, _, _, _, _, y, _⟩ := sp10
                rw [z, y] at ex
                cases ex
              have e12t := lk12 e10c
              have e12n := lk12 e10n
              have e12e := lk12 e10e
              have tb12 : ∀ (h : Nat) (a : Addr), tas[h]? = some a → H12 a = some (.lst ((tabL ((rs.map fun r => r.2).getD h []) m (2 ^ m)).map V.int)) := fun h a ha => lk12 (tb10 h a ha)
              (simp only [a_later])
              (try simp only [V.str.injEq, HO.dK.injEq, a_tAug, a_tDisp, a_prs0, a_prs, a_rGetK, a_rSetK, a_tAugS, a_ipI, a_tPar3, a_tListR, a_iS0, a_tPop0, a_tCalK, g3r_is, g2r_is, g2_is, g1_is, a_rNePP, a_iEnum, a_tSeqL, a_tChain, a_tDict, a_tLstA, a_rEqT, a_tIns, a_tRev, a_rSlA, a_rCatA, a_rCatL, a_tSeq, a_tFor, a_rIxL, a_iZip, a_tSortR, a_tSl, a_rSlL0, a_tNoPart, a_tPart, a_tApp, a_tRet, a_tRetN, a_tNext, a_tDrop, a_tAsg, a_gSub, a_gName, a_gNil, a_gCons, a_gTup0, a_rSetL, a_tIfS, a_tAnd, a_tOr, a_tNot, a_tTest, a_tB, a_tTrue, a_tIf, a_tAndV, a_tOrV, a_tNotV, a_tOp, a_tUn, a_rU, a_tVar, a_tC, a_rI0, a_rI, a_rEq, a_rNe, a_rIx0, a_rIn0, a_tCB, a_tCal, a_tCons, a_tNil, a_tTupA, a_tLst, a_tPar, a_tBits, a_tLC, a_iRng1, a_iRng2, a_iT0, a_iL0, a_tEmit, frS, scal, V.ty.injEq, tyN, subN, String.reduceEq, String.reduceBEq, Bool.true_or, Bool.false_or, Bool.or_false, Bool.true_and, Bool.false_and, Bool.and_false, or_true, true_or, beq_self_eq_true, decide_true, decide_false, List.map_cons, List.map_nil, List.length_cons, List.length_nil, List.getElem?_cons_zero, List.getElem?_cons_succ, List.getElem?_nil, List.set_cons_zero, List.set_cons_succ, Option.some.injEq, Option.bind_some, Option.bind_none, id, exists_eq_left', exists_eq_left, exists_and_left, exists_eq_right, V.int.injEq, V.bl.injEq, V.ref.injEq, List.cons.injEq, and_true, true_and, and_assoc, exists_const, atI0, atI1, atI2, ixN30, ixN31, ixN32, upd_same, upd_upd, sq_updL, sq_updT, Nat.zero_add, Nat.reduceAdd, reduceCtorEq, false_and, and_false, exists_false, false_or, or_false, List.length_map, HO.lst.injEq, HO.tup.injEq, Bool.false_eq_true, if_false, if_true, decide_eq_true_eq, ite_true, ite_false, reduceIte, Int.reduceLT, Int.reduceLE, Nat.reduceLT, Int.zero_add, Bool.not_true, Bool.not_false, e12t])
              intro wl nwl
              refine cl_seq (WT wl m (rs.map fun r => r.2) H12) ⟨none, [], rfl, rfl, fun _ _ z => absurd z (by simp), SameX.upd, upd_same⟩ (fun j σ H' _ ⟨_, _, _, _, _, s, _⟩ => s _ _ (ne_of_none e12t nwl) e12t) ?_ ?_
              · rintro j x σ H13 hx ⟨v, ts, rfl, tl', tq, s13, e13⟩
                rw [List.getElem?_map] at hx
                obtain ⟨ta, hta, rfl⟩ := Option.map_eq_some_iff.mp hx
                have hj : j < tas.length := (List.getElem?_eq_some_iff.mp hta).1
                have e12a := tb12 j ta hta
                have e13a := s13 _ _ (ne_of_none e12a nwl) e12a
                (try simp only [V.str.injEq, HO.dK.injEq, a_tAug, a_tDisp, a_prs0, a_prs, a_rGetK, a_rSetK, a_tAugS, a_ipI, a_tPar3, a_tListR, a_iS0, a_tPop0, a_tCalK, g3r_is, g2r_is, g2_is, g1_is, a_rNePP, a_iEnum, a_tSeqL, a_tChain, a_tDict, a_tLstA, a_rEqT, a_tIns, a_tRev, a_rSlA, a_rCatA, a_rCatL, a_tSeq, a_tFor, a_rIxL, a_iZip, a_tSortR, a_tSl, a_rSlL0, a_tNoPart, a_tPart, a_tApp, a_tRet, a_tRetN, a_tNext, a_tDrop, a_tAsg, a_gSub, a_gName, a_gNil, a_gCons, a_gTup0, a_rSetL, a_tIfS, a_tAnd, a_tOr, a_tNot, a_tTest, a_tB, a_tTrue, a_tIf, a_tAndV, a_tOrV, a_tNotV, a_tOp, a_tUn, a_rU, a_tVar, a_tC, a_rI0, a_rI, a_rEq, a_rNe, a_rIx0, a_rIn0, a_tCB, a_tCal, a_tCons, a_tNil, a_tTupA, a_tLst, a_tPar, a_tBits, a_tLC, a_iRng1, a_iRng2, a_iT0, a_iL0, a_tEmit, frS, scal, V.ty.injEq, tyN, subN, String.reduceEq, String.reduceBEq, Bool.true_or, Bool.false_or, Bool.or_false, Bool.true_and, Bool.false_and, Bool.and_false, or_true, true_or, beq_self_eq_true, decide_true, decide_false, List.map_cons, List.map_nil, List.length_cons, List.length_nil, List.getElem?_cons_zero, List.getElem?_cons_succ, List.getElem?_nil, List.set_cons_zero, List.set_cons_succ, Option.some.injEq, Option.bind_some, Option.bind_none, id, exists_eq_left', exists_eq_left, exists_and_left, exists_eq_right, V.int.injEq, V.bl.injEq, V.ref.injEq, List.cons.injEq, and_true, true_and, and_assoc, exists_const, atI0, atI1, atI2, ixN30, ixN31, ixN32, upd_same, upd_upd, sq_updL, sq_updT, Nat.zero_add, Nat.reduceAdd, reduceCtorEq, false_and, and_false, exists_false, false_or, or_false, List.length_map, HO.lst.injEq, HO.tup.injEq, Bool.false_eq_true, if_false, if_true, decide_eq_true_eq, ite_true, ite_false, reduceIte, Int.reduceLT, Int.reduceLE, Nat.reduceLT, Int.zero_add, Bool.not_true, Bool.not_false, e13a])
                intro t0 H14 n14 s14 e14
                have e14w := s14 _ _ e13
                have ntw : t0 ≠ wl := fun z => by rw [z, e13] at n14; cases n14
                (try simp only [V.str.injEq, HO.dK.injEq, a_tAug, a_tDisp, a_prs0, a_prs, a_rGetK, a_rSetK, a_tAugS, a_ipI, a_tPar3, a_tListR, a_iS0, a_tPop0, a_tCalK, g3r_is, g2r_is, g2_is, g1_is, a_rNePP, a_iEnum, a_tSeqL, a_tChain, a_tDict, a_tLstA, a_rEqT, a_tIns, a_tRev, a_rSlA, a_rCatA, a_rCatL, a_tSeq, a_tFor, a_rIxL, a_iZip, a_tSortR, a_tSl, a_rSlL0, a_tNoPart, a_tPart, a_tApp, a_tRet, a_tRetN, a_tNext, a_tDrop, a_tAsg, a_gSub, a_gName, a_gNil, a_gCons, a_gTup0, a_rSetL, a_tIfS, a_tAnd, a_tOr, a_tNot, a_tTest, a_tB, a_tTrue, a_tIf, a_tAndV, a_tOrV, a_tNotV, a_tOp, a_tUn, a_rU, a_tVar, a_tC, a_rI0, a_rI, a_rEq, a_rNe, a_rIx0, a_rIn0, a_tCB, a_tCal, a_tCons, a_tNil, a_tTupA, a_tLst, a_tPar, a_tBits, a_tLC, a_iRng1, a_iRng2, a_iT0, a_iL0, a_tEmit, frS, scal, V.ty.injEq, tyN, subN, String.reduceEq, String.reduceBEq, Bool.true_or, Bool.false_or, Bool.or_false, Bool.true_and, Bool.false_and, Bool.and_false, or_true, true_or, beq_self_eq_true, decide_true, decide_false, List.map_cons, List.map_nil, List.length_cons, List.length_nil, List.getElem?_cons_zero, List.getElem?_cons_succ, List.getElem?_nil, List.set_cons_zero, List.set_cons_succ, Option.some.injEq, Option.bind_some, Option.bind_none, id, exists_eq_left', exists_eq_left, exists_and_left, exists_eq_right, V.int.injEq, V.bl.injEq, V.ref.injEq, List.cons.injEq, and_true, true_and, and_assoc, exists_const, atI0, atI1, atI2, ixN30, ixN31, ixN32, upd_same, upd_upd, sq_updL, sq_updT, Nat.zero_add, Nat.reduceAdd, reduceCtorEq, false_and, and_false, exists_false, false_or, or_false, List.length_map, HO.lst.injEq, HO.tup.injEq, Bool.false_eq_true, if_false, if_true, decide_eq_true_eq, ite_true, ite_false, reduceIte, Int.reduceLT, Int.reduceLE, Nat.reduceLT, Int.zero_add, Bool.not_true, Bool.not_false, e14w])
                refine ⟨small1000 (by omega), _, ts ++ [(t0, tabL ((rs.map fun r => r.2).getD j []) m (2 ^ m))], rfl, by rw [List.length_append, tl']; rfl, fun k t' ht' => ?_, (s13.trans s14.x).trans SameX.upd, by rw [upd_same]; simp⟩
                rcases Nat.lt_or_ge k ts.length with z | z
                · rw [List.getElem?_append_left z] at ht'
                  obtain ⟨a1, a2⟩ := tq k t' ht'
                  exact ⟨by rw [upd_ne (fun y => by rw [y, e13] at a1; cases a1)]; exact s14 _ _ a1, a2⟩
                · rw [List.getElem?_append_right z] at ht'
                  have hk0 : k - ts.length = 0 := by
                    have := (List.getElem?_eq_some_iff.mp ht').1
                    simp at this
                    omega
                  rw [hk0] at ht'
                  have : (t0, tabL ((rs.map fun r => r.2).getD j []) m (2 ^ m)) = t' := by simpa using ht'
                  subst this
                  exact ⟨by rw [upd_ne ntw]; exact e14, by rw [show k = j by omega]⟩
              · rintro σ H13 ⟨v, ts, rfl, tl', tq, s13, e13⟩
                rw [List.length_map] at tl'
                have S13 := s13.same nwl
                (try simp only [V.str.injEq, HO.dK.injEq, a_tAug, a_tDisp, a_prs0, a_prs, a_rGetK, a_rSetK, a_tAugS, a_ipI, a_tPar3, a_tListR, a_iS0, a_tPop0, a_tCalK, g3r_is, g2r_is, g2_is, g1_is, a_rNePP, a_iEnum, a_tSeqL, a_tChain, a_tDict, a_tLstA, a_rEqT, a_tIns, a_tRev, a_rSlA, a_rCatA, a_rCatL, a_tSeq, a_tFor, a_rIxL, a_iZip, a_tSortR, a_tSl, a_rSlL0, a_tNoPart, a_tPart, a_tApp, a_tRet, a_tRetN, a_tNext, a_tDrop, a_tAsg, a_gSub, a_gName, a_gNil, a_gCons, a_gTup0, a_rSetL, a_tIfS, a_tAnd, a_tOr, a_tNot, a_tTest, a_tB, a_tTrue, a_tIf, a_tAndV, a_tOrV, a_tNotV, a_tOp, a_tUn, a_rU, a_tVar, a_tC, a_rI0, a_rI, a_rEq, a_rNe, a_rIx0, a_rIn0, a_tCB, a_tCal, a_tCons, a_tNil, a_tTupA, a_tLst, a_tPar, a_tBits, a_tLC, a_iRng1, a_iRng2, a_iT0, a_iL0, a_tEmit, frS, scal, V.ty.injEq, tyN, subN, String.reduceEq, String.reduceBEq, Bool.true_or, Bool.false_or, Bool.or_false, Bool.true_and, Bool.false_and, Bool.and_false, or_true, true_or, beq_self_eq_true, decide_true, decide_false, List.map_cons, List.map_nil, List.length_cons, List.length_nil, List.getElem?_cons_zero, List.getElem?_cons_succ, List.getElem?_nil, List.set_cons_zero, List.set_cons_succ, Option.some.injEq, Option.bind_some, Option.bind_none, id, exists_eq_left', exists_eq_left, exists_and_left, exists_eq_right, V.int.injEq, V.bl.injEq, V.ref.injEq, List.cons.injEq, and_true, true_and, and_assoc, exists_const, atI0, atI1, atI2, ixN30, ixN31, ixN32, upd_same, upd_upd, sq_updL, sq_updT, Nat.zero_add, Nat.reduceAdd, reduceCtorEq, false_and, and_false, exists_false, false_or, or_false, List.length_map, HO.lst.injEq, HO.tup.injEq, Bool.false_eq_true, if_false, if_true, decide_eq_true_eq, ite_true, ite_false, reduceIte, Int.reduceLT, Int.reduceLE, Nat.reduceLT, Int.zero_add, Bool.not_true, Bool.not_false, e13])
                intro wa H14 n14 s14 e14
                refine ⟨by decide, fun tww H15 n15 s15 e15 => ⟨_, (s14.trans s15) _ _ (S13 _ _ e12n), fun na H16 n16 s16 e16 => ⟨_, ((s14.trans s15).trans s16) _ _ (S13 _ _ e12e), fun da H17 n17 s17 e17 => ⟨by decide, fun th H18 n18 s18 e18 => ⟨by decide, fun r H19 n19 s19 e19 => ?_⟩⟩⟩⟩⟩
                have S19 := s18.trans s19
                have S18 := s17.trans S19
                have S17 := s16.trans S18
                have S16 := s15.trans S17
                have S15 := s14.trans S16
                have S1219 := S13.trans S15
                have tn' : ts.length = n := by omega
                have wl' : (rs.map fun r => r.2).length = n := by rw [List.length_map]; exact rl
                have wr : ∀ k, k < n → (rs.map fun r => r.2).getD k [] ∈ (rs.map fun r => r.2) := fun k hk => by
                  rw [List.getD_eq_getElem?_getD, List.getElem?_eq_getElem (by omega)]
                  exact List.getElem_mem _
                have wrow : ∀ ws ∈ (rs.map fun r => r.2), ws.length = m ∧ ∀ x ∈ ws, 1 ≤ x ∧ x ≤ 30 := fun ws hw => by
                  obtain ⟨r', hr', rfl⟩ := List.mem_map.mp hw
                  exact ⟨(rr r' hr').2.2.2.2.1, (rr r' hr').2.2.2.2.2⟩
                refine q r tww sa wa th na da ts ss (rs.map fun r => r.2) b ns ds H19 e19 ⟨S17 _ _ e15, S16 _ _ e14, by omega, by omega, fun t ht => ?_⟩ (S1219 _ _ e12) (by omega) (by omega) (s19 _ _ e18) (by omega) (by omega) (S18 _ _ e16) (S19 _ _ e17) ?_ ?_ (sp11.same (s12.trans S1219)) (fun x o nx ex => ?_)
                · obtain ⟨k, hk⟩ := List.getElem?_of_mem ht
                  have hkn : k < n := by have := (List.getElem?_eq_some_iff.mp hk).1; omega
                  obtain ⟨a1, a2⟩ := tq k t hk
                  refine ⟨S15 _ _ a1, by rw [a2, tab_len, hl], fun y hy => ?_⟩
                  rw [a2] at hy
                  exact tab_bd (wrow _ (wr k hkn)).2 m5 y hy
                · rw [hl]
                  refine List.ext_getElem? fun k => ?_
                  rw [List.getElem?_map, List.getElem?_map]
                  cases ek : ts[k]? with
                  | none =>
                    have : ts.length ≤ k := List.getElem?_eq_none_iff.mp ek
                    rw [List.getElem?_eq_none (by omega)]
                    rfl
                  | some t =>
                    have hkn : k < n := by have := (List.getElem?_eq_some_iff.mp ek).1; omega
                    have a2 := (tq k t ek).2
                    rw [List.getD_eq_getElem?_getD] at a2
                    cases ew : (rs.map fun r => r.2)[k]? with
                    | none =>
                      have := List.getElem?_eq_none_iff.mp ew
                      omega
                    | some ws =>
                      rw [ew] at a2
                      show some t.2 = some (tabL ws m (2 ^ m))
                      rw [a2]
                      rfl
                · rw [hl, tn']
                  exact ⟨wl', wrow, by omega, by omega, al⟩
                · have x3 := sxa x o nx ex
                  have x4 := S4 _ _ x3
                  have x6 := S6 _ _ x4
                  have x7 := k7 _ _ nx (ne_of_none x6 nd) x6
                  have xt : x ∉ tas := fun z => by
                    rw [(tt x z).2.1] at x3
                    cases x3
                  have x9 := sx9 _ _ nx (o8 _ _ xt x7)
                  have x10 := k10 _ _ (ne_of_none (s5 _ _ x4) n6) (ne_of_none x4 n5') x9
                  exact S1219 _ _ (s12 _ _ (k11 _ _ nx (ne_of_none x10 ne) x10))
end
end K44
end
section
set_option Elab.async false
set_option linter.all false
set_option maxRecDepth 100000
set_option maxHeartbeats 8000000
namespace K44
open PySem L2
section
variable {P : Program} {w : World} {K : PySem.W.Frag} {mg : Str → Option Value} {base : Heap} {f : Addr} {fd : FuncData}
theorem gain_le {b : Int} {ws ns : List Int} {m k : Nat} (m5 : m ≤ 5) (hk : k < 32) (h : ∀ t, t < m → b * ws.getD t 0 ≤ ns.getD t 0) : ∀ j, j ≤ m → b * byBits ws (k : Int) j - byBits ns (k : Int) j ≤ 0
  | 0, _ => by
    have e1 : byBits ws (k : Int) 0 = 0 := rfl
    have e2 : byBits ns (k : Int) 0 = 0 := rfl
    rw [e1, e2]
    simp
  | j + 1, hj => by
    have ih := gain_le m5 hk h j (by omega)
    have g := h j (by omega)
    rw [byBits_succ, byBits_succ, Int.mul_add]
    rcases bit_or hk (show j < 5 by omega) with z | z
    · rw [z, Int.mul_zero, Int.mul_zero, Int.mul_zero]
      omega
    · rw [z, Int.mul_one, Int.mul_one]
      omega
theorem gain_own {b : Int} {ws ns : List Int} {m K' : Nat} (h : ∀ t, t < m → bit (K' : Int) t = 0 ∨ (bit (K' : Int) t = 1 ∧ b * ws.getD t 0 = ns.getD t 0)) : ∀ j, j ≤ m → b * byBits ws (K' : Int) j - byBits ns (K' : Int) j = 0
  | 0, _ => by
    have e1 : byBits ws (K' : Int) 0 = 0 := rfl
    have e2 : byBits ns (K' : Int) 0 = 0 := rfl
    rw [e1, e2]
    simp
  | j + 1, hj => by
    have ih := gain_own h j (by omega)
    rw [byBits_succ, byBits_succ, Int.mul_add]
    rcases h j (by omega) with z | ⟨z, g⟩
    · rw [z, Int.mul_zero, Int.mul_zero, Int.mul_zero]
      omega
    · rw [z, Int.mul_one, Int.mul_one]
      omega
theorem al_meets {W : List (List Int)} {m : Nat} {b : Int} {ns ds : List Int} {ts : List (Addr × List Int)} (m5 : m ≤ 5) (b0 : 0 ≤ b) (A : Al W m ts.length b ns ds) (e : (ts.map fun t => t.2) = W.map (fun ws => tabL ws m (2 ^ m))) : meetB ts b ns ds = true := by
  have hp := pow32 m5
  have hb : ∀ (s : Int) (t : Nat), t < m → bit ((hos ds s ds.length : Nat) : Int) t = if ds.getD t 0 = s then 1 else 0 := fun s t ht => by
    rw [hos_bit ds s ds.length (by rw [A.dl]; omega) t (by omega)]
    have : t < ds.length := by rw [A.dl]; exact ht
    simp [this]
  unfold meetB
  rw [Bool.and_eq_true]
  constructor
  · rw [List.all_eq_true]
    intro x hx
    unfold bestsB at hx
    obtain ⟨g, hg, rfl⟩ := List.mem_map.mp hx
    have hg' := List.mem_range.mp hg
    have et : (ts.getD g (0, [])).2 = tabL (W.getD g []) m (2 ^ m) := by
      have e1 := congrArg (fun L => L[g]?) e
      simp only [List.getElem?_map] at e1
      rw [List.getElem?_eq_getElem hg', List.getElem?_eq_getElem (by rw [A.len]; exact hg')] at e1
      rw [List.getD_eq_getElem?_getD, List.getD_eq_getElem?_getD, List.getElem?_eq_getElem hg', List.getElem?_eq_getElem (by rw [A.len]; exact hg')]
      simpa using e1
    have ga : ∀ k, k < 2 ^ m → gainAt b (tabL (W.getD g []) m (2 ^ m)) ns k = b * byBits (W.getD g []) (k : Int) m - byBits ns (k : Int) m := fun k hk => by
      unfold gainAt tabL
      rw [A.nl]
      simp [List.getD_eq_getElem?_getD, hk]
    show id (bestB b ns (ts.getD g (0, [])).2 (hos ds (g : Int) ds.length)) = true
    rw [et]
    unfold bestB
    refine decide_eq_true fun k hk => ?_
    rw [tab_len] at hk
    have hl := hos_lt ds (g : Int) ds.length
    rw [A.dl] at hl
    rw [ga k hk, ga _ (by rw [A.dl]; exact hl)]
    have lo := gain_le (b := b) (ws := W.getD g []) (ns := ns) m5 (show k < 32 by omega) (fun t ht => by
      obtain ⟨h, h1, h2, h3, h4⟩ := A.at' t ht
      rw [h3]
      exact Int.mul_le_mul_of_nonneg_left (h4 g hg') b0) m (Nat.le_refl _)
    have ow := gain_own (b := b) (ws := W.getD g []) (ns := ns) (m := m) (K' := hos ds (g : Int) ds.length) (fun t ht => by
      rw [hb (g : Int) t ht]
      by_cases z : ds.getD t 0 = (g : Int)
      · rw [if_pos z]
        obtain ⟨h, h1, h2, h3, h4⟩ := A.at' t ht
        have : h = g := by omega
        subst this
        exact .inr ⟨rfl, h3.symm⟩
      · rw [if_neg z]
        exact .inl rfl) m (Nat.le_refl _)
    omega
  · unfold leftB
    refine decide_eq_true fun t ht e1 => ?_
    rw [A.nl] at ht
    obtain ⟨h, h1, h2, h3, h4⟩ := A.at' t ht
    omega
end
end K44
end
section
set_option Elab.async false
set_option linter.all false
set_option maxRecDepth 100000
set_option maxHeartbeats 8000000
namespace K44
open PySem L2
local macro_rules | `(tactic| walk_at "rd") => `(tactic| (try simp only [V.str.injEq, HO.dK.injEq, a_tAug, a_tDisp, a_prs0, a_prs, a_rGetK, a_rSetK, a_tAugS, a_ipI, a_tPar3, a_tListR, a_iS0, a_tPop0, a_tCalK, g3r_is, g2r_is, g2_is, g1_is, a_rNePP, a_iEnum, a_tSeqL, a_tChain, a_tDict, a_tLstA, a_rEqT, a_tIns, a_tRev, a_rSlA, a_rCatA, a_rCatL, a_tSeq, a_tFor, a_rIxL, a_iZip, a_tSortR, a_tSl, a_rSlL0, a_tNoPart, a_tPart, a_tApp, a_tRet, a_tRetN, a_tNext, a_tDrop, a_tAsg, a_gSub, a_gName, a_gNil, a_gCons, a_gTup0, a_rSetL, a_tIfS, a_tAnd, a_tOr, a_tNot, a_tTest, a_tB, a_tTrue, a_tIf, a_tAndV, a_tOrV, a_tNotV, a_tOp, a_tUn, a_rU, a_tVar, a_tC, a_rI0, a_rI, a_rEq, a_rNe, a_rIx0, a_rIn0, a_tCB, a_tCal, a_tCons, a_tNil, a_tTupA, a_tLst, a_tPar, a_tBits, a_tLC, a_iRng1, a_iRng2, a_iT0, a_iL0, a_tEmit, frS, scal, V.ty.injEq, tyN, subN, String.reduceEq, String.reduceBEq, Bool.true_or, Bool.false_or, Bool.or_false, Bool.true_and, Bool.false_and, Bool.and_false, or_true, true_or, beq_self_eq_true, decide_true, decide_false, List.map_cons, List.map_nil, List.length_cons, List.length_nil, List.getElem?_cons_zero, List.getElem?_cons_succ, List.getElem?_nil, List.set_cons_zero, List.set_cons_succ, Option.some.injEq, Option.bind_some, Option.bind_none, id, exists_eq_left', exists_eq_left, exists_and_left, exists_eq_right, V.int.injEq, V.bl.injEq, V.ref.injEq, List.cons.injEq, and_true, true_and, and_assoc, exists_const, atI0, atI1, atI2, ixN30, ixN31, ixN32, upd_same, upd_upd, sq_updL, sq_updT, Nat.zero_add, Nat.reduceAdd, reduceCtorEq, false_and, and_false, exists_false, false_or, or_false, List.length_map, HO.lst.injEq, HO.tup.injEq, Bool.false_eq_true, if_false, if_true, decide_eq_true_eq, ite_true, ite_false, reduceIte, Int.reduceLT, Int.reduceLE, Nat.reduceLT, Int.zero_add, Bool.not_true, Bool.not_false]))
section
variable {P : Program} {w : World} {K : PySem.W.Frag} {mg : Str → Option Value} {base : Heap} {f : Addr} {fd : FuncData}
theorem tyN_x {H H' : Hp} {p : Addr} (s : SameX p H H') {x : V} {t : String} (n : x ≠ .ref p) (h : tyN H x = some t) : tyN H' x = some t := by
  cases x with
  | ref a =>
    have na : a ≠ p := fun z => n (by rw [z])
    cases e : H a with
    | none => simp [tyN, e] at h
    | some o => simp only [tyN, e] at h; simp only [tyN, s a o na e]; exact h
  | _ => exact h
theorem pick_mem {L : List V} {r : Int} (r0 : 0 ≤ r) (r1 : r < (L.length : Int)) : ∃ x, atI L r = some x ∧ x ∈ L := by
  obtain ⟨n, rfl⟩ := Int.eq_ofNat_of_zero_le r0
  have h : n < L.length := by omega
  exact ⟨L[n], atI_nat (List.getElem?_eq_getElem h), List.getElem_mem _⟩
theorem cutV_take (xs : List V) (t : Nat) (ht : t ≤ xs.length) : cutV xs none (some (t : Int)) = xs.take t := by
  unfold cutV
  rw [HT.sIx_none, HT.sIx_nat, List.drop_zero, Nat.min_eq_left ht, Nat.sub_zero]
theorem cutV_drop (xs : List V) (t : Nat) (ht : t ≤ xs.length) : cutV xs (some (t : Int)) none = xs.drop t := by
  unfold cutV
  rw [HT.sIx_none, HT.sIx_nat, Nat.min_eq_left ht, List.take_of_length_le (by simp)]
theorem Spool.netx {H : Hp} {p l c : Addr} {L : List V} (sp : Spool H p l) (h : H c = some (.tup L)) : c ≠ p := fun z => by
  obtain ⟨_, _, _, _, _, _, y, _⟩ := sp
  rw [z, y] at h
  cases h
theorem Spool.nelx {H : Hp} {p l c : Addr} {L : List V} (sp : Spool H p l) (h : H c = some (.lst L)) : c ≠ p := fun z => by
  obtain ⟨_, _, _, _, _, _, y, _⟩ := sp
  rw [z, y] at h
  cases h
theorem tyT {H : Hp} {a : Addr} {L : List V} (h : H a = some (.tup L)) : tyN H (.ref a) = some "tuple" := by simp [tyN, h]
theorem tyL {H : Hp} {a : Addr} {L : List V} (h : H a = some (.lst L)) : tyN H (.ref a) = some "list" := by simp [tyN, h]
theorem put_bad {xs : List V} {y : V} {m : Nat} {pr : V → Bool} {k : Nat} (hy : pr y = false) : (xs.take k ++ [y] ++ xs.drop (k + 1)).all pr = false := by
  rw [List.all_append, List.all_append]
  simp [hy]
theorem kn_put {H : Hp} {xs : List V} {y : V} {t : String} (k : Nat) (hx : Kn H xs) (hy : tyN H y = some t) : Kn H (xs.take k ++ [y] ++ xs.drop (k + 1)) := fun x h => by
  rcases List.mem_append.mp h with z | z
  · rcases List.mem_append.mp z with z | z
    · exact hx x (List.mem_of_mem_take z)
    · rw [List.mem_singleton.mp z]
      exact ⟨t, hy⟩
  · exact hx x (List.mem_of_mem_drop z)
def sp_bad : Sp := fun vs H Q _ => ∃ (p l tw sa wa th na da : Addr) (m : Nat) (ts : List (Addr × List Int)) (b : Int) (ns ds : List Int), vs = [.ref p, .ref tw, .ref th] ∧ Spool H p l ∧ Rows H tw sa wa ts m ∧ 1 ≤ m ∧ H th = some (.tup [.int b, .ref na, .ref da]) ∧ 1 ≤ b ∧ H na = some (.tup (ns.map V.int)) ∧ H da = some (.tup (ds.map V.int)) ∧ ns.length = m ∧ ds.length = m ∧ (∀ x ∈ ns, 0 ≤ x) ∧ (∀ x ∈ ds, 0 ≤ x ∧ x < (ts.length : Int)) ∧ ∀ (x : V) (H' : Hp), Sh H' m ts x false → Spool H' p l → SameX p H H' → Q x H'
def DP (p tw th na da : Addr) (b at' wy : Int) (G : Hp) (i : Nat) (σ : St) (H : Hp) : Prop := ∃ (v8 v9 v11 : Option V) (d : Addr) (zs : List V), σ = [some (.ref p), some (.ref tw), some (.ref th), some (.int b), some (.ref na), some (.ref da), some (.int at'), some (.int wy), v8, v9, some (.ref d), v11] ∧ Same G H ∧ H d = some (.tup zs) ∧ zs.length ≤ 1
theorem sc__law_bad : FnScope ["_law_spool_here", "_law_town", "_law_thing", "_law_by", "_law_numbers", "_law_dealing", "_law_at", "_law_way", "_law_odd", "_law_some", "_law_deep", "_law_k"] ["_law_spool_here", "_law_town", "_law_thing"] (defScope s__law_bad) := ⟨rfl, rfl, rfl, by decide +kernel, rfl, by decide +kernel, by decide +kernel⟩
theorem ok_bad (F : Fun K "_law_bad" "_law_bad" s__law_bad f fd) (hm : mg "_law_bad" = some (.ref f)) (hb : Binds K fd ["_law_spool_here", "_law_town", "_law_thing"] []) (T : Txt mg) (c__law_draw : Cal P w K mg base "_law_draw" ["_law_spool_here", "_law_many"] 2 spDraw) : Cal P w K mg base "_law_bad" ["_law_spool_here", "_law_town", "_law_thing"] 3 sp_bad := by
  refine cal_of F hm hb sc__law_bad (fun vs H Q E h => ?_) (fun cdv A outer s H vs Q E hr h => ?_)
  · obtain ⟨_, _, _, _, _, _, _, _, _, _, _, _, _, rfl, _⟩ := h; rfl
  · obtain ⟨p, l, tw, sa, wa, th, na, da, m, ts, b, ns, ds, rfl, sp, R, m1, hth, b1, hna, hda, nl, dl, n0, d0, q⟩ := h
    have sc := sc__law_bad
    have m5 := R.five
    refine ⟨_, pss_consL (ps_asg (pv 2) (pg_tup0 (n := 3) rfl (pgs_cons (pg_name (i := 3) sc.nd rfl (Or.inl rfl)) (pgs_cons (pg_name (i := 4) sc.nd rfl (Or.inl rfl)) (pgs_cons (pg_name (i := 5) sc.nd rfl (Or.inl rfl)) pgs_nil)))))
      (pss_consL (ps_set (i := 6) sc.nd rfl (Or.inl rfl) (pe_cal c__law_draw hr (pa_cns (pv 0) (pa_cns (pe_callB len0 rfl T.len_ bt_len (pa_cns (pv 4) pa_nil)) pa_nil))))
      (pss_consL (ps_set (i := 7) sc.nd rfl (Or.inl rfl) (pe_cal c__law_draw hr (pa_cns (pv 0) (pa_cns pe_int pa_nil))))
      (pss_consL (ps_if (pt_cmpR op_eq (pv 7) pe_int (nomark _)) (pss_one (ps_ret (pe_tupA (pa_cns (pe_ix ix0 (pe_lstA (pa_cns pe_int (pa_cns (pe_un un_neg pe_int) (pa_cns pe_bl (pa_cns pe_non (pa_cns pe_str (pa_cns (pe_tupA (pa_cns pe_int pa_nil)) (pa_cns (pe_lstA (pa_cns (pv 3) pa_nil)) pa_nil)))))))) (pe_cal c__law_draw hr (pa_cns (pv 0) (pa_cns pe_int pa_nil))) (fun _ _ => rfl)) (pa_cns (pv 4) (pa_cns (pv 5) pa_nil)))))) pss_nil)
      (pss_consL (ps_if (pt_cmpR op_eq (pv 7) pe_int (nomark _)) (pss_consL (ps_set (i := 8) sc.nd rfl (Or.inl rfl) (pe_ix ix0 (pe_lstA (pa_cns (pe_un un_neg pe_int) (pa_cns pe_bl (pa_cns pe_non (pa_cns pe_str (pa_cns (pe_tupA (pa_cns pe_int pa_nil)) (pa_cns (pe_lstA (pa_cns pe_int pa_nil)) pa_nil))))))) (pe_cal c__law_draw hr (pa_cns (pv 0) (pa_cns pe_int pa_nil))) (fun _ _ => rfl)))
      (pss_consL (ps_set (i := 9) sc.nd rfl (Or.inl rfl) (pe_lstA (pa_cns (pe_op catA0 (pe_op catA0 (pe_slice slA0 (pv 4) po_none (po_some (pv 6))) (pe_tupA (pa_cns (pv 8) pa_nil))) (pe_slice slA0 (pv 4) (po_some (pe_op op_add (pv 6) pe_int)) po_none)) (pa_cns (pe_slice slA0 (pv 4) (po_some pe_int) po_none) (pa_cns (pe_op catA0 (pv 4) (pe_tupA (pa_cns pe_int pa_nil))) (pa_cns (pe_callTy listA0 rfl T.list_ bt_list (pa_cns (pv 4) pa_nil)) (pa_cns pe_non (pa_cns (pe_ix ix0 (pv 4) pe_int (fun _ _ => rfl)) pa_nil))))))))
      (pss_one (ps_ret (pe_tupA (pa_cns (pv 3) (pa_cns (pe_ix ix0 (pv 9) (pe_cal c__law_draw hr (pa_cns (pv 0) (pa_cns pe_int pa_nil))) (fun _ _ => rfl)) (pa_cns (pv 5) pa_nil)))))))) pss_nil)
      (pss_consL (ps_if (pt_cmpR op_eq (pv 7) pe_int (nomark _)) (pss_consL (ps_set (i := 8) sc.nd rfl (Or.inl rfl) (pe_ix ix0 (pe_lstA (pa_cns (pe_callB len0 rfl T.len_ bt_len (pa_cns (pe_ix ix0 (pv 1) pe_int (fun _ _ => rfl)) pa_nil)) (pa_cns (pe_un un_neg pe_int) (pa_cns pe_bl (pa_cns pe_non (pa_cns pe_str (pa_cns (pe_tupA (pa_cns pe_int pa_nil)) (pa_cns (pe_lstA (pa_cns pe_int pa_nil)) pa_nil)))))))) (pe_cal c__law_draw hr (pa_cns (pv 0) (pa_cns pe_int pa_nil))) (fun _ _ => rfl)))
      (pss_consL (ps_set (i := 9) sc.nd rfl (Or.inl rfl) (pe_lstA (pa_cns (pe_op catA0 (pe_op catA0 (pe_slice slA0 (pv 5) po_none (po_some (pv 6))) (pe_tupA (pa_cns (pv 8) pa_nil))) (pe_slice slA0 (pv 5) (po_some (pe_op op_add (pv 6) pe_int)) po_none)) (pa_cns (pe_slice slA0 (pv 5) (po_some pe_int) po_none) (pa_cns (pe_op catA0 (pv 5) (pe_tupA (pa_cns (pe_un un_neg pe_int) pa_nil))) (pa_cns (pe_callTy listA0 rfl T.list_ bt_list (pa_cns (pv 5) pa_nil)) (pa_cns pe_non (pa_cns (pe_ix ix0 (pv 5) pe_int (fun _ _ => rfl)) pa_nil))))))))
      (pss_one (ps_ret (pe_tupA (pa_cns (pv 3) (pa_cns (pv 4) (pa_cns (pe_ix ix0 (pv 9) (pe_cal c__law_draw hr (pa_cns (pv 0) (pa_cns pe_int pa_nil))) (fun _ _ => rfl)) pa_nil)))))))) pss_nil)
      (pss_consL (ps_set (i := 10) sc.nd rfl (Or.inl rfl) (pe_tupA pa_nil))
      (pss_consL (ps_for PassesOwn.never rfl (pi_range1 rfl T.range_ (pa_cns pe_int pa_nil)) (pg_name (i := 11) sc.nd rfl (Or.inl rfl))
        (pss_one (ps_set (i := 10) sc.nd rfl (Or.inl rfl) (pe_tupA (pa_cns (pv 10) pa_nil)))))
      (pss_consL (ps_set (i := 9) sc.nd rfl (Or.inl rfl) (pe_lstA (pa_cns (pe_tupA (pa_cns (pv 3) (pa_cns (pv 4) pa_nil))) (pa_cns (pe_tupA (pa_cns (pv 3) (pa_cns (pv 4) (pa_cns (pv 5) (pa_cns pe_int pa_nil))))) (pa_cns (pe_lstA (pa_cns (pv 3) (pa_cns (pv 4) (pa_cns (pv 5) pa_nil)))) (pa_cns (pe_tupA (pa_cns (pv 4) (pa_cns (pv 3) (pa_cns (pv 5) pa_nil)))) (pa_cns (pe_tupA (pa_cns (pv 2) pa_nil)) (pa_cns pe_non pa_nil))))))))
      (pss_consL (ps_set (i := 9) sc.nd rfl (Or.inl rfl) (pe_opQ catL0 (pv 9) (qe_lst (qa_cns (qe_of pe_bl) (qa_cns (qe_of pe_int) (qa_cns (qe_of pe_str) (qa_cns (qe_of (pe_tupA pa_nil)) (qa_cns (qe_of (pe_lstA pa_nil)) (qa_cns (qe_of pe_dict0) (qa_cns (qe_of (pv 10)) (qa_cns (qe_of (pe_tupA (pa_cns (pv 3) (pa_cns (pv 5) (pa_cns (pv 4) (pa_cns (pv 3) pa_nil)))))) (qa_cns (qe_of (pe_op catA0 (pe_tupA (pa_cns pe_str pa_nil)) (pv 2))) qa_nil))))))))))))
      (pss_one (ps_ret (pe_ix ix0 (pv 9) (pe_cal c__law_draw hr (pa_cns (pv 0) (pa_cns pe_int pa_nil))) (fun _ _ => rfl))))))))))))), ?_⟩
    rw [show L2.start ["_law_spool_here", "_law_town", "_law_thing", "_law_by", "_law_numbers", "_law_dealing", "_law_at", "_law_way", "_law_odd", "_law_some", "_law_deep", "_law_k"] [.ref p, .ref tw, .ref th] = [some (.ref p), some (.ref tw), some (.ref th), none, none, none, none, none, none, none, none, none] from rfl]
    (try simp only [V.str.injEq, HO.dK.injEq, a_tAug, a_tDisp, a_prs0, a_prs, a_rGetK, a_rSetK, a_tAugS, a_ipI, a_tPar3, a_tListR, a_iS0, a_tPop0, a_tCalK, g3r_is, g2r_is, g2_is, g1_is, a_rNePP, a_iEnum, a_tSeqL, a_tChain, a_tDict, a_tLstA, a_rEqT, a_tIns, a_tRev, a_rSlA, a_rCatA, a_rCatL, a_tSeq, a_tFor, a_rIxL, a_iZip, a_tSortR, a_tSl, a_rSlL0, a_tNoPart, a_tPart, a_tApp, a_tRet, a_tRetN, a_tNext, a_tDrop, a_tAsg, a_gSub, a_gName, a_gNil, a_gCons, a_gTup0, a_rSetL, a_tIfS, a_tAnd, a_tOr, a_tNot, a_tTest, a_tB, a_tTrue, a_tIf, a_tAndV, a_tOrV, a_tNotV, a_tOp, a_tUn, a_rU, a_tVar, a_tC, a_rI0, a_rI, a_rEq, a_rNe, a_rIx0, a_rIn0, a_tCB, a_tCal, a_tCons, a_tNil, a_tTupA, a_tLst, a_tPar, a_tBits, a_tLC, a_iRng1, a_iRng2, a_iT0, a_iL0, a_tEmit, frS, scal, V.ty.injEq, tyN, subN, String.reduceEq, String.reduceBEq, Bool.true_or, Bool.false_or, Bool.or_false, Bool.true_and, Bool.false_and, Bool.and_false, or_true, true_or, beq_self_eq_true, decide_true, decide_false, List.map_cons, List.map_nil, List.length_cons, List.length_nil, List.getElem?_cons_zero, List.getElem?_cons_succ, List.getElem?_nil, List.set_cons_zero, List.set_cons_succ, Option.some.injEq, Option.bind_some, Option.bind_none, id, exists_eq_left', exists_eq_left, exists_and_left, exists_eq_right, V.int.injEq, V.bl.injEq, V.ref.injEq, List.cons.injEq, and_true, true_and, and_assoc, exists_const, atI0, atI1, atI2, ixN30, ixN31, ixN32, upd_same, upd_upd, sq_updL, sq_updT, Nat.zero_add, Nat.reduceAdd, reduceCtorEq, false_and, and_false, exists_false, false_or, or_false, List.length_map, HO.lst.injEq, HO.tup.injEq, Bool.false_eq_true, if_false, if_true, decide_eq_true_eq, ite_true, ite_false, reduceIte, Int.reduceLT, Int.reduceLE, Nat.reduceLT, Int.zero_add, Bool.not_true, Bool.not_false, hth])
    have hsn := sq_tup hna
    (simp only [a_later])
    (try simp only [V.str.injEq, HO.dK.injEq, a_tAug, a_tDisp, a_prs0, a_prs, a_rGetK, a_rSetK, a_tAugS, a_ipI, a_tPar3, a_tListR, a_iS0, a_tPop0, a_tCalK, g3r_is, g2r_is, g2_is, g1_is, a_rNePP, a_iEnum, a_tSeqL, a_tChain, a_tDict, a_tLstA, a_rEqT, a_tIns, a_tRev, a_rSlA, a_rCatA, a_rCatL, a_tSeq, a_tFor, a_rIxL, a_iZip, a_tSortR, a_tSl, a_rSlL0, a_tNoPart, a_tPart, a_tApp, a_tRet, a_tRetN, a_tNext, a_tDrop, a_tAsg, a_gSub, a_gName, a_gNil, a_gCons, a_gTup0, a_rSetL, a_tIfS, a_tAnd, a_tOr, a_tNot, a_tTest, a_tB, a_tTrue, a_tIf, a_tAndV, a_tOrV, a_tNotV, a_tOp, a_tUn, a_rU, a_tVar, a_tC, a_rI0, a_rI, a_rEq, a_rNe, a_rIx0, a_rIn0, a_tCB, a_tCal, a_tCons, a_tNil, a_tTupA, a_tLst, a_tPar, a_tBits, a_tLC, a_iRng1, a_iRng2, a_iT0, a_iL0, a_tEmit, frS, scal, V.ty.injEq, tyN, subN, String.reduceEq, String.reduceBEq, Bool.true_or, Bool.false_or, Bool.or_false, Bool.true_and, Bool.false_and, Bool.and_false, or_true, true_or, beq_self_eq_true, decide_true, decide_false, List.map_cons, List.map_nil, List.length_cons, List.length_nil, List.getElem?_cons_zero, List.getElem?_cons_succ, List.getElem?_nil, List.set_cons_zero, List.set_cons_succ, Option.some.injEq, Option.bind_some, Option.bind_none, id, exists_eq_left', exists_eq_left, exists_and_left, exists_eq_right, V.int.injEq, V.bl.injEq, V.ref.injEq, List.cons.injEq, and_true, true_and, and_assoc, exists_const, atI0, atI1, atI2, ixN30, ixN31, ixN32, upd_same, upd_upd, sq_updL, sq_updT, Nat.zero_add, Nat.reduceAdd, reduceCtorEq, false_and, and_false, exists_false, false_or, or_false, List.length_map, HO.lst.injEq, HO.tup.injEq, Bool.false_eq_true, if_false, if_true, decide_eq_true_eq, ite_true, ite_false, reduceIte, Int.reduceLT, Int.reduceLE, Nat.reduceLT, Int.zero_add, Bool.not_true, Bool.not_false, hsn])
    refine ⟨p, l, (ns.length : Int), rfl, sp, by omega, by omega, fun at' H1 at0 at1 sp1 sx1 => ?_⟩
    (walk_at "rd")
    (simp only [a_later])
    (walk_at "rd")
    refine ⟨p, l, 4, rfl, sp1, by decide, by decide, fun wy H2 wy0 wy1 sp2 sx2 => ?_⟩
    have sxa := sx1.trans sx2
    have tk : ∀ {x : Addr} {L : List V}, H x = some (.tup L) → H2 x = some (.tup L) := fun {x L} e => sxa _ _ (fun z => by obtain ⟨_, _, _, _, _, _, y, _⟩ := sp; rw [z, y] at e; cases e) e
    have hna2 := tk hna
    have hda2 := tk hda
    have hth2 := tk hth
    have htw2 := sq_tup (tk R.tw)
    have hwa2 := sq_tup (tk R.wa)
    (walk_at "rd")
    (simp only [a_later])
    (walk_at "rd")
    by_cases w0 : wy = 0
    · rw [if_pos w0]
      (walk_at "rd")
      refine ⟨by decide, fun t1 H3 n3 s3 e3 => ⟨by decide, fun t2 H4 n4 s4 e4 => ⟨by decide, fun t3 H5 n5 s5 e5 => ?_⟩⟩⟩
      have S5 := (s3.trans s4).trans s5
      refine ⟨p, l, 7, rfl, sp2.same S5, by decide, by decide, fun r H6 r0 r1 sp6 sx6 => ?_⟩
      obtain ⟨x, hx, xm⟩ := pick_mem r0 (show r < (([V.int 0, V.int (-1), V.bl true, V.non, V.str "1", V.ref t1, V.ref t2] : List V).length : Int) from r1)
      have e5a := s5 _ _ (s4 _ _ e3)
      have e5b := s5 _ _ e4
      have e6a := sx6 _ _ ((sp2.same S5).netx e5a) e5a
      have e6b := sx6 _ _ ((sp2.same S5).nelx e5b) e5b
      have e6c := sx6 _ _ ((sp2.same S5).nelx e5) e5
      refine ⟨_, _, rfl, sq_lst e6c, x, hx, by decide, fun rr H7 n7 s7 e7 => ?_⟩
      have od : ∃ t, tyN H7 x = some t ∧ isFrom 1 x = false := by
        simp only [List.mem_cons, List.not_mem_nil, or_false] at xm
        rcases xm with rfl | rfl | rfl | rfl | rfl | rfl | rfl
        · exact ⟨"int", rfl, by decide⟩
        · exact ⟨"int", rfl, by decide⟩
        · exact ⟨"bool", rfl, rfl⟩
        · exact ⟨"NoneType", rfl, rfl⟩
        · exact ⟨"str", rfl, rfl⟩
        · exact ⟨"tuple", tyT (s7 _ _ e6a), rfl⟩
        · exact ⟨"list", tyL (s7 _ _ e6b), rfl⟩
      obtain ⟨t, k1, k2⟩ := od
      exact q _ H7 (.parts e7 k1 k2) (sp6.same s7) (((sxa.trans S5.x).trans sx6).trans s7.x)
    rw [if_neg w0]
    (simp only [a_later])
    (walk_at "rd")
    by_cases w1 : wy = 1
    · rw [if_pos w1]
      (walk_at "rd")
      refine ⟨by decide, fun t1 H3 n3 s3 e3 => ⟨by decide, fun t2 H4 n4 s4 e4 => ⟨by decide, fun t3 H5 n5 s5 e5 => ?_⟩⟩⟩
      have S5 := (s3.trans s4).trans s5
      refine ⟨p, l, 6, rfl, sp2.same S5, by decide, by decide, fun r H6 r0 r1 sp6 sx6 => ?_⟩
      obtain ⟨x, hx, xm⟩ := pick_mem r0 (show r < (([V.int (-1), V.bl true, V.non, V.str "1", V.ref t1, V.ref t2] : List V).length : Int) from r1)
      have e5a := s5 _ _ (s4 _ _ e3)
      have e5b := s5 _ _ e4
      have e6a := sx6 _ _ ((sp2.same S5).netx e5a) e5a
      have e6b := sx6 _ _ ((sp2.same S5).nelx e5b) e5b
      have e6c := sx6 _ _ ((sp2.same S5).nelx e5) e5
      have hn5 := S5 _ _ hna2
      have hn6 := sx6 _ _ ((sp2.same S5).netx hn5) hn5
      have od : ∃ t, tyN H6 x = some t ∧ isFrom 0 x = false ∧ x ≠ .ref p := by
        simp only [List.mem_cons, List.not_mem_nil, or_false] at xm
        rcases xm with rfl | rfl | rfl | rfl | rfl | rfl
        · exact ⟨"int", rfl, by decide, fun z => nomatch z⟩
        · exact ⟨"bool", rfl, rfl, fun z => nomatch z⟩
        · exact ⟨"NoneType", rfl, rfl, fun z => nomatch z⟩
        · exact ⟨"str", rfl, rfl, fun z => nomatch z⟩
        · exact ⟨"tuple", tyT e6a, rfl, fun z => sp6.netx e6a (by injection z)⟩
        · exact ⟨"list", tyL e6b, rfl, fun z => sp6.nelx e6b (by injection z)⟩
      obtain ⟨t, k1, k2, k3⟩ := od
      refine ⟨_, _, rfl, sq_lst e6c, x, hx, ?_⟩
      obtain ⟨an, rfl⟩ := Int.eq_ofNat_of_zero_le at0
      (simp only [a_later])
      (try simp only [V.str.injEq, HO.dK.injEq, a_tAug, a_tDisp, a_prs0, a_prs, a_rGetK, a_rSetK, a_tAugS, a_ipI, a_tPar3, a_tListR, a_iS0, a_tPop0, a_tCalK, g3r_is, g2r_is, g2_is, g1_is, a_rNePP, a_iEnum, a_tSeqL, a_tChain, a_tDict, a_tLstA, a_rEqT, a_tIns, a_tRev, a_rSlA, a_rCatA, a_rCatL, a_tSeq, a_tFor, a_rIxL, a_iZip, a_tSortR, a_tSl, a_rSlL0, a_tNoPart, a_tPart, a_tApp, a_tRet, a_tRetN, a_tNext, a_tDrop, a_tAsg, a_gSub, a_gName, a_gNil, a_gCons, a_gTup0, a_rSetL, a_tIfS, a_tAnd, a_tOr, a_tNot, a_tTest, a_tB, a_tTrue, a_tIf, a_tAndV, a_tOrV, a_tNotV, a_tOp, a_tUn, a_rU, a_tVar, a_tC, a_rI0, a_rI, a_rEq, a_rNe, a_rIx0, a_rIn0, a_tCB, a_tCal, a_tCons, a_tNil, a_tTupA, a_tLst, a_tPar, a_tBits, a_tLC, a_iRng1, a_iRng2, a_iT0, a_iL0, a_tEmit, frS, scal, V.ty.injEq, tyN, subN, String.reduceEq, String.reduceBEq, Bool.true_or, Bool.false_or, Bool.or_false, Bool.true_and, Bool.false_and, Bool.and_false, or_true, true_or, beq_self_eq_true, decide_true, decide_false, List.map_cons, List.map_nil, List.length_cons, List.length_nil, List.getElem?_cons_zero, List.getElem?_cons_succ, List.getElem?_nil, List.set_cons_zero, List.set_cons_succ, Option.some.injEq, Option.bind_some, Option.bind_none, id, exists_eq_left', exists_eq_left, exists_and_left, exists_eq_right, V.int.injEq, V.bl.injEq, V.ref.injEq, List.cons.injEq, and_true, true_and, and_assoc, exists_const, atI0, atI1, atI2, ixN30, ixN31, ixN32, upd_same, upd_upd, sq_updL, sq_updT, Nat.zero_add, Nat.reduceAdd, reduceCtorEq, false_and, and_false, exists_false, false_or, or_false, List.length_map, HO.lst.injEq, HO.tup.injEq, Bool.false_eq_true, if_false, if_true, decide_eq_true_eq, ite_true, ite_false, reduceIte, Int.reduceLT, Int.reduceLE, Nat.reduceLT, Int.zero_add, Bool.not_true, Bool.not_false, hn6])
      intro a1 K1 u1 f1
      refine ⟨by decide, fun a2 K2 n2 u2 f2 => ⟨_, u2 _ _ f1, _, f2, ?_, fun a3 K3 u3 f3 => ?_⟩⟩
      · refine Nat.le_of_lt (small1000 ?_)
        rw [cutV_take _ an (by rw [List.length_map]; omega)]
        simp
        omega
      rw [cutV_take _ an (by rw [List.length_map]; omega)] at f3
      have U3 := (u1.trans u2).trans u3
      refine ⟨_, U3 _ _ hn6, fun a4 K4 u4 f4 => ?_⟩
      rw [show ((an : Int) + 1) = ((an + 1 : Nat) : Int) by omega, cutV_drop _ (an + 1) (by rw [List.length_map]; omega)] at f4
      refine ⟨_, u4 _ _ f3, _, f4, Nat.le_of_lt (small1000 (by simp; omega)), fun a5 K5 u5 f5 => ?_⟩
      have U5 := (U3.trans u4).trans u5
      refine ⟨_, U5 _ _ hn6, fun a6 K6 u6 f6 => ?_⟩
      rw [show (1 : Int) = ((1 : Nat) : Int) from rfl, cutV_drop _ 1 (by rw [List.length_map]; omega)] at f6
      have U6 := U5.trans u6
      refine ⟨by decide, fun a7 K7 n7 u7 f7 => ⟨_, (U6.trans u7) _ _ hn6, _, f7, Nat.le_of_lt (small1000 (by simp; omega)), fun a8 K8 u8 f8 => ?_⟩⟩
      have U8 := (U6.trans u7).trans u8
      have hn8 := U8 _ _ hn6
      (try simp only [V.str.injEq, HO.dK.injEq, a_tAug, a_tDisp, a_prs0, a_prs, a_rGetK, a_rSetK, a_tAugS, a_ipI, a_tPar3, a_tListR, a_iS0, a_tPop0, a_tCalK, g3r_is, g2r_is, g2_is, g1_is, a_rNePP, a_iEnum, a_tSeqL, a_tChain, a_tDict, a_tLstA, a_rEqT, a_tIns, a_tRev, a_rSlA, a_rCatA, a_rCatL, a_tSeq, a_tFor, a_rIxL, a_iZip, a_tSortR, a_tSl, a_rSlL0, a_tNoPart, a_tPart, a_tApp, a_tRet, a_tRetN, a_tNext, a_tDrop, a_tAsg, a_gSub, a_gName, a_gNil, a_gCons, a_gTup0, a_rSetL, a_tIfS, a_tAnd, a_tOr, a_tNot, a_tTest, a_tB, a_tTrue, a_tIf, a_tAndV, a_tOrV, a_tNotV, a_tOp, a_tUn, a_rU, a_tVar, a_tC, a_rI0, a_rI, a_rEq, a_rNe, a_rIx0, a_rIn0, a_tCB, a_tCal, a_tCons, a_tNil, a_tTupA, a_tLst, a_tPar, a_tBits, a_tLC, a_iRng1, a_iRng2, a_iT0, a_iL0, a_tEmit, frS, scal, V.ty.injEq, tyN, subN, String.reduceEq, String.reduceBEq, Bool.true_or, Bool.false_or, Bool.or_false, Bool.true_and, Bool.false_and, Bool.and_false, or_true, true_or, beq_self_eq_true, decide_true, decide_false, List.map_cons, List.map_nil, List.length_cons, List.length_nil, List.getElem?_cons_zero, List.getElem?_cons_succ, List.getElem?_nil, List.set_cons_zero, List.set_cons_succ, Option.some.injEq, Option.bind_some, Option.bind_none, id, exists_eq_left', exists_eq_left, exists_and_left, exists_eq_right, V.int.injEq, V.bl.injEq, V.ref.injEq, List.cons.injEq, and_true, true_and, and_assoc, exists_const, atI0, atI1, atI2, ixN30, ixN31, ixN32, upd_same, upd_upd, sq_updL, sq_updT, Nat.zero_add, Nat.reduceAdd, reduceCtorEq, false_and, and_false, exists_false, false_or, or_false, List.length_map, HO.lst.injEq, HO.tup.injEq, Bool.false_eq_true, if_false, if_true, decide_eq_true_eq, ite_true, ite_false, reduceIte, Int.reduceLT, Int.reduceLE, Nat.reduceLT, Int.zero_add, Bool.not_true, Bool.not_false, hn8])
      have at0' : atI (ns.map V.int) 0 = some (V.int (ns.getD 0 0)) := at_int (n := 0) (by omega)
      refine ⟨_, sq_tup hn8, fun a9 K9 n9 u9 f9 => ⟨_, sq_tup (u9 _ _ hn8), _, at0', by decide, fun so K10 n10 u10 f10 => ?_⟩⟩
      have U10 := (U8.trans u9).trans u10
      have sp10 := sp6.same U10
      (simp only [a_later])
      (walk_at "rd")
      refine ⟨p, l, 6, rfl, sp10, by decide, by decide, fun r' H7 r0' r1' sp7 sx7 => ?_⟩
      obtain ⟨y, hy, ym⟩ := pick_mem r0' (show r' < (([V.ref a5, V.ref a6, V.ref a8, V.ref a9, V.non, V.int (ns.getD 0 0)] : List V).length : Int) from r1')
      have f11 := sx7 _ _ (sp10.nelx f10) f10
      refine ⟨_, _, rfl, sq_lst f11, y, hy, by decide, fun rr H8 n8 s8 e8 => ?_⟩
      have up : ∀ {x : Addr} {L : List V}, K10 x = some (.tup L) → H8 x = some (.tup L) := fun e => s8 _ _ (sx7 _ _ (sp10.netx e) e)
      have nb : NumB H8 y m := by
        simp only [List.mem_cons, List.not_mem_nil, or_false] at ym
        rcases ym with rfl | rfl | rfl | rfl | rfl | rfl
        · refine .inr ⟨a5, _, rfl, up ((((u6.trans u7).trans u8).trans u9).trans u10 _ _ f5), kn_put an (Kn.ints ns) (tyN_same s8 (tyN_x sx7 k3 (tyN_same U10 k1))), by simp; omega, by rw [put_bad (m := m) k2, Bool.and_false]⟩
        · refine .inr ⟨a6, _, rfl, up (((u7.trans u8).trans u9).trans u10 _ _ f6), fun x hx => Kn.ints ns x (List.mem_of_mem_drop hx), by simp; omega, ?_⟩
          rw [decide_eq_false (by simp; omega), Bool.false_and]
        · refine .inr ⟨a8, _, rfl, up ((u9.trans u10) _ _ f8), fun x hx => ?_, by simp; omega, ?_⟩
          · rcases List.mem_append.mp hx with z | z
            · exact Kn.ints ns x z
            · rw [List.mem_singleton.mp z]
              exact ⟨"int", rfl⟩
          · rw [decide_eq_false (by simp; omega), Bool.false_and]
        · have f9' := u10 _ _ f9
          exact .inl ⟨"list", tyL (s8 _ _ (sx7 _ _ (sp10.nelx f9') f9')), rfl⟩
        · exact .inl ⟨"NoneType", rfl, rfl⟩
        · exact .inl ⟨"int", rfl, rfl⟩
      exact q _ H8 (.nums e8 b1 nb) (sp7.same s8) (((((sxa.trans S5.x).trans sx6).trans U10.x).trans sx7).trans s8.x)
    rw [if_neg w1]
    (simp only [a_later])
    (walk_at "rd")
    by_cases w2 : wy = 2
    · rw [if_pos w2]
      (try simp only [V.str.injEq, HO.dK.injEq, a_tAug, a_tDisp, a_prs0, a_prs, a_rGetK, a_rSetK, a_tAugS, a_ipI, a_tPar3, a_tListR, a_iS0, a_tPop0, a_tCalK, g3r_is, g2r_is, g2_is, g1_is, a_rNePP, a_iEnum, a_tSeqL, a_tChain, a_tDict, a_tLstA, a_rEqT, a_tIns, a_tRev, a_rSlA, a_rCatA, a_rCatL, a_tSeq, a_tFor, a_rIxL, a_iZip, a_tSortR, a_tSl, a_rSlL0, a_tNoPart, a_tPart, a_tApp, a_tRet, a_tRetN, a_tNext, a_tDrop, a_tAsg, a_gSub, a_gName, a_gNil, a_gCons, a_gTup0, a_rSetL, a_tIfS, a_tAnd, a_tOr, a_tNot, a_tTest, a_tB, a_tTrue, a_tIf, a_tAndV, a_tOrV, a_tNotV, a_tOp, a_tUn, a_rU, a_tVar, a_tC, a_rI0, a_rI, a_rEq, a_rNe, a_rIx0, a_rIn0, a_tCB, a_tCal, a_tCons, a_tNil, a_tTupA, a_tLst, a_tPar, a_tBits, a_tLC, a_iRng1, a_iRng2, a_iT0, a_iL0, a_tEmit, frS, scal, V.ty.injEq, tyN, subN, String.reduceEq, String.reduceBEq, Bool.true_or, Bool.false_or, Bool.or_false, Bool.true_and, Bool.false_and, Bool.and_false, or_true, true_or, beq_self_eq_true, decide_true, decide_false, List.map_cons, List.map_nil, List.length_cons, List.length_nil, List.getElem?_cons_zero, List.getElem?_cons_succ, List.getElem?_nil, List.set_cons_zero, List.set_cons_succ, Option.some.injEq, Option.bind_some, Option.bind_none, id, exists_eq_left', exists_eq_left, exists_and_left, exists_eq_right, V.int.injEq, V.bl.injEq, V.ref.injEq, List.cons.injEq, and_true, true_and, and_assoc, exists_const, atI0, atI1, atI2, ixN30, ixN31, ixN32, upd_same, upd_upd, sq_updL, sq_updT, Nat.zero_add, Nat.reduceAdd, reduceCtorEq, false_and, and_false, exists_false, false_or, or_false, List.length_map, HO.lst.injEq, HO.tup.injEq, Bool.false_eq_true, if_false, if_true, decide_eq_true_eq, ite_true, ite_false, reduceIte, Int.reduceLT, Int.reduceLE, Nat.reduceLT, Int.zero_add, Bool.not_true, Bool.not_false, htw2, hwa2])
      refine ⟨by decide, fun t1 H3 n3 s3 e3 => ⟨by decide, fun t2 H4 n4 s4 e4 => ⟨by decide, fun t3 H5 n5 s5 e5 => ?_⟩⟩⟩
      have S5 := (s3.trans s4).trans s5
      refine ⟨p, l, 7, rfl, sp2.same S5, by decide, by decide, fun r H6 r0 r1 sp6 sx6 => ?_⟩
      obtain ⟨x, hx, xm⟩ := pick_mem r0 (show r < (([V.int (ts.length : Int), V.int (-2), V.bl true, V.non, V.str "0", V.ref t1, V.ref t2] : List V).length : Int) from r1)
      have e5a := s5 _ _ (s4 _ _ e3)
      have e5b := s5 _ _ e4
      have e6a := sx6 _ _ ((sp2.same S5).netx e5a) e5a
      have e6b := sx6 _ _ ((sp2.same S5).nelx e5b) e5b
      have e6c := sx6 _ _ ((sp2.same S5).nelx e5) e5
      have hn5 := S5 _ _ hda2
      have hn6 := sx6 _ _ ((sp2.same S5).netx hn5) hn5
      have od : ∃ t, tyN H6 x = some t ∧ okH ts.length x = false ∧ x ≠ .ref p := by
        simp only [List.mem_cons, List.not_mem_nil, or_false] at xm
        rcases xm with rfl | rfl | rfl | rfl | rfl | rfl | rfl
        · refine ⟨"int", rfl, ?_, fun z => nomatch z⟩
          unfold okH
          rw [show decide (intV (V.int (ts.length : Int)) < (ts.length : Int)) = false from decide_eq_false (Int.lt_irrefl _), Bool.and_false]
        · exact ⟨"int", rfl, by unfold okH; rw [show isFrom (-1) (V.int (-2)) = false by decide, Bool.false_and], fun z => nomatch z⟩
        · exact ⟨"bool", rfl, rfl, fun z => nomatch z⟩
        · exact ⟨"NoneType", rfl, rfl, fun z => nomatch z⟩
        · exact ⟨"str", rfl, rfl, fun z => nomatch z⟩
        · exact ⟨"tuple", tyT e6a, rfl, fun z => sp6.netx e6a (by injection z)⟩
        · exact ⟨"list", tyL e6b, rfl, fun z => sp6.nelx e6b (by injection z)⟩
      obtain ⟨t, k1, k2, k3⟩ := od
      refine ⟨_, _, rfl, sq_lst e6c, x, hx, ?_⟩
      obtain ⟨an, rfl⟩ := Int.eq_ofNat_of_zero_le at0
      (simp only [a_later])
      (try simp only [V.str.injEq, HO.dK.injEq, a_tAug, a_tDisp, a_prs0, a_prs, a_rGetK, a_rSetK, a_tAugS, a_ipI, a_tPar3, a_tListR, a_iS0, a_tPop0, a_tCalK, g3r_is, g2r_is, g2_is, g1_is, a_rNePP, a_iEnum, a_tSeqL, a_tChain, a_tDict, a_tLstA, a_rEqT, a_tIns, a_tRev, a_rSlA, a_rCatA, a_rCatL, a_tSeq, a_tFor, a_rIxL, a_iZip, a_tSortR, a_tSl, a_rSlL0, a_tNoPart, a_tPart, a_tApp, a_tRet, a_tRetN, a_tNext, a_tDrop, a_tAsg, a_gSub, a_gName, a_gNil, a_gCons, a_gTup0, a_rSetL, a_tIfS, a_tAnd, a_tOr, a_tNot, a_tTest, a_tB, a_tTrue, a_tIf, a_tAndV, a_tOrV, a_tNotV, a_tOp, a_tUn, a_rU, a_tVar, a_tC, a_rI0, a_rI, a_rEq, a_rNe, a_rIx0, a_rIn0, a_tCB, a_tCal, a_tCons, a_tNil, a_tTupA, a_tLst, a_tPar, a_tBits, a_tLC, a_iRng1, a_iRng2, a_iT0, a_iL0, a_tEmit, frS, scal, V.ty.injEq, tyN, subN, String.reduceEq, String.reduceBEq, Bool.true_or, Bool.false_or, Bool.or_false, Bool.true_and, Bool.false_and, Bool.and_false, or_true, true_or, beq_self_eq_true, decide_true, decide_false, List.map_cons, List.map_nil, List.length_cons, List.length_nil, List.getElem?_cons_zero, List.getElem?_cons_succ, List.getElem?_nil, List.set_cons_zero, List.set_cons_succ, Option.some.injEq, Option.bind_some, Option.bind_none, id, exists_eq_left', exists_eq_left, exists_and_left, exists_eq_right, V.int.injEq, V.bl.injEq, V.ref.injEq, List.cons.injEq, and_true, true_and, and_assoc, exists_const, atI0, atI1, atI2, ixN30, ixN31, ixN32, upd_same, upd_upd, sq_updL, sq_updT, Nat.zero_add, Nat.reduceAdd, reduceCtorEq, false_and, and_false, exists_false, false_or, or_false, List.length_map, HO.lst.injEq, HO.tup.injEq, Bool.false_eq_true, if_false, if_true, decide_eq_true_eq, ite_true, ite_false, reduceIte, Int.reduceLT, Int.reduceLE, Nat.reduceLT, Int.zero_add, Bool.not_true, Bool.not_false, hn6])
      intro a1 K1 u1 f1
      refine ⟨by decide, fun a2 K2 n2 u2 f2 => ⟨_, u2 _ _ f1, _, f2, ?_, fun a3 K3 u3 f3 => ?_⟩⟩
      · refine Nat.le_of_lt (small1000 ?_)
        rw [cutV_take _ an (by rw [List.length_map]; omega)]
        simp
        omega
      rw [cutV_take _ an (by rw [List.length_map]; omega)] at f3
      have U3 := (u1.trans u2).trans u3
      refine ⟨_, U3 _ _ hn6, fun a4 K4 u4 f4 => ?_⟩
      rw [show ((an : Int) + 1) = ((an + 1 : Nat) : Int) by omega, cutV_drop _ (an + 1) (by rw [List.length_map]; omega)] at f4
      refine ⟨_, u4 _ _ f3, _, f4, Nat.le_of_lt (small1000 (by simp; omega)), fun a5 K5 u5 f5 => ?_⟩
      have U5 := (U3.trans u4).trans u5
      refine ⟨_, U5 _ _ hn6, fun a6 K6 u6 f6 => ?_⟩
      rw [show (1 : Int) = ((1 : Nat) : Int) from rfl, cutV_drop _ 1 (by rw [List.length_map]; omega)] at f6
      have U6 := U5.trans u6
      refine ⟨by decide, fun a7 K7 n7 u7 f7 => ⟨_, (U6.trans u7) _ _ hn6, _, f7, Nat.le_of_lt (small1000 (by simp; omega)), fun a8 K8 u8 f8 => ?_⟩⟩
      have U8 := (U6.trans u7).trans u8
      have hn8 := U8 _ _ hn6
      (try simp only [V.str.injEq, HO.dK.injEq, a_tAug, a_tDisp, a_prs0, a_prs, a_rGetK, a_rSetK, a_tAugS, a_ipI, a_tPar3, a_tListR, a_iS0, a_tPop0, a_tCalK, g3r_is, g2r_is, g2_is, g1_is, a_rNePP, a_iEnum, a_tSeqL, a_tChain, a_tDict, a_tLstA, a_rEqT, a_tIns, a_tRev, a_rSlA, a_rCatA, a_rCatL, a_tSeq, a_tFor, a_rIxL, a_iZip, a_tSortR, a_tSl, a_rSlL0, a_tNoPart, a_tPart, a_tApp, a_tRet, a_tRetN, a_tNext, a_tDrop, a_tAsg, a_gSub, a_gName, a_gNil, a_gCons, a_gTup0, a_rSetL, a_tIfS, a_tAnd, a_tOr, a_tNot, a_tTest, a_tB, a_tTrue, a_tIf, a_tAndV, a_tOrV, a_tNotV, a_tOp, a_tUn, a_rU, a_tVar, a_tC, a_rI0, a_rI, a_rEq, a_rNe, a_rIx0, a_rIn0, a_tCB, a_tCal, a_tCons, a_tNil, a_tTupA, a_tLst, a_tPar, a_tBits, a_tLC, a_iRng1, a_iRng2, a_iT0, a_iL0, a_tEmit, frS, scal, V.ty.injEq, tyN, subN, String.reduceEq, String.reduceBEq, Bool.true_or, Bool.false_or, Bool.or_false, Bool.true_and, Bool.false_and, Bool.and_false, or_true, true_or, beq_self_eq_true, decide_true, decide_false, List.map_cons, List.map_nil, List.length_cons, List.length_nil, List.getElem?_cons_zero, List.getElem?_cons_succ, List.getElem?_nil, List.set_cons_zero, List.set_cons_succ, Option.some.injEq, Option.bind_some, Option.bind_none, id, exists_eq_left', exists_eq_left, exists_and_left, exists_eq_right, V.int.injEq, V.bl.injEq, V.ref.injEq, List.cons.injEq, and_true, true_and, and_assoc, exists_const, atI0, atI1, atI2, ixN30, ixN31, ixN32, upd_same, upd_upd, sq_updL, sq_updT, Nat.zero_add, Nat.reduceAdd, reduceCtorEq, false_and, and_false, exists_false, false_or, or_false, List.length_map, HO.lst.injEq, HO.tup.injEq, Bool.false_eq_true, if_false, if_true, decide_eq_true_eq, ite_true, ite_false, reduceIte, Int.reduceLT, Int.reduceLE, Nat.reduceLT, Int.zero_add, Bool.not_true, Bool.not_false, hn8])
      have at0' : atI (ds.map V.int) 0 = some (V.int (ds.getD 0 0)) := at_int (n := 0) (by omega)
      refine ⟨_, sq_tup hn8, fun a9 K9 n9 u9 f9 => ⟨_, sq_tup (u9 _ _ hn8), _, at0', by decide, fun so K10 n10 u10 f10 => ?_⟩⟩
      have U10 := (U8.trans u9).trans u10
      have sp10 := sp6.same U10
      (simp only [a_later])
      (walk_at "rd")
      refine ⟨p, l, 6, rfl, sp10, by decide, by decide, fun r' H7 r0' r1' sp7 sx7 => ?_⟩
      obtain ⟨y, hy, ym⟩ := pick_mem r0' (show r' < (([V.ref a5, V.ref a6, V.ref a8, V.ref a9, V.non, V.int (ds.getD 0 0)] : List V).length : Int) from r1')
      have f11 := sx7 _ _ (sp10.nelx f10) f10
      refine ⟨_, _, rfl, sq_lst f11, y, hy, by decide, fun rr H8 n8 s8 e8 => ?_⟩
      have up : ∀ {x : Addr} {L : List V}, K10 x = some (.tup L) → H8 x = some (.tup L) := fun e => s8 _ _ (sx7 _ _ (sp10.netx e) e)
      have nb : ThB H8 y m ts.length false := by
        simp only [List.mem_cons, List.not_mem_nil, or_false] at ym
        rcases ym with rfl | rfl | rfl | rfl | rfl | rfl
        · refine .inr ⟨a5, _, rfl, up ((((u6.trans u7).trans u8).trans u9).trans u10 _ _ f5), kn_put an (Kn.ints ds) (tyN_same s8 (tyN_x sx7 k3 (tyN_same U10 k1))), by simp; omega, by unfold dealB; rw [put_bad (m := m) k2, Bool.and_false]⟩
        · refine .inr ⟨a6, _, rfl, up (((u7.trans u8).trans u9).trans u10 _ _ f6), fun x hx => Kn.ints ds x (List.mem_of_mem_drop hx), by simp; omega, ?_⟩
          unfold dealB
          rw [decide_eq_false (by simp; omega), Bool.false_and]
        · refine .inr ⟨a8, _, rfl, up ((u9.trans u10) _ _ f8), fun x hx => ?_, by simp; omega, ?_⟩
          · rcases List.mem_append.mp hx with z | z
            · exact Kn.ints ds x z
            · rw [List.mem_singleton.mp z]
              exact ⟨"int", rfl⟩
          · unfold dealB
            rw [decide_eq_false (by simp; omega), Bool.false_and]
        · have f9' := u10 _ _ f9
          exact .inl ⟨"list", tyL (s8 _ _ (sx7 _ _ (sp10.nelx f9') f9')), rfl, rfl⟩
        · exact .inl ⟨"NoneType", rfl, rfl, rfl⟩
        · exact .inl ⟨"int", rfl, rfl, rfl⟩
      have hnn5 := S5 _ _ hna2
      have hnn6 := U10 _ _ (sx6 _ _ ((sp2.same S5).netx hnn5) hnn5)
      exact q _ H8 (.deal e8 b1 (up hnn6) nl n0 nb) (sp7.same s8) (((((sxa.trans S5.x).trans sx6).trans U10.x).trans sx7).trans s8.x)
    rw [if_neg w2]
    (simp only [a_later])
    (walk_at "rd")
    refine ⟨by decide, fun d0 H3 n3 s3 e3 => ?_⟩
    (simp only [a_later])
    (walk_at "rd")
    refine ⟨by decide, by decide, fl_range (DP p tw th na da b at' wy H3) ⟨_, _, _, d0, [], rfl, Same.refl _, e3, by decide⟩ ?_ ?_⟩
    · rintro i σ H4 hi ⟨v8, v9, v11, d, zs, rfl, s4, e4, zl⟩
      (walk_at "rd")
      refine ⟨by decide, fun d2 H5 n5 s5 e5 => ?_⟩
      exact ⟨_, _, _, d2, _, rfl, s4.trans s5, e5, by simp⟩
    · rintro σ H4 ⟨v8, v9, v11, d, zs, rfl, s4, e4, zl⟩
      have S4 := s3.trans s4
      (simp only [a_later])
      (walk_at "rd")
      refine ⟨by decide, fun t1 K1 n1 u1 f1 => ⟨by decide, fun t2 K2 n2 u2 f2 => ⟨by decide, fun t3 K3 n3 u3 f3 => ⟨by decide, fun t4 K4 n4 u4 f4 => ⟨by decide, fun t5 K5 n5 u5 f5 => ⟨by decide, fun l1 K6 n6 u6 f6 => ?_⟩⟩⟩⟩⟩⟩
      (simp only [a_later])
      (walk_at "rd")
      have U6 := ((((u1.trans u2).trans u3).trans u4).trans u5).trans u6
      refine ⟨by decide, fun t6 K7 n7 u7 f7 => ⟨by decide, fun t7 K8 n8 u8 f8 => fun t8 K9 n9 u9 f9 => ⟨by decide, fun t9 K10 n10 u10 f10 => ⟨by decide, fun t10 K11 n11 u11 f11 => ?_⟩⟩⟩⟩
      have U11 := ((((U6.trans u7).trans u8).trans u9).trans u10).trans u11
      refine ⟨_, f11, _, U11 _ _ (S4 _ _ hth2), by show 4 ≤ sizeLine; decide, fun t11 K12 u12 f12 => ⟨by decide, fun l2 K13 n13 u13 f13 => ?_⟩⟩
      have V13 := ((((((u7.trans u8).trans u9).trans u10).trans u11).trans u12).trans u13)
      refine ⟨_, V13 _ _ f6, _, f13, by show 15 ≤ sizeLine; decide, fun l3 K14 n14 u14 f14 => ?_⟩
      have U14 := (U6.trans V13).trans u14
      have sp14 := sp2.same (S4.trans U14)
      (simp only [a_later])
      (walk_at "rd")
      refine ⟨p, l, 15, rfl, sp14, by decide, by decide, fun r H8 r0 r1 sp8 sx8 => ?_⟩
      have f15 := sx8 _ _ (sp14.nelx f14) f14
      obtain ⟨y, hy, ym⟩ := pick_mem r0 (show r < (([V.ref t1, V.ref t2, V.ref t3, V.ref t4, V.ref t5, V.non] ++ [V.bl true, V.int 0, V.str "1", V.ref t6, V.ref t7, V.ref t8, V.ref d, V.ref t9, V.ref t11] : List V).length : Int) from r1)
      refine ⟨_, _, rfl, sq_lst f15, y, hy, ?_⟩
      have up : ∀ {x : Addr} {L : List V}, K14 x = some (.tup L) → H8 x = some (.tup L) := fun e => sx8 _ _ (sp14.netx e) e
      have upl : ∀ {x : Addr} {L : List V}, K14 x = some (.lst L) → H8 x = some (.lst L) := fun e => sx8 _ _ (sp14.nelx e) e
      have W14 := V13.trans u14
      have sh : Sh H8 m ts y false := by
        simp only [List.cons_append, List.nil_append, List.mem_cons, List.not_mem_nil, or_false] at ym
        rcases ym with rfl | rfl | rfl | rfl | rfl | rfl | rfl | rfl | rfl | rfl | rfl | rfl | rfl | rfl | rfl
        · exact .many (up (W14 _ _ (((((u2.trans u3).trans u4).trans u5).trans u6) _ _ f1))) (by simp)
        · exact .many (up (W14 _ _ ((((u3.trans u4).trans u5).trans u6) _ _ f2))) (by simp)
        · exact .kind (tyL (upl (W14 _ _ (((u4.trans u5).trans u6) _ _ f3)))) rfl
        · exact .parts (up (W14 _ _ ((u5.trans u6) _ _ f4))) (tyT (up (U14 _ _ (S4 _ _ hna2)))) rfl
        · exact .many (up (W14 _ _ (u6 _ _ f5))) (by simp)
        · exact .kind (t := "NoneType") rfl rfl
        · exact .kind (t := "bool") rfl rfl
        · exact .kind (t := "int") rfl rfl
        · exact .kind (t := "str") rfl rfl
        · exact .many (up ((((((((u8.trans u9).trans u10).trans u11).trans u12).trans u13).trans u14)) _ _ f7)) (by simp)
        · exact .kind (tyL (upl (((((((u9.trans u10).trans u11).trans u12).trans u13).trans u14)) _ _ f8))) rfl
        · have e8 := ((((((u10.trans u11).trans u12).trans u13).trans u14)) _ _ f9)
          have ne : t8 ≠ p := fun z => by
            obtain ⟨_, _, _, _, _, _, y1, _⟩ := sp14
            rw [z, y1] at e8
            injection e8 with e8
            injection e8 with e8
            cases e8
          have e9 := sx8 _ _ ne e8
          exact .kind (t := "dict") (by simp [tyN, e9]) rfl
        · exact .many (up (U14 _ _ e4)) (by omega)
        · exact .many (up (((((u11.trans u12).trans u13).trans u14)) _ _ f10)) (by simp)
        · exact .many (up ((u13.trans u14) _ _ f12)) (by simp)
      exact q y H8 sh sp8 (((sxa.trans S4.x).trans U14.x).trans sx8)
end
end K44
end
section
set_option Elab.async false
set_option linter.all false
set_option maxRecDepth 100000
set_option maxHeartbeats 8000000
namespace K44
open PySem L2
local macro_rules | `(tactic| walk_at "rd") => `(tactic| (try simp only [V.str.injEq, HO.dK.injEq, a_tAug, a_tDisp, a_prs0, a_prs, a_rGetK, a_rSetK, a_tAugS, a_ipI, a_tPar3, a_tListR, a_iS0, a_tPop0, a_tCalK, g3r_is, g2r_is, g2_is, g1_is, a_rNePP, a_iEnum, a_tSeqL, a_tChain, a_tDict, a_tLstA, a_rEqT, a_tIns, a_tRev, a_rSlA, a_rCatA, a_rCatL, a_tSeq, a_tFor, a_rIxL, a_iZip, a_tSortR, a_tSl, a_rSlL0, a_tNoPart, a_tPart, a_tApp, a_tRet, a_tRetN, a_tNext, a_tDrop, a_tAsg, a_gSub, a_gName, a_gNil, a_gCons, a_gTup0, a_rSetL, a_tIfS, a_tAnd, a_tOr, a_tNot, a_tTest, a_tB, a_tTrue, a_tIf, a_tAndV, a_tOrV, a_tNotV, a_tOp, a_tUn, a_rU, a_tVar, a_tC, a_rI0, a_rI, a_rEq, a_rNe, a_rIx0, a_rIn0, a_tCB, a_tCal, a_tCons, a_tNil, a_tTupA, a_tLst, a_tPar, a_tBits, a_tLC, a_iRng1, a_iRng2, a_iT0, a_iL0, a_tEmit, frS, scal, V.ty.injEq, tyN, subN, String.reduceEq, String.reduceBEq, Bool.true_or, Bool.false_or, Bool.or_false, Bool.true_and, Bool.false_and, Bool.and_false, or_true, true_or, beq_self_eq_true, decide_true, decide_false, List.map_cons, List.map_nil, List.length_cons, List.length_nil, List.getElem?_cons_zero, List.getElem?_cons_succ, List.getElem?_nil, List.set_cons_zero, List.set_cons_succ, Option.some.injEq, Option.bind_some, Option.bind_none, id, exists_eq_left', exists_eq_left, exists_and_left, exists_eq_right, V.int.injEq, V.bl.injEq, V.ref.injEq, List.cons.injEq, and_true, true_and, and_assoc, exists_const, atI0, atI1, atI2, ixN30, ixN31, ixN32, upd_same, upd_upd, sq_updL, sq_updT, Nat.zero_add, Nat.reduceAdd, reduceCtorEq, false_and, and_false, exists_false, false_or, or_false, List.length_map, HO.lst.injEq, HO.tup.injEq, Bool.false_eq_true, if_false, if_true, decide_eq_true_eq, ite_true, ite_false, reduceIte, Int.reduceLT, Int.reduceLE, Nat.reduceLT, Int.zero_add, Bool.not_true, Bool.not_false]))
section
variable {P : Program} {w : World} {K : PySem.W.Frag} {mg : Str → Option Value} {base : Heap} {f : Addr} {fd : FuncData}
def sp_law (K : PySem.W.Frag) : Sp := fun vs H Q _ => ∃ (a : Addr) (ns : List Int), vs = [.ref a] ∧ Scr K a ns H ∧ ns.length ≤ 63 ∧ ∀ H', Q (.bl true) H'
def J0 (a p l : Addr) (i : Nat) (σ : St) (H : Hp) : Prop := ∃ v2 v3 v4 v5 : Option V, σ = [some (.ref a), some (.ref p), v2, v3, v4, v5] ∧ Spool H p l
structure Tg (p l tw sa wa th na da : Addr) (m : Nat) (ts : List (Addr × List Int)) (ss : List Int) (b : Int) (ns ds : List Int) (H : Hp) : Prop where
  sp : Spool H p l
  R : Rows H tw sa wa ts m
  sa : H sa = some (.tup (ss.map V.int))
  th : H th = some (.tup [.int b, .ref na, .ref da])
  na : H na = some (.tup (ns.map V.int))
  da : H da = some (.tup (ds.map V.int))
theorem Tg.x {p l tw sa wa th na da : Addr} {m : Nat} {ts : List (Addr × List Int)} {ss : List Int} {b : Int} {ns ds : List Int} {H H' : Hp} (t : Tg p l tw sa wa th na da m ts ss b ns ds H) (s : SameX p H H') (sp : Spool H' p l) : Tg p l tw sa wa th na da m ts ss b ns ds H' := by
  have k : ∀ {x : Addr} {L : List V}, H x = some (.tup L) → H' x = some (.tup L) := fun e => s _ _ (t.sp.netx e) e
  exact ⟨sp, ⟨k t.R.tw, k t.R.wa, t.R.few, t.R.five, fun r hr => ⟨k (t.R.row r hr).1, (t.R.row r hr).2⟩⟩, k t.sa, k t.th, k t.na, k t.da⟩
def J1 (a p l tw sa wa th na da : Addr) (m : Nat) (ts : List (Addr × List Int)) (ss : List Int) (b : Int) (ns ds : List Int) (k : Int) (i : Nat) (σ : St) (H : Hp) : Prop := ∃ v5 : Option V, σ = [some (.ref a), some (.ref p), some (.int k), some (.ref tw), some (.ref th), v5] ∧ Tg p l tw sa wa th na da m ts ss b ns ds H
theorem sc_law : FnScope ["_law_script", "_law_spool_here", "_law_k", "_law_town", "_law_thing", "_law_turn"] ["_law_script"] (defScope s_law) := ⟨rfl, rfl, rfl, by decide +kernel, rfl, by decide +kernel, by decide +kernel⟩
theorem ok_law (F : Fun K "law" "law" s_law f fd) (T : Txt mg) (c__law_spool : Cal P w K mg base "_law_spool" ["_law_script"] 1 (sp_spool K)) (c__law_alone : Cal P w K mg base "_law_alone" ["_law_spool_here"] 3 sp_alone) (c__law_bad : Cal P w K mg base "_law_bad" ["_law_spool_here", "_law_town", "_law_thing"] 3 sp_bad) (c_shows_meeting : Cal P w K mg base "shows_meeting" ["town", "thing"] 5 sp_shows) :
    FnOk P w K mg base CX0 6 f fd ["_law_script"] (sp_law K) := by
  refine F.ok sc_law (fun vs H Q E h => ?_) (fun cdv A outer s H vs Q E hr h => ?_)
  · obtain ⟨_, _, rfl, _⟩ := h; rfl
  · obtain ⟨a, ns, rfl, hq, hlen, q⟩ := h
    have sc := sc_law
    refine ⟨_, pss_consL (ps_set (i := 1) sc.nd rfl (Or.inl rfl) (pe_cal c__law_spool hr (pa_cns (pv 0) pa_nil)))
      (pss_consL (ps_for PassesOwn.never rfl (pi_range1 rfl T.range_ (pa_cns (pe_op op_add pe_int (pe_op op_fdiv (pe_callB call_len_seq rfl T.len_ bt_len (pa_cons (pv 0) pa_nil)) pe_int)) pa_nil)) (pg_name (i := 2) sc.nd rfl (Or.inl rfl))
        (pss_consL (ps_asg (pe_cal c__law_alone hr (pa_cns (pv 1) pa_nil)) (pg_tup0 (n := 2) rfl (pgs_cons (pg_name (i := 3) sc.nd rfl (Or.inl rfl)) (pgs_cons (pg_name (i := 4) sc.nd rfl (Or.inl rfl)) pgs_nil))))
      (pss_one (ps_for PassesOwn.never rfl (pi_range1 rfl T.range_ (pa_cns pe_int pa_nil)) (pg_name (i := 5) sc.nd rfl (Or.inl rfl))
        (pss_consL (ps_if (pt_cmpR isnot_bl (pe_cal c_shows_meeting hr (pa_cns (pv 3) (pa_cns (pe_cal c__law_bad hr (pa_cns (pv 1) (pa_cns (pv 3) (pa_cns (pv 4) pa_nil)))) pa_nil))) pe_bl (nomark _)) (pss_one (ps_ret pe_bl)) pss_nil)
      (pss_one (ps_if (pt_cmpR isnot_bl (pe_cal c_shows_meeting hr (pa_cns (pv 3) (pa_cns (pv 4) pa_nil))) pe_bl (nomark _)) (pss_one (ps_ret pe_bl)) pss_nil)))))))
      (pss_one (ps_ret pe_bl))), ?_⟩
    rw [show L2.start ["_law_script", "_law_spool_here", "_law_k", "_law_town", "_law_thing", "_law_turn"] [.ref a] = [some (.ref a), none, none, none, none, none] from rfl]
    (walk_at "rd")
    refine ⟨a, ns, rfl, hq, fun p l H1 np nl s1 sp1 => ?_⟩
    have hq1 := hq.keep np fun b o n e => s1 _ _ e
    (walk_at "rd")
    (simp only [a_later])
    (walk_at "rd")
    refine ⟨_, .inl hq1, ?_⟩
    (walk_at "rd")
    refine ⟨⟨by decide, by decide⟩, by omega, by omega, fl_range (J0 a p l) ⟨_, _, _, _, rfl, sp1⟩ ?_ ?_⟩
    · rintro i σ H2 hi ⟨v2, v3, v4, v5, rfl, sp2⟩
      (walk_at "rd")
      refine ⟨p, l, rfl, sp2, fun r tw sa wa th na da ts ss W b ns' ds H3 er R3 hsa ss1 t1 eth b1 b3 hna hda eW A sp3 sx3 => ?_⟩
      (try simp only [V.str.injEq, HO.dK.injEq, a_tAug, a_tDisp, a_prs0, a_prs, a_rGetK, a_rSetK, a_tAugS, a_ipI, a_tPar3, a_tListR, a_iS0, a_tPop0, a_tCalK, g3r_is, g2r_is, g2_is, g1_is, a_rNePP, a_iEnum, a_tSeqL, a_tChain, a_tDict, a_tLstA, a_rEqT, a_tIns, a_tRev, a_rSlA, a_rCatA, a_rCatL, a_tSeq, a_tFor, a_rIxL, a_iZip, a_tSortR, a_tSl, a_rSlL0, a_tNoPart, a_tPart, a_tApp, a_tRet, a_tRetN, a_tNext, a_tDrop, a_tAsg, a_gSub, a_gName, a_gNil, a_gCons, a_gTup0, a_rSetL, a_tIfS, a_tAnd, a_tOr, a_tNot, a_tTest, a_tB, a_tTrue, a_tIf, a_tAndV, a_tOrV, a_tNotV, a_tOp, a_tUn, a_rU, a_tVar, a_tC, a_rI0, a_rI, a_rEq, a_rNe, a_rIx0, a_rIn0, a_tCB, a_tCal, a_tCons, a_tNil, a_tTupA, a_tLst, a_tPar, a_tBits, a_tLC, a_iRng1, a_iRng2, a_iT0, a_iL0, a_tEmit, frS, scal, V.ty.injEq, tyN, subN, String.reduceEq, String.reduceBEq, Bool.true_or, Bool.false_or, Bool.or_false, Bool.true_and, Bool.false_and, Bool.and_false, or_true, true_or, beq_self_eq_true, decide_true, decide_false, List.map_cons, List.map_nil, List.length_cons, List.length_nil, List.getElem?_cons_zero, List.getElem?_cons_succ, List.getElem?_nil, List.set_cons_zero, List.set_cons_succ, Option.some.injEq, Option.bind_some, Option.bind_none, id, exists_eq_left', exists_eq_left, exists_and_left, exists_eq_right, V.int.injEq, V.bl.injEq, V.ref.injEq, List.cons.injEq, and_true, true_and, and_assoc, exists_const, atI0, atI1, atI2, ixN30, ixN31, ixN32, upd_same, upd_upd, sq_updL, sq_updT, Nat.zero_add, Nat.reduceAdd, reduceCtorEq, false_and, and_false, exists_false, false_or, or_false, List.length_map, HO.lst.injEq, HO.tup.injEq, Bool.false_eq_true, if_false, if_true, decide_eq_true_eq, ite_true, ite_false, reduceIte, Int.reduceLT, Int.reduceLE, Nat.reduceLT, Int.zero_add, Bool.not_true, Bool.not_false, er])
      (simp only [a_later])
      (walk_at "rd")
      have m5 := R3.five
      have n0 : ∀ x ∈ ns', 0 ≤ x := fun x hx => by
        obtain ⟨t, ht, e⟩ := List.getElem_of_mem hx
        have ht' : t < ss.length := by have := A.nl; omega
        obtain ⟨h, h1, h2, h3, h4⟩ := A.at' t ht'
        have g : ns'.getD t 0 = x := by rw [List.getD_eq_getElem?_getD, List.getElem?_eq_getElem ht, e]; rfl
        rw [← g, h3]
        refine Int.mul_nonneg (by omega) ?_
        have hW : W.getD h [] ∈ W := by
          rw [List.getD_eq_getElem?_getD, List.getElem?_eq_getElem (by rw [A.len]; exact h1)]
          exact List.getElem_mem _
        obtain ⟨rl, rb⟩ := A.row _ hW
        have hm : (W.getD h []).getD t 0 ∈ W.getD h [] := by
          rw [List.getD_eq_getElem?_getD (l := W.getD h []), List.getElem?_eq_getElem (by omega)]
          exact List.getElem_mem _
        have := rb _ hm
        omega
      have d0 : ∀ x ∈ ds, 0 ≤ x ∧ x < (ts.length : Int) := fun x hx => by
        obtain ⟨t, ht, e⟩ := List.getElem_of_mem hx
        have ht' : t < ss.length := by have := A.dl; omega
        obtain ⟨h, h1, h2, h3, h4⟩ := A.at' t ht'
        have g : ds.getD t 0 = x := by rw [List.getD_eq_getElem?_getD, List.getElem?_eq_getElem ht, e]; rfl
        omega
      have mt : meetB ts b ns' ds = true := al_meets m5 (by omega) A eW
      refine ⟨by decide, by decide, fl_range (J1 a p l tw sa wa th na da ss.length ts ss b ns' ds (i : Int)) ⟨_, rfl, ⟨sp3, R3, hsa, eth, hna, hda⟩⟩ ?_ ?_⟩
      · rintro j σ H4 hj ⟨v5, rfl, g4⟩
        (walk_at "rd")
        refine ⟨p, l, tw, sa, wa, th, na, da, ss.length, ts, b, ns', ds, rfl, g4.sp, g4.R, ss1, g4.th, b1, g4.na, g4.da, A.nl, A.dl, n0, d0, fun x H5 sh sp5 sx5 => ?_⟩
        have g5 := g4.x sx5 sp5
        (walk_at "rd")
        refine ⟨tw, sa, wa, ss.length, ss, ts, x, false, rfl, g5.R, g5.sa, rfl, ss1, sh, fun H6 s6 => ?_⟩
        have g6 := g5.x s6.x (g5.sp.same s6)
        (walk_at "rd")
        (simp only [a_later])
        (walk_at "rd")
        refine ⟨tw, sa, wa, ss.length, ss, ts, .ref th, _, rfl, g6.R, g6.sa, rfl, ss1, .good g6.th b1 (by omega) g6.na A.nl n0 g6.da ⟨A.dl, fun x hx => by have := d0 x hx; omega⟩, fun H7 s7 => ?_⟩
        rw [mt]
        (walk_at "rd")
        exact ⟨_, rfl, g6.x s7.x (g6.sp.same s7)⟩
      · rintro σ H4 ⟨v5, rfl, g4⟩
        exact ⟨_, _, _, _, rfl, g4.sp⟩
    · rintro σ H2 ⟨v2, v3, v4, v5, rfl, sp2⟩
      (simp only [a_later])
      (walk_at "rd")
      exact q H2
end
theorem all_mk {l : PySem.W.OpenLaw} {w : World} {K : PySem.W.Frag} {h : Heap} {mg : Str → Option Value} {fa : Addr} (X : K.In h) (G : h.Ns mainGlobals mg) (hfa : mg "law" = some (.ref fa))
    {f0 : Addr} {od0 an0 : Option Addr} {sl0 : Array (Option Value)} {oc0 kV0 dc0 pm0 cd0 ct0 : Value}
    (a0 : PySem.W.nsIn K mainGlobals "has" = some (some (.ref f0))) (l0 : K.lookup f0 = some ⟨oc0, od0, .func (PySem.W.fnOf "has" "has" (defArgs s_has) (defBody s_has) (defScope s_has) .none kV0 dc0 pm0 an0 cd0 ct0), sl0⟩) (c0 : PySem.W.codeIn K cd0 "has" = true) (k0 : PySem.W.keepIn K (.ref f0) = true)
    {f1 : Addr} {od1 an1 : Option Addr} {sl1 : Array (Option Value)} {oc1 kV1 dc1 pm1 cd1 ct1 : Value}
    (a1 : PySem.W.nsIn K mainGlobals "things_in" = some (some (.ref f1))) (l1 : K.lookup f1 = some ⟨oc1, od1, .func (PySem.W.fnOf "things_in" "things_in" (defArgs s_things_in) (defBody s_things_in) (defScope s_things_in) .none kV1 dc1 pm1 an1 cd1 ct1), sl1⟩) (c1 : PySem.W.codeIn K cd1 "things_in" = true) (k1 : PySem.W.keepIn K (.ref f1) = true)
    {f2 : Addr} {od2 an2 : Option Addr} {sl2 : Array (Option Value)} {oc2 kV2 dc2 pm2 cd2 ct2 : Value}
    (a2 : PySem.W.nsIn K mainGlobals "heap_of" = some (some (.ref f2))) (l2 : K.lookup f2 = some ⟨oc2, od2, .func (PySem.W.fnOf "heap_of" "heap_of" (defArgs s_heap_of) (defBody s_heap_of) (defScope s_heap_of) .none kV2 dc2 pm2 an2 cd2 ct2), sl2⟩) (c2 : PySem.W.codeIn K cd2 "heap_of" = true) (k2 : PySem.W.keepIn K (.ref f2) = true)
    {f3 : Addr} {od3 an3 : Option Addr} {sl3 : Array (Option Value)} {oc3 kV3 dc3 pm3 cd3 ct3 : Value}
    (a3 : PySem.W.nsIn K mainGlobals "heap_of_side" = some (some (.ref f3))) (l3 : K.lookup f3 = some ⟨oc3, od3, .func (PySem.W.fnOf "heap_of_side" "heap_of_side" (defArgs s_heap_of_side) (defBody s_heap_of_side) (defScope s_heap_of_side) .none kV3 dc3 pm3 an3 cd3 ct3), sl3⟩) (c3 : PySem.W.codeIn K cd3 "heap_of_side" = true) (k3 : PySem.W.keepIn K (.ref f3) = true)
    {f4 : Addr} {od4 an4 : Option Addr} {sl4 : Array (Option Value)} {oc4 kV4 dc4 pm4 cd4 ct4 : Value}
    (a4 : PySem.W.nsIn K mainGlobals "is_whole" = some (some (.ref f4))) (l4 : K.lookup f4 = some ⟨oc4, od4, .func (PySem.W.fnOf "is_whole" "is_whole" (defArgs s_is_whole) (defBody s_is_whole) (defScope s_is_whole) .none kV4 dc4 pm4 an4 cd4 ct4), sl4⟩) (c4 : PySem.W.codeIn K cd4 "is_whole" = true) (k4 : PySem.W.keepIn K (.ref f4) = true)
    {f5 : Addr} {od5 an5 : Option Addr} {sl5 : Array (Option Value)} {oc5 kV5 dc5 pm5 cd5 ct5 : Value}
    (a5 : PySem.W.nsIn K mainGlobals "is_whole_from" = some (some (.ref f5))) (l5 : K.lookup f5 = some ⟨oc5, od5, .func (PySem.W.fnOf "is_whole_from" "is_whole_from" (defArgs s_is_whole_from) (defBody s_is_whole_from) (defScope s_is_whole_from) .none kV5 dc5 pm5 an5 cd5 ct5), sl5⟩) (c5 : PySem.W.codeIn K cd5 "is_whole_from" = true) (k5 : PySem.W.keepIn K (.ref f5) = true)
    {f6 : Addr} {od6 an6 : Option Addr} {sl6 : Array (Option Value)} {oc6 kV6 dc6 pm6 cd6 ct6 : Value}
    (a6 : PySem.W.nsIn K mainGlobals "are_wholes" = some (some (.ref f6))) (l6 : K.lookup f6 = some ⟨oc6, od6, .func (PySem.W.fnOf "are_wholes" "are_wholes" (defArgs s_are_wholes) (defBody s_are_wholes) (defScope s_are_wholes) .none kV6 dc6 pm6 an6 cd6 ct6), sl6⟩) (c6 : PySem.W.codeIn K cd6 "are_wholes" = true) (k6 : PySem.W.keepIn K (.ref f6) = true)
    {f7 : Addr} {od7 an7 : Option Addr} {sl7 : Array (Option Value)} {oc7 kV7 dc7 pm7 cd7 ct7 : Value}
    (a7 : PySem.W.nsIn K mainGlobals "are_wholes_from" = some (some (.ref f7))) (l7 : K.lookup f7 = some ⟨oc7, od7, .func (PySem.W.fnOf "are_wholes_from" "are_wholes_from" (defArgs s_are_wholes_from) (defBody s_are_wholes_from) (defScope s_are_wholes_from) .none kV7 dc7 pm7 an7 cd7 ct7), sl7⟩) (c7 : PySem.W.codeIn K cd7 "are_wholes_from" = true) (k7 : PySem.W.keepIn K (.ref f7) = true)
    {f8 : Addr} {od8 an8 : Option Addr} {sl8 : Array (Option Value)} {oc8 kV8 dc8 pm8 cd8 ct8 : Value}
    (a8 : PySem.W.nsIn K mainGlobals "is_dealing" = some (some (.ref f8))) (l8 : K.lookup f8 = some ⟨oc8, od8, .func (PySem.W.fnOf "is_dealing" "is_dealing" (defArgs s_is_dealing) (defBody s_is_dealing) (defScope s_is_dealing) .none kV8 dc8 pm8 an8 cd8 ct8), sl8⟩) (c8 : PySem.W.codeIn K cd8 "is_dealing" = true) (k8 : PySem.W.keepIn K (.ref f8) = true)
    {f9 : Addr} {od9 an9 : Option Addr} {sl9 : Array (Option Value)} {oc9 kV9 dc9 pm9 cd9 ct9 : Value}
    (a9 : PySem.W.nsIn K mainGlobals "heaps_of" = some (some (.ref f9))) (l9 : K.lookup f9 = some ⟨oc9, od9, .func (PySem.W.fnOf "heaps_of" "heaps_of" (defArgs s_heaps_of) (defBody s_heaps_of) (defScope s_heaps_of) .none kV9 dc9 pm9 an9 cd9 ct9), sl9⟩) (c9 : PySem.W.codeIn K cd9 "heaps_of" = true) (k9 : PySem.W.keepIn K (.ref f9) = true)
    {f10 : Addr} {od10 an10 : Option Addr} {sl10 : Array (Option Value)} {oc10 kV10 dc10 pm10 cd10 ct10 : Value}
    (a10 : PySem.W.nsIn K mainGlobals "left_of" = some (some (.ref f10))) (l10 : K.lookup f10 = some ⟨oc10, od10, .func (PySem.W.fnOf "left_of" "left_of" (defArgs s_left_of) (defBody s_left_of) (defScope s_left_of) .none kV10 dc10 pm10 an10 cd10 ct10), sl10⟩) (c10 : PySem.W.codeIn K cd10 "left_of" = true) (k10 : PySem.W.keepIn K (.ref f10) = true)
    {f11 : Addr} {od11 an11 : Option Addr} {sl11 : Array (Option Value)} {oc11 kV11 dc11 pm11 cd11 ct11 : Value}
    (a11 : PySem.W.nsIn K mainGlobals "costs" = some (some (.ref f11))) (l11 : K.lookup f11 = some ⟨oc11, od11, .func (PySem.W.fnOf "costs" "costs" (defArgs s_costs) (defBody s_costs) (defScope s_costs) .none kV11 dc11 pm11 an11 cd11 ct11), sl11⟩) (c11 : PySem.W.codeIn K cd11 "costs" = true) (k11 : PySem.W.keepIn K (.ref f11) = true)
    {f12 : Addr} {od12 an12 : Option Addr} {sl12 : Array (Option Value)} {oc12 kV12 dc12 pm12 cd12 ct12 : Value}
    (a12 : PySem.W.nsIn K mainGlobals "gains" = some (some (.ref f12))) (l12 : K.lookup f12 = some ⟨oc12, od12, .func (PySem.W.fnOf "gains" "gains" (defArgs s_gains) (defBody s_gains) (defScope s_gains) .none kV12 dc12 pm12 an12 cd12 ct12), sl12⟩) (c12 : PySem.W.codeIn K cd12 "gains" = true) (k12 : PySem.W.keepIn K (.ref f12) = true)
    {f13 : Addr} {od13 an13 : Option Addr} {sl13 : Array (Option Value)} {oc13 kV13 dc13 pm13 cd13 ct13 : Value}
    (a13 : PySem.W.nsIn K mainGlobals "best_heaps" = some (some (.ref f13))) (l13 : K.lookup f13 = some ⟨oc13, od13, .func (PySem.W.fnOf "best_heaps" "best_heaps" (defArgs s_best_heaps) (defBody s_best_heaps) (defScope s_best_heaps) .none kV13 dc13 pm13 an13 cd13 ct13), sl13⟩) (c13 : PySem.W.codeIn K cd13 "best_heaps" = true) (k13 : PySem.W.keepIn K (.ref f13) = true)
    {f14 : Addr} {od14 an14 : Option Addr} {sl14 : Array (Option Value)} {oc14 kV14 dc14 pm14 cd14 ct14 : Value}
    (a14 : PySem.W.nsIn K mainGlobals "in_parts" = some (some (.ref f14))) (l14 : K.lookup f14 = some ⟨oc14, od14, .func (PySem.W.fnOf "in_parts" "in_parts" (defArgs s_in_parts) (defBody s_in_parts) (defScope s_in_parts) .none kV14 dc14 pm14 an14 cd14 ct14), sl14⟩) (c14 : PySem.W.codeIn K cd14 "in_parts" = true) (k14 : PySem.W.keepIn K (.ref f14) = true)
    {f15 : Addr} {od15 an15 : Option Addr} {sl15 : Array (Option Value)} {oc15 kV15 dc15 pm15 cd15 ct15 : Value}
    (a15 : PySem.W.nsIn K mainGlobals "meets" = some (some (.ref f15))) (l15 : K.lookup f15 = some ⟨oc15, od15, .func (PySem.W.fnOf "meets" "meets" (defArgs s_meets) (defBody s_meets) (defScope s_meets) .none kV15 dc15 pm15 an15 cd15 ct15), sl15⟩) (c15 : PySem.W.codeIn K cd15 "meets" = true) (k15 : PySem.W.keepIn K (.ref f15) = true)
    {f16 : Addr} {od16 an16 : Option Addr} {sl16 : Array (Option Value)} {oc16 kV16 dc16 pm16 cd16 ct16 : Value}
    (a16 : PySem.W.nsIn K mainGlobals "shows_meeting" = some (some (.ref f16))) (l16 : K.lookup f16 = some ⟨oc16, od16, .func (PySem.W.fnOf "shows_meeting" "shows_meeting" (defArgs s_shows_meeting) (defBody s_shows_meeting) (defScope s_shows_meeting) .none kV16 dc16 pm16 an16 cd16 ct16), sl16⟩) (c16 : PySem.W.codeIn K cd16 "shows_meeting" = true) (k16 : PySem.W.keepIn K (.ref f16) = true)
    {f17 : Addr} {od17 an17 : Option Addr} {sl17 : Array (Option Value)} {oc17 kV17 dc17 pm17 cd17 ct17 : Value}
    (a17 : PySem.W.nsIn K mainGlobals "_law_spool" = some (some (.ref f17))) (l17 : K.lookup f17 = some ⟨oc17, od17, .func (PySem.W.fnOf "_law_spool" "_law_spool" (defArgs s__law_spool) (defBody s__law_spool) (defScope s__law_spool) .none kV17 dc17 pm17 an17 cd17 ct17), sl17⟩) (c17 : PySem.W.codeIn K cd17 "_law_spool" = true) (k17 : PySem.W.keepIn K (.ref f17) = true)
    {f18 : Addr} {od18 an18 : Option Addr} {sl18 : Array (Option Value)} {oc18 kV18 dc18 pm18 cd18 ct18 : Value}
    (a18 : PySem.W.nsIn K mainGlobals "_law_wound" = some (some (.ref f18))) (l18 : K.lookup f18 = some ⟨oc18, od18, .func (PySem.W.fnOf "_law_wound" "_law_wound" (defArgs s__law_wound) (defBody s__law_wound) (defScope s__law_wound) .none kV18 dc18 pm18 an18 cd18 ct18), sl18⟩) (c18 : PySem.W.codeIn K cd18 "_law_wound" = true) (k18 : PySem.W.keepIn K (.ref f18) = true)
    {f19 : Addr} {od19 an19 : Option Addr} {sl19 : Array (Option Value)} {oc19 kV19 dc19 pm19 cd19 ct19 : Value}
    (a19 : PySem.W.nsIn K mainGlobals "_law_draw" = some (some (.ref f19))) (l19 : K.lookup f19 = some ⟨oc19, od19, .func (PySem.W.fnOf "_law_draw" "_law_draw" (defArgs s__law_draw) (defBody s__law_draw) (defScope s__law_draw) .none kV19 dc19 pm19 an19 cd19 ct19), sl19⟩) (c19 : PySem.W.codeIn K cd19 "_law_draw" = true) (k19 : PySem.W.keepIn K (.ref f19) = true)
    {f20 : Addr} {od20 an20 : Option Addr} {sl20 : Array (Option Value)} {oc20 kV20 dc20 pm20 cd20 ct20 : Value}
    (a20 : PySem.W.nsIn K mainGlobals "_law_alone" = some (some (.ref f20))) (l20 : K.lookup f20 = some ⟨oc20, od20, .func (PySem.W.fnOf "_law_alone" "_law_alone" (defArgs s__law_alone) (defBody s__law_alone) (defScope s__law_alone) .none kV20 dc20 pm20 an20 cd20 ct20), sl20⟩) (c20 : PySem.W.codeIn K cd20 "_law_alone" = true) (k20 : PySem.W.keepIn K (.ref f20) = true)
    {f21 : Addr} {od21 an21 : Option Addr} {sl21 : Array (Option Value)} {oc21 kV21 dc21 pm21 cd21 ct21 : Value}
    (a21 : PySem.W.nsIn K mainGlobals "_law_bad" = some (some (.ref f21))) (l21 : K.lookup f21 = some ⟨oc21, od21, .func (PySem.W.fnOf "_law_bad" "_law_bad" (defArgs s__law_bad) (defBody s__law_bad) (defScope s__law_bad) .none kV21 dc21 pm21 an21 cd21 ct21), sl21⟩) (c21 : PySem.W.codeIn K cd21 "_law_bad" = true) (k21 : PySem.W.keepIn K (.ref f21) = true)
    {f22 : Addr} {od22 an22 : Option Addr} {sl22 : Array (Option Value)} {oc22 kV22 dc22 pm22 cd22 ct22 : Value}
    (a22 : PySem.W.nsIn K mainGlobals "law" = some (some (.ref f22))) (l22 : K.lookup f22 = some ⟨oc22, od22, .func (PySem.W.fnOf "law" "law" (defArgs s_law) (defBody s_law) (defScope s_law) .none kV22 dc22 pm22 an22 cd22 ct22), sl22⟩) (c22 : PySem.W.codeIn K cd22 "law" = true) (k22 : PySem.W.keepIn K (.ref f22) = true)
    (z_len : PySem.W.nsIn K mainGlobals "len" = some none)
    (z_sum : PySem.W.nsIn K mainGlobals "sum" = some none)
    (z_isinstance : PySem.W.nsIn K mainGlobals "isinstance" = some none)
    (z_max : PySem.W.nsIn K mainGlobals "max" = some none)
    (z_range : PySem.W.nsIn K mainGlobals "range" = some none)
    (z_tuple : PySem.W.nsIn K mainGlobals "tuple" = some none)
    (z_list : PySem.W.nsIn K mainGlobals "list" = some none)
    (z_int : PySem.W.nsIn K mainGlobals "int" = some none)
    (z_bool : PySem.W.nsIn K mainGlobals "bool" = some none)
    (z_zip : PySem.W.nsIn K mainGlobals "zip" = some none)
    (z_enumerate : PySem.W.nsIn K mainGlobals "enumerate" = some none)
    (z_sorted : PySem.W.nsIn K mainGlobals "sorted" = some none)
    (z_all : PySem.W.nsIn K mainGlobals "all" = some none)
    {u_LEFT : Tok} (y_LEFT : PySem.W.nsIn K mainGlobals "LEFT" = some (some (.int (-1) u_LEFT)))
    : ∃ fd : FuncData, (∀ (s : Shared) (v : Value), BindsTo s fd ⟨[v], []⟩ [("_law_script", v)]) ∧ ∀ base : Heap, K.In base → base.Ns mainGlobals mg → FnOk l.prog w K mg base CX0 6 fa fd ["_law_script"] (sp_law K) := by
  have e := hfa.symm.trans (PySem.W.mg_of X G a22)
  cases e
  have T : Txt mg := ⟨PySem.W.mg_none_of X G z_len, PySem.W.mg_none_of X G z_sum, PySem.W.mg_none_of X G z_isinstance, PySem.W.mg_none_of X G z_max, PySem.W.mg_none_of X G z_range, PySem.W.mg_none_of X G z_tuple, PySem.W.mg_none_of X G z_list, PySem.W.mg_none_of X G z_int, PySem.W.mg_none_of X G z_bool, PySem.W.mg_none_of X G z_zip, PySem.W.mg_none_of X G z_enumerate, PySem.W.mg_none_of X G z_sorted, PySem.W.mg_none_of X G z_all, ⟨_, PySem.W.mg_of X G y_LEFT⟩⟩
  have F_has := fun_mk (st := s_has) l0 c0 k0
  have m_has := PySem.W.mg_of X G a0
  have b_has := F_has.binds (ps := ["heap", "thing"]) fun _ _ _ _ _ _ us hl => match us, hl with | [_, _], _ => rfl
  have F_things_in := fun_mk (st := s_things_in) l1 c1 k1
  have m_things_in := PySem.W.mg_of X G a1
  have b_things_in := F_things_in.binds (ps := ["heap"]) fun _ _ _ _ _ _ us hl => match us, hl with | [_], _ => rfl
  have F_heap_of := fun_mk (st := s_heap_of) l2 c2 k2
  have m_heap_of := PySem.W.mg_of X G a2
  have b_heap_of := F_heap_of.binds (ps := ["things"]) fun _ _ _ _ _ _ us hl => match us, hl with | [_], _ => rfl
  have F_heap_of_side := fun_mk (st := s_heap_of_side) l3 c3 k3
  have m_heap_of_side := PySem.W.mg_of X G a3
  have b_heap_of_side := F_heap_of_side.binds (ps := ["sides", "side"]) fun _ _ _ _ _ _ us hl => match us, hl with | [_, _], _ => rfl
  have F_is_whole := fun_mk (st := s_is_whole) l4 c4 k4
  have m_is_whole := PySem.W.mg_of X G a4
  have b_is_whole := F_is_whole.binds (ps := ["thing"]) fun _ _ _ _ _ _ us hl => match us, hl with | [_], _ => rfl
  have F_is_whole_from := fun_mk (st := s_is_whole_from) l5 c5 k5
  have m_is_whole_from := PySem.W.mg_of X G a5
  have b_is_whole_from := F_is_whole_from.binds (ps := ["thing", "least"]) fun _ _ _ _ _ _ us hl => match us, hl with | [_, _], _ => rfl
  have F_are_wholes := fun_mk (st := s_are_wholes) l6 c6 k6
  have m_are_wholes := PySem.W.mg_of X G a6
  have b_are_wholes := F_are_wholes.binds (ps := ["thing", "many"]) fun _ _ _ _ _ _ us hl => match us, hl with | [_, _], _ => rfl
  have F_are_wholes_from := fun_mk (st := s_are_wholes_from) l7 c7 k7
  have m_are_wholes_from := PySem.W.mg_of X G a7
  have b_are_wholes_from := F_are_wholes_from.binds (ps := ["thing", "many", "least"]) fun _ _ _ _ _ _ us hl => match us, hl with | [_, _, _], _ => rfl
  have F_is_dealing := fun_mk (st := s_is_dealing) l8 c8 k8
  have m_is_dealing := PySem.W.mg_of X G a8
  have b_is_dealing := F_is_dealing.binds (ps := ["town", "thing"]) fun _ _ _ _ _ _ us hl => match us, hl with | [_, _], _ => rfl
  have F_heaps_of := fun_mk (st := s_heaps_of) l9 c9 k9
  have m_heaps_of := PySem.W.mg_of X G a9
  have b_heaps_of := F_heaps_of.binds (ps := ["town", "dealing"]) fun _ _ _ _ _ _ us hl => match us, hl with | [_, _], _ => rfl
  have F_left_of := fun_mk (st := s_left_of) l10 c10 k10
  have m_left_of := PySem.W.mg_of X G a10
  have b_left_of := F_left_of.binds (ps := ["town", "dealing"]) fun _ _ _ _ _ _ us hl => match us, hl with | [_, _], _ => rfl
  have F_costs := fun_mk (st := s_costs) l11 c11 k11
  have m_costs := PySem.W.mg_of X G a11
  have b_costs := F_costs.binds (ps := ["prices"]) fun _ _ _ _ _ _ us hl => match us, hl with | [_], _ => rfl
  have F_gains := fun_mk (st := s_gains) l12 c12 k12
  have m_gains := PySem.W.mg_of X G a12
  have b_gains := F_gains.binds (ps := ["want", "prices"]) fun _ _ _ _ _ _ us hl => match us, hl with | [_, _], _ => rfl
  have F_best_heaps := fun_mk (st := s_best_heaps) l13 c13 k13
  have m_best_heaps := PySem.W.mg_of X G a13
  have b_best_heaps := F_best_heaps.binds (ps := ["want", "prices"]) fun _ _ _ _ _ _ us hl => match us, hl with | [_, _], _ => rfl
  have F_in_parts := fun_mk (st := s_in_parts) l14 c14 k14
  have m_in_parts := PySem.W.mg_of X G a14
  have b_in_parts := F_in_parts.binds (ps := ["want", "by"]) fun _ _ _ _ _ _ us hl => match us, hl with | [_, _], _ => rfl
  have F_meets := fun_mk (st := s_meets) l15 c15 k15
  have m_meets := PySem.W.mg_of X G a15
  have b_meets := F_meets.binds (ps := ["town", "by", "numbers", "dealing"]) fun _ _ _ _ _ _ us hl => match us, hl with | [_, _, _, _], _ => rfl
  have F_shows_meeting := fun_mk (st := s_shows_meeting) l16 c16 k16
  have m_shows_meeting := PySem.W.mg_of X G a16
  have b_shows_meeting := F_shows_meeting.binds (ps := ["town", "thing"]) fun _ _ _ _ _ _ us hl => match us, hl with | [_, _], _ => rfl
  have F__law_spool := fun_mk (st := s__law_spool) l17 c17 k17
  have m__law_spool := PySem.W.mg_of X G a17
  have b__law_spool := F__law_spool.binds (ps := ["_law_script"]) fun _ _ _ _ _ _ us hl => match us, hl with | [_], _ => rfl
  have F__law_wound := fun_mk (st := s__law_wound) l18 c18 k18
  have m__law_wound := PySem.W.mg_of X G a18
  have b__law_wound := F__law_wound.binds (ps := ["_law_number", "_law_turn"]) fun _ _ _ _ _ _ us hl => match us, hl with | [_, _], _ => rfl
  have F__law_draw := fun_mk (st := s__law_draw) l19 c19 k19
  have m__law_draw := PySem.W.mg_of X G a19
  have b__law_draw := F__law_draw.binds (ps := ["_law_spool_here", "_law_many"]) fun _ _ _ _ _ _ us hl => match us, hl with | [_, _], _ => rfl
  have F__law_alone := fun_mk (st := s__law_alone) l20 c20 k20
  have m__law_alone := PySem.W.mg_of X G a20
  have b__law_alone := F__law_alone.binds (ps := ["_law_spool_here"]) fun _ _ _ _ _ _ us hl => match us, hl with | [_], _ => rfl
  have F__law_bad := fun_mk (st := s__law_bad) l21 c21 k21
  have m__law_bad := PySem.W.mg_of X G a21
  have b__law_bad := F__law_bad.binds (ps := ["_law_spool_here", "_law_town", "_law_thing"]) fun _ _ _ _ _ _ us hl => match us, hl with | [_, _, _], _ => rfl
  have F_law := fun_mk (st := s_law) l22 c22 k22
  have m_law := PySem.W.mg_of X G a22
  have b_law := F_law.binds (ps := ["_law_script"]) fun _ _ _ _ _ _ us hl => match us, hl with | [_], _ => rfl
  refine ⟨PySem.W.fnOf "law" "law" (defArgs s_law) (defBody s_law) (defScope s_law) .none kV22 dc22 pm22 an22 cd22 ct22, fun s v => .of_eq rfl, fun base _ _ => ?_⟩
  have c_costs := ok_costs (P := l.prog) (w := w) (base := base) F_costs m_costs b_costs T
  have c_gains := ok_gains (P := l.prog) (w := w) (base := base) F_gains m_gains b_gains T c_costs
  have fn_best := ok_best (P := l.prog) (w := w) (base := base) F_best_heaps T c_gains
  have c_best := cal_fn (P := l.prog) (w := w) (base := base) F_best_heaps fn_best m_best_heaps b_best_heaps
  have c_parts := ok_parts (P := l.prog) (w := w) (base := base) F_in_parts m_in_parts b_in_parts T
  have c_has := ok_has (P := l.prog) (w := w) (base := base) F_has m_has b_has T
  have c_things := ok_things (P := l.prog) (w := w) (base := base) F_things_in m_things_in b_things_in T c_has
  have c_heap_of := ok_heap_of (P := l.prog) (w := w) (base := base) F_heap_of m_heap_of b_heap_of T
  have c_hos := ok_hos (P := l.prog) (w := w) (base := base) F_heap_of_side m_heap_of_side b_heap_of_side T c_heap_of
  have c_heaps := ok_heaps (P := l.prog) (w := w) (base := base) F_heaps_of m_heaps_of b_heaps_of T c_hos
  have c_left := ok_left_of (P := l.prog) (w := w) (base := base) F_left_of m_left_of b_left_of T c_hos
  have c_whole := ok_whole (P := l.prog) (w := w) (base := base) F_is_whole m_is_whole b_is_whole T
  have c_isfrom := ok_isfrom (P := l.prog) (w := w) (base := base) F_is_whole_from m_is_whole_from b_is_whole_from T c_whole
  have c_wholes := ok_wholes (P := l.prog) (w := w) (base := base) F_are_wholes m_are_wholes b_are_wholes T c_whole
  have c_from := ok_from (P := l.prog) (w := w) (base := base) F_are_wholes_from m_are_wholes_from b_are_wholes_from T c_wholes
  have c_isd := ok_isd (P := l.prog) (w := w) (base := base) F_is_dealing m_is_dealing b_is_dealing T c_from
  have fn_meets := ok_meets (P := l.prog) (w := w) (base := base) F_meets T c_heaps c_left c_things c_parts c_best
  have c_meets := cal_fn (P := l.prog) (w := w) (base := base) F_meets fn_meets m_meets b_meets
  have c_shows := ok_shows (P := l.prog) (w := w) (base := base) F_shows_meeting m_shows_meeting b_shows_meeting T c_isfrom c_from c_isd c_meets
  have c_wound := ok_wound (P := l.prog) (w := w) (base := base) F__law_wound m__law_wound b__law_wound T
  have c_draw := ok_draw (P := l.prog) (w := w) (base := base) F__law_draw m__law_draw b__law_draw T c_wound
  have c_spool := ok_spool (P := l.prog) (w := w) (base := base) F__law_spool m__law_spool b__law_spool T
  have c_alone := ok_alone (P := l.prog) (w := w) (base := base) F__law_alone m__law_alone b__law_alone T c_draw
  have c_bad := ok_bad (P := l.prog) (w := w) (base := base) F__law_bad m__law_bad b__law_bad T c_draw
  exact ok_law (P := l.prog) (w := w) (base := base) F_law T c_spool c_alone c_bad c_shows
theorem walk {l : PySem.W.OpenLaw} {q : Program} {loose : List Str} {XP : (Str → Option Value) → Heap → Prop} {YP : World → Heap → Prop} {d : DefRec} {K : Params → PySem.W.Frag} (hn : l.most = some 63) (hdf : d.params.defaults = [])
    (hY : ∀ (w : World) (h : Heap), YP w h → (K w.params).In h)
    (F : ∀ (w : World) (mg : Str → Option Value) (fa : Addr) (h : Heap), (K w.params).In h → h.Ns mainGlobals mg → mg d.name = some (.ref fa) →
      ∃ fd : FuncData, (∀ (s : Shared) (u : Value), BindsTo s fd ⟨[u], []⟩ [("_law_script", u)]) ∧ ∀ base : Heap, (K w.params).In base → base.Ns mainGlobals mg → FnOk l.prog w (K w.params) mg base CX0 6 fa fd ["_law_script"] (sp_law (K w.params))) :
    PySem.W.WalkO q loose XP YP l.row.toRowW d [] (fun f vs => PySem.call f vs) :=
  L2.walk_of (n := 63) (k := 6) (x := "_law_script") (CX := fun _ => CX0) (sp := fun w => sp_law (K w.params)) hn (by decide) hdf ⟨rfl, by decide, by decide⟩ hY F (fun w H a ns hl hO hS => ⟨a, ns, rfl, hS, hl, fun _ => rfl⟩) fun _ _ _ _ _ z => z
end K44
open PySem PySem.W PyProof.Rows
set_option maxRecDepth 100000 in
set_option maxHeartbeats 0 in
theorem PySem.Challenge.cw_wantprices_k44_meetings_of_any_kind_holds : PySem.Challenge.rw_wantprices_k44_meetings_of_any_kind.Holds := by
  w_on; o_law; k_head; (case hw => w_witness2)
  k_fill
  refine K44.walk (l := PySem.Challenge.rw_wantprices_k44_meetings_of_any_kind) rfl rfl (fun w h Y => PySem.W.kIn_of Y) ?F
  case F =>
    intro w mg fa h KX G hmg
    refine' K44.all_mk KX G hmg ?a0 ?l0 ?c0 ?k0 ?a1 ?l1 ?c1 ?k1 ?a2 ?l2 ?c2 ?k2 ?a3 ?l3 ?c3 ?k3 ?a4 ?l4 ?c4 ?k4 ?a5 ?l5 ?c5 ?k5 ?a6 ?l6 ?c6 ?k6 ?a7 ?l7 ?c7 ?k7 ?a8 ?l8 ?c8 ?k8 ?a9 ?l9 ?c9 ?k9 ?a10 ?l10 ?c10 ?k10 ?a11 ?l11 ?c11 ?k11 ?a12 ?l12 ?c12 ?k12 ?a13 ?l13 ?c13 ?k13 ?a14 ?l14 ?c14 ?k14 ?a15 ?l15 ?c15 ?k15 ?a16 ?l16 ?c16 ?k16 ?a17 ?l17 ?c17 ?k17 ?a18 ?l18 ?c18 ?k18 ?a19 ?l19 ?c19 ?k19 ?a20 ?l20 ?c20 ?k20 ?a21 ?l21 ?c21 ?k21 ?a22 ?l22 ?c22 ?k22 ?z_len ?z_sum ?z_isinstance ?z_max ?z_range ?z_tuple ?z_list ?z_int ?z_bool ?z_zip ?z_enumerate ?z_sorted ?z_all ?y_LEFT
    (case a0 => k_is)
    (case l0 => k_is)
    (case c0 => k_is)
    (case k0 => k_is)
    (case a1 => k_is)
    (case l1 => k_is)
    (case c1 => k_is)
    (case k1 => k_is)
    (case a2 => k_is)
    (case l2 => k_is)
    (case c2 => k_is)
    (case k2 => k_is)
    (case a3 => k_is)
    (case l3 => k_is)
    (case c3 => k_is)
    (case k3 => k_is)
    (case a4 => k_is)
    (case l4 => k_is)
    (case c4 => k_is)
    (case k4 => k_is)
    (case a5 => k_is)
    (case l5 => k_is)
    (case c5 => k_is)
    (case k5 => k_is)
    (case a6 => k_is)
    (case l6 => k_is)
    (case c6 => k_is)
    (case k6 => k_is)
    (case a7 => k_is)
    (case l7 => k_is)
    (case c7 => k_is)
    (case k7 => k_is)
    (case a8 => k_is)
    (case l8 => k_is)
    (case c8 => k_is)
    (case k8 => k_is)
    (case a9 => k_is)
    (case l9 => k_is)
    (case c9 => k_is)
    (case k9 => k_is)
    (case a10 => k_is)
    (case l10 => k_is)
    (case c10 => k_is)
    (case k10 => k_is)
    (case a11 => k_is)
    (case l11 => k_is)
    (case c11 => k_is)
    (case k11 => k_is)
    (case a12 => k_is)
    (case l12 => k_is)
    (case c12 => k_is)
    (case k12 => k_is)
    (case a13 => k_is)
    (case l13 => k_is)
    (case c13 => k_is)
    (case k13 => k_is)
    (case a14 => k_is)
    (case l14 => k_is)
    (case c14 => k_is)
    (case k14 => k_is)
    (case a15 => k_is)
    (case l15 => k_is)
    (case c15 => k_is)
    (case k15 => k_is)
    (case a16 => k_is)
    (case l16 => k_is)
    (case c16 => k_is)
    (case k16 => k_is)
    (case a17 => k_is)
    (case l17 => k_is)
    (case c17 => k_is)
    (case k17 => k_is)
    (case a18 => k_is)
    (case l18 => k_is)
    (case c18 => k_is)
    (case k18 => k_is)
    (case a19 => k_is)
    (case l19 => k_is)
    (case c19 => k_is)
    (case k19 => k_is)
    (case a20 => k_is)
    (case l20 => k_is)
    (case c20 => k_is)
    (case k20 => k_is)
    (case a21 => k_is)
    (case l21 => k_is)
    (case c21 => k_is)
    (case k21 => k_is)
    (case a22 => k_is)
    (case l22 => k_is)
    (case c22 => k_is)
    (case k22 => k_is)
    (case z_len => k_is)
    (case z_sum => k_is)
    (case z_isinstance => k_is)
    (case z_max => k_is)
    (case z_range => k_is)
    (case z_tuple => k_is)
    (case z_list => k_is)
    (case z_int => k_is)
    (case z_bool => k_is)
    (case z_zip => k_is)
    (case z_enumerate => k_is)
    (case z_sorted => k_is)
    (case z_all => k_is)
    (case y_LEFT => k_is)
end
