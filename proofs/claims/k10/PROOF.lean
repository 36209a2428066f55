import PyProof.Rows.All
import Wide.All
import OpenK.AllK
import Wide.FinOn
import Lean
import PyProof.EqAt
import PyProof.EqKinds
import PyProof.TupleCall
import PyProof.MinMaxWalk
import KE.KDictList
import PySem.Challenge.RW_wantprices_k10_wants_of_pairs
section
set_option Elab.async false
set_option linter.all false
set_option maxRecDepth 100000
namespace L2
open PySem PySem.Spec PyProof.Rows
abbrev Key := Sum Int Str
def keyIs : Key → Value → Bool
  | .inl k, v => Value.isInt k v
  | .inr x, v => Value.isStrOf x v
def keyH (w : World) : Key → Int
  | .inl k => hashInt k
  | .inr x => hashStr w x
theorem keyIs_shape : ∀ {k : Key} {v : Value}, keyIs k v = true → (∃ i t, k = Sum.inl i ∧ v = Value.int i t) ∨ (∃ x t, k = Sum.inr x ∧ v = Value.str x t)
  | .inl i, v, h => by
    obtain ⟨t, e⟩ := Value.isInt_shape (k := i) (v := v) h
    exact .inl ⟨i, t, rfl, e⟩
  | .inr x, v, h => by
    obtain ⟨t, e⟩ := Value.isStrOf_shape (x := x) (v := v) h
    exact .inr ⟨x, t, rfl, e⟩
theorem keyIs_int (i : Int) (t : Tok) : keyIs (.inl i) (.int i t) = true := by simp [keyIs, Value.isInt]
theorem keyIs_str (x : Str) (t : Tok) : keyIs (.inr x) (.str x t) = true := by simp [keyIs, Value.isStrOf]
theorem key_ll (a b : Int) : decide ((Sum.inl a : Key) = Sum.inl b) = (a == b) := by
  by_cases e : a = b
  · subst e; simp
  · have h : ¬ (Sum.inl a : Key) = Sum.inl b := fun q => e (Sum.inl.inj q)
    rw [decide_eq_false h]
    exact (beq_eq_false_iff_ne.mpr e).symm
theorem key_rr (a b : Str) : decide ((Sum.inr a : Key) = Sum.inr b) = decide (a = b) := by
  by_cases e : a = b
  · subst e; simp
  · have h : ¬ (Sum.inr a : Key) = Sum.inr b := fun q => e (Sum.inr.inj q)
    rw [decide_eq_false h, decide_eq_false e]
theorem key_lr (a : Int) (b : Str) : decide ((Sum.inl a : Key) = Sum.inr b) = false := decide_eq_false (fun q => nomatch q)
theorem key_rl (a : Str) (b : Int) : decide ((Sum.inr a : Key) = Sum.inl b) = false := decide_eq_false (fun q => nomatch q)
def mixKind (prog : Program) (w : World) : PySem.KeyKind prog w Key where
  is := keyIs
  hash := keyH w
  inj := fun v a b ha hb => by
    rcases keyIs_shape ha with ⟨i, t, rfl, rfl⟩ | ⟨x, t, rfl, rfl⟩
    · rcases keyIs_shape hb with ⟨j, u, rfl, e⟩ | ⟨y, u, rfl, e⟩
      · injection e with e1 _; rw [e1]
      · exact nomatch e
    · rcases keyIs_shape hb with ⟨j, u, rfl, e⟩ | ⟨y, u, rfl, e⟩
      · exact nomatch e
      · injection e with e1 _; rw [e1]
  byValue := fun k v h => by
    rcases keyIs_shape h with ⟨i, t, rfl, rfl⟩ | ⟨x, t, rfl, rfl⟩ <;> rfl
  pyHash := fun hv h => by
    rcases keyIs_shape hv with ⟨i, t, rfl, rfl⟩ | ⟨x, t, rfl, rfl⟩
    · exact wpAny_pyHash_int h
    · exact wpAny_pyHash_str h
  eqBool := fun hu hv h => by
    rcases keyIs_shape hu with ⟨i, t, rfl, rfl⟩ | ⟨x, t, rfl, rfl⟩
    · rcases keyIs_shape hv with ⟨j, u, rfl, rfl⟩ | ⟨y, u, rfl, rfl⟩
      · rw [key_ll] at h; exact wpAny_eqBool_int h
      · rw [key_lr] at h; exact SeqAt.EqAt.int_str i t y u _ _ _ _ h
    · rcases keyIs_shape hv with ⟨j, u, rfl, rfl⟩ | ⟨y, u, rfl, rfl⟩
      · rw [key_rl] at h; exact SeqAt.EqAt.str_int x t j u _ _ _ _ h
      · rw [key_rr] at h; exact wpAny_eqBool_str h
  «strs» := fun k x t v h => by
    rcases keyIs_shape h with ⟨i, u, rfl, e⟩ | ⟨y, u, rfl, e⟩
    · exact nomatch e
    · injection e with e1 _
      subst e1
      cases v <;> rfl
theorem mixKind_int (prog : Program) (w : World) (i : Int) (t : Tok) : (mixKind prog w).is (.inl i) (.int i t) = true := keyIs_int i t
theorem mixKind_str (prog : Program) (w : World) (x : Str) (t : Tok) : (mixKind prog w).is (.inr x) (.str x t) = true := keyIs_str x t
end L2
namespace L2
open PySem PySem.Spec PyProof.Rows
inductive V where
  | non | bl (b : Bool) | int (i : Int) | str (x : Str) | byt (b : Array UInt8) | flt (b : UInt64) | ref (a : Addr) | ty (n : String)
  deriving DecidableEq
def RelV : V → Value → Prop
  | .non, u => u = Value.none
  | .bl b, u => u = Value.bool b
  | .int i, u => ∃ t, u = Value.int i t
  | .str x, u => ∃ t, u = Value.str x t
  | .byt b, u => ∃ t, u = Value.bytes b t
  | .flt b, u => ∃ t, u = Value.float b t
  | .ref a, u => u = Value.ref a
  | .ty n, u => u = Value.type n
abbrev Vals : List V → List Value → Prop := Paired RelV
theorem Vals.length {xs : List V} {us : List Value} (r : Vals xs us) : xs.length = us.length := Paired.length r
theorem Vals.get : ∀ {xs : List V} {us : List Value} {i : Nat} {x : V}, Vals xs us → xs[i]? = some x → ∃ u, us[i]? = some u ∧ RelV x u
  | _, _, _, _, .nil, e => by simp at e
  | _, _, 0, _, .cons r _, e => by simp at e; subst e; exact ⟨_, rfl, r⟩
  | _, _, i + 1, x, .cons _ t, e => by
    obtain ⟨u, h1, h2⟩ := Vals.get (i := i) (x := x) t (by simpa using e)
    exact ⟨u, by simpa using h1, h2⟩
theorem Vals.set {x : V} {u : Value} (r : RelV x u) : ∀ {xs : List V} {us : List Value} (i : Nat), Vals xs us → Vals (xs.set i x) (us.set i u)
  | _, _, _, .nil => .nil
  | _, _, 0, .cons _ t => .cons r t
  | _, _, i + 1, .cons q t => .cons q (Vals.set r i t)
theorem Vals.append : ∀ {xs ys : List V} {us ws : List Value}, Vals xs us → Vals ys ws → Vals (xs ++ ys) (us ++ ws)
  | _, _, _, _, .nil, s => s
  | _, _, _, _, .cons r t, s => .cons r (Vals.append t s)
theorem Vals.take : ∀ {xs : List V} {us : List Value} (n : Nat), Vals xs us → Vals (xs.take n) (us.take n)
  | _, _, 0, _ => .nil
  | _, _, _ + 1, .nil => .nil
  | _, _, n + 1, .cons r t => .cons r (Vals.take n t)
theorem Vals.drop : ∀ {xs : List V} {us : List Value} (n : Nat), Vals xs us → Vals (xs.drop n) (us.drop n)
  | _, _, 0, r => r
  | _, _, _ + 1, .nil => .nil
  | _, _, n + 1, .cons _ t => Vals.drop n t
def RelO : Option V → Option Value → Prop
  | some v, some u => RelV v u
  | none, none => True
  | _, _ => False
def KV {κ : Type} : List (κ × V) → List (κ × Value) → Prop := Paired fun (p : κ × V) (q : κ × Value) => p.1 = q.1 ∧ RelV p.2 q.2
def kV : Key → V
  | .inl i => .int i
  | .inr x => .str x
inductive HO where
  | lst (xs : List V)
  | tup (xs : List V)
  | dK (kvs : List (Key × V)) | dT (kvs : List (List Key × V))
  | set (S : Int → Bool) (n : Nat)
  | ins (C dx : Addr) (fs : List (Str × V))
  | own (x : Addr)
  | xd (fs : List (Str × V))
  | met (f x : Addr)
  | rng (lo hi : Int)
  | frz (o : Obj) (u : HO)
  | tbl (ps : Array Value)
  | ext (φ : Heap → Prop)
abbrev Hp := Addr → Option HO
def upd (H : Hp) (a : Addr) (o : HO) : Hp := fun b => if b = a then some o else H b
theorem upd_same {H : Hp} {a : Addr} {o : HO} : upd H a o a = some o := by unfold upd; rw [if_pos rfl]
theorem upd_ne {H : Hp} {a b : Addr} {o : HO} (h : b ≠ a) : upd H a o b = H b := by unfold upd; rw [if_neg h]
theorem upd_upd {H : Hp} {a : Addr} {o u : HO} : upd (upd H a o) a u = upd H a u := by
  funext b; unfold upd; split <;> rfl
theorem ne_of {H : Hp} {a b : Addr} {o u : HO} (h : H a = some o) (h' : H b = some u) (d : o ≠ u) : a ≠ b := by
  intro e; subst e; rw [h] at h'; exact d (Option.some.inj h')
theorem ne_of_none {H : Hp} {a b : Addr} {o : HO} (h : H a = some o) (h' : H b = none) : a ≠ b := by
  intro e; subst e; rw [h] at h'; cases h'
section
variable (P : Program) (w : World)
def ObjOk (H : Hp) (h : Heap) (a : Addr) : HO → Prop
  | .lst xs => xs.length ≤ sizeLine ∧ ∃ (its : List Value) (n : Nat), Vals xs its ∧ h.get? a = some { cls := .type "list", data := .seq its.toArray n }
  | .tup xs => xs.length ≤ sizeLine ∧ ∃ its : List Value, Vals xs its ∧ IsTup h a its.toArray
  | .dK kvs => kvs.length ≤ sizeLine ∧ (a == sysModules) = false ∧ ∃ vs, KV kvs vs ∧ h.DictOf (mixKind P w) a vs
  | .dT kvs => kvs.length ≤ sizeLine ∧ (a == sysModules) = false ∧ ∃ xs : List (List Key × Addr × Value),
      Paired (fun (p : List Key × V) (q : List Key × Addr × Value) => p.1 = q.1 ∧ H q.2.1 = some (.tup (p.1.map kV)) ∧ RelV p.2 q.2.2) kvs xs ∧
      ∃ o es ep, h.get? a = some o ∧ o.ExactDict ∧ o.data = .dict es ep ∧ es.toList = xs.map (entryOfKey (tupleKind (mixKind P w))) ∧ (xs.map (·.1)).Nodup
  | .set S n => h.SetOf (intKind P w) a S n
  | .ins C dx fs => H dx = some (.own a) ∧ fs.length ≤ 1000 ∧ dx ≠ a ∧ h.get? a = some (PySem.W.instObj C dx) ∧
      ∃ mA, h.Ns1 dx mA ∧ (∀ f, RelO (fs.lookup f) (mA f)) ∧ PySem.Within mA (fs.map (·.1))
  | .own _ => ∃ o, h.get? a = some o
  | .xd fs => ∃ mA, h.Ns1 a mA ∧ ∀ f, RelO (fs.lookup f) (mA f)
  | .rng lo hi => ∃ t u v, h.get? a = some { cls := .type "range", data := .fields #[.int lo t, .int hi u, .int 1 v] }
  | .frz o u => h.get? a = some o ∧ ObjOk H h a u
  | .tbl ps => h.get? a = some { cls := .none, data := .fields ps }
  | .met f x => h.get? a = some (PySem.W.methodObj (.ref f) (.ref x))
  | .ext φ => φ h ∧ (∃ o, h.get? a = some o) ∧ ∀ h1 h2 : Heap, φ h1 → (∀ o, h1.get? a = some o → h2.get? a = some o) → φ h2
def HOk (H : Hp) (h : Heap) : Prop := ∀ a o, H a = some o → ObjOk P w H h a o
end
section
variable {P : Program} {w : World} {H H' : Hp} {h h' : Heap} {a : Addr} {o : HO}
theorem ObjOk.lt (x : ObjOk P w H h a o) : a < h.objs.size := by
  cases o with
  | lst xs => obtain ⟨_, _, _, _, e⟩ := x; exact Heap.lt_size e
  | tup xs => obtain ⟨_, _, _, p⟩ := x; exact p.lt
  | dK kvs => obtain ⟨_, _, _, _, o, _, _, e, _⟩ := x; exact Heap.lt_size e
  | dT kvs => obtain ⟨_, _, _, _, o, _, _, e, _⟩ := x; exact Heap.lt_size e
  | set S n => obtain ⟨o, _, _, _, e, _⟩ := x; exact Heap.lt_size e
  | ins C dx fs => obtain ⟨_, _, _, e, _⟩ := x; exact Heap.lt_size e
  | own y => obtain ⟨_, e⟩ := x; exact Heap.lt_size e
  | xd fs => obtain ⟨_, ⟨_, _, _, e, _⟩, _⟩ := x; exact Heap.lt_size e
  | rng lo hi => obtain ⟨_, _, _, e⟩ := x; exact Heap.lt_size e
  | frz ob u => obtain ⟨e, _⟩ := x; exact Heap.lt_size e
  | tbl ps => exact Heap.lt_size (show h.get? a = some _ from x)
  | met f y => exact Heap.lt_size (show h.get? a = some _ from x)
  | ext φ => obtain ⟨_, ⟨_, e⟩, _⟩ := x; exact Heap.lt_size e
theorem Paired.mapP {α β : Type} {F G : α → β → Prop} : ∀ {l₁ : List α} {l₂ : List β}, Paired F l₁ l₂ → (∀ a b, F a b → G a b) → Paired G l₁ l₂
  | _, _, .nil, _ => .nil
  | _, _, .cons r t, f => .cons (f _ _ r) (Paired.mapP t f)
theorem ObjOk.stay (x : ObjOk P w H h a o) (k : ∀ b u, (b = a ∨ H b = some (.own a)) → h.get? b = some u → h'.get? b = some u)
    (ho : ∀ b, H b = some (.own a) → H' b = some (.own a)) (ht : ∀ b xs, H b = some (.tup xs) → H' b = some (.tup xs)) : ObjOk P w H' h' a o := by
  induction o with
  | lst xs => obtain ⟨z, its, n, r, e⟩ := x; exact ⟨z, its, n, r, k _ _ (.inl rfl) e⟩
  | tup xs => obtain ⟨z, its, r, ob, e, c⟩ := x; exact ⟨z, its, r, ob, k _ _ (.inl rfl) e, c⟩
  | dK kvs => obtain ⟨z, y, vs, r, ob, es, ep, e, c⟩ := x; exact ⟨z, y, vs, r, ob, es, ep, k _ _ (.inl rfl) e, c⟩
  | dT kvs =>
    obtain ⟨z, y, xs, r, ob, es, ep, e, c⟩ := x
    exact ⟨z, y, xs, Paired.mapP r fun p q z => ⟨z.1, ht _ _ z.2.1, z.2.2⟩, ob, es, ep, k _ _ (.inl rfl) e, c⟩
  | set S n => obtain ⟨ob, es, ep, t, e, c⟩ := x; exact ⟨ob, es, ep, t, k _ _ (.inl rfl) e, c⟩
  | ins C dx fs =>
    obtain ⟨d, z, ne, e, mA, ⟨od, es, ep, e2, c⟩, r⟩ := x
    exact ⟨ho _ d, z, ne, k _ _ (.inl rfl) e, mA, ⟨od, es, ep, k _ _ (.inr d) e2, c⟩, r⟩
  | own y => obtain ⟨ob, e⟩ := x; exact ⟨ob, k _ _ (.inl rfl) e⟩
  | xd fs => obtain ⟨mA, ⟨od, es, ep, e, c⟩, r⟩ := x; exact ⟨mA, ⟨od, es, ep, k _ _ (.inl rfl) e, c⟩, r⟩
  | rng lo hi => obtain ⟨t, u, v, e⟩ := x; exact ⟨t, u, v, k _ _ (.inl rfl) e⟩
  | frz ob u ih => obtain ⟨e, q⟩ := x; exact ⟨k _ _ (.inl rfl) e, ih q⟩
  | tbl ps =>
    have e : h.get? a = some { cls := .none, data := .fields ps } := x
    show h'.get? a = some { cls := .none, data := .fields ps }
    exact k a _ (.inl rfl) e
  | met f y =>
    have e : h.get? a = some (PySem.W.methodObj (.ref f) (.ref y)) := x
    show h'.get? a = some (PySem.W.methodObj (.ref f) (.ref y))
    exact k a _ (.inl rfl) e
  | ext φ => obtain ⟨p, ⟨o, e⟩, st⟩ := x; exact ⟨st _ _ p fun o q => k _ _ (.inl rfl) q, ⟨o, k _ _ (.inl rfl) e⟩, st⟩
theorem HOk.lt (x : HOk P w H h) (e : H a = some o) : a < h.objs.size := (x a o e).lt
theorem HOk.fresh (x : HOk P w H h) (e : h.objs.size ≤ a) : H a = none := by
  cases q : H a with
  | none => rfl
  | some u => exact absurd (Nat.lt_of_lt_of_le (x.lt q) e) (Nat.lt_irrefl _)
theorem HOk.kept (x : HOk P w H h) (k : ∀ b u, h.get? b = some u → h'.get? b = some u) : HOk P w H h' := fun a o e =>
  (x a o e).stay (fun b u _ q => k b u q) (fun _ q => q) fun _ _ q => q
theorem HOk.laid (x : HOk P w H h) (k : ∀ b u, h.get? b = some u → h'.get? b = some u) (hp : h.objs.size ≤ a) (new : ObjOk P w (upd H a o) h' a o) : HOk P w (upd H a o) h' := fun b u e => by
  have hn := x.fresh hp
  by_cases hb : b = a
  · subst hb; rw [upd_same] at e; cases e; exact new
  · rw [upd_ne hb] at e
    exact (x b u e).stay (fun c v _ q => k c v q) (fun c q => by rw [upd_ne (ne_of_none q hn)]; exact q) fun c xs q => by rw [upd_ne (ne_of_none q hn)]; exact q
end
def Rd (H : Hp) (a : Addr) (u : HO) : Prop := H a = some u ∨ ∃ o, H a = some (.frz o u)
theorem Rd.of {H : Hp} {a : Addr} {u : HO} (h : H a = some u) : Rd H a u := .inl h
theorem Rd.ok {P : Program} {w : World} {H : Hp} {h : Heap} {a : Addr} {u : HO} (r : Rd H a u) (x : HOk P w H h) : ObjOk P w H h a u := by
  rcases r with r | ⟨o, r⟩
  · exact x a u r
  · obtain ⟨_, q⟩ := x a _ r
    exact q
def Mut : Option HO → Prop
  | some (.lst _) => True
  | some (.dK _) => True
  | some (.dT _) => True
  | some (.set _ _) => True
  | some (.ins _ _ _) => True
  | some (.ext _) => True
  | _ => False
section
variable {P : Program} {w : World} {H : Hp} {h h' : Heap} {x e : Addr} {o' : HO}
theorem HOk.write (ok : HOk P w H h) (mu : Mut (H x)) (he : e = x ∨ H e = some (.own x)) (k : ∀ b u, b ≠ e → h.get? b = some u → h'.get? b = some u) (heo : ∃ u, h'.get? e = some u)
    (new : ObjOk P w (upd H x o') h' x o') : HOk P w (upd H x o') h' := fun b u q => by
  have nown : ∀ c y, H c = some (.own y) → c ≠ x := fun c y r z => by subst z; rw [r] at mu; exact mu
  have ntup : ∀ c xs, H c = some (.tup xs) → c ≠ x := fun c xs r z => by subst z; rw [r] at mu; exact mu
  by_cases hb : b = x
  · subst hb; rw [upd_same] at q; cases q; exact new
  · rw [upd_ne hb] at q
    by_cases hbe : b = e
    · have q' : H b = some (.own x) := by
        rcases he with z | z
        · exact absurd (hbe.trans z) hb
        · rw [hbe]; exact z
      rw [q] at q'; cases q'
      obtain ⟨v, hv⟩ := heo
      exact ⟨v, by rw [hbe]; exact hv⟩
    · refine (ok b u q).stay (fun c v hc r => k c v ?_ r) (fun c r => by rw [upd_ne (nown c b r)]; exact r) fun c xs r => by rw [upd_ne (ntup c xs r)]; exact r
      rcases hc with rfl | hc
      · exact hbe
      · rintro rfl
        rcases he with z | z
        · exact nown c b hc z
        · rw [hc] at z; cases z; exact hb rfl
end
structure Un (fs ex : List Addr) (H H' : Hp) (h h' : Heap) : Prop where
  keep : ∀ b o, h.get? b = some o → H b = none → b ∉ fs → b ∉ ex → h'.get? b = some o
  slot : ∀ b o, h.get? b = some o → H b = none → b ∈ fs → b ∉ ex → ∃ sl, h'.get? b = some { o with slots := sl }
  free : ∀ b o, h.get? b = some o → H b = none → b ∉ ex → H' b = none
  there : ∀ b o, h.get? b = some o → b ∉ ex → ∃ o', h'.get? b = some o'
  tups : ∀ b xs, H b = some (.tup xs) → H' b = some (.tup xs)
  frzs : ∀ b o u, H b = some (.frz o u) → H' b = some (.frz o u)
  tbls : ∀ b ps, H b = some (.tbl ps) → ∃ more, H' b = some (.tbl (ps ++ more))
section
variable {fs fs' ex ex' : List Addr} {H H1 H2 : Hp} {h h1 h2 h' : Heap} {a x e : Addr} {o : HO}
theorem Un.any (u : Un fs ex H H1 h h1) {b : Addr} {ob : Obj} (q : h.get? b = some ob) (n : H b = none) (hx : b ∉ ex) : ∃ sl, h1.get? b = some { ob with slots := sl } := by
  by_cases hb : b ∈ fs
  · exact u.slot b ob q n hb hx
  · exact ⟨ob.slots, u.keep b ob q n hb hx⟩
theorem Un.trans (a : Un fs ex H H1 h h1) (b : Un fs ex H1 H2 h1 h2) : Un fs ex H H2 h h2 where
  keep := fun c ob q n hc hx => b.keep c ob (a.keep c ob q n hc hx) (a.free c ob q n hx) hc hx
  slot := fun c ob q n hc hx => by
    obtain ⟨sl, e1⟩ := a.slot c ob q n hc hx
    obtain ⟨sl', e2⟩ := b.slot c _ e1 (a.free c ob q n hx) hc hx
    exact ⟨sl', e2⟩
  free := fun c ob q n hx => by
    obtain ⟨o', e1⟩ := a.there c ob q hx
    exact b.free c o' e1 (a.free c ob q n hx) hx
  there := fun c ob q hx => by
    obtain ⟨o', e1⟩ := a.there c ob q hx
    exact b.there c o' e1 hx
  tups := fun c xs q => b.tups c xs (a.tups c xs q)
  frzs := fun c ob xs q => b.frzs c ob xs (a.frzs c ob xs q)
  tbls := fun c ps q => by
    obtain ⟨m1, e1⟩ := a.tbls c ps q
    obtain ⟨m2, e2⟩ := b.tbls c _ e1
    exact ⟨m1 ++ m2, by rw [e2, Array.append_assoc]⟩
theorem Un.kept (k : ∀ b u, h.get? b = some u → h'.get? b = some u) : Un fs ex H H h h' :=
  ⟨fun b ob q _ _ _ => k b ob q, fun b ob q _ _ _ => ⟨ob.slots, k b ob q⟩, fun _ _ _ n _ => n, fun b ob q _ => ⟨ob, k b ob q⟩, fun _ _ q => q, fun _ _ _ q => q, fun _ ps q => ⟨#[], by rw [q]; simp⟩⟩
theorem Un.refl : Un fs ex H H h h := Un.kept fun _ _ q => q
theorem Un.laid (k : ∀ b u, h.get? b = some u → h'.get? b = some u) (hp : h.objs.size ≤ a) (hn : H a = none) : Un fs ex H (upd H a o) h h' where
  keep := fun b u q _ _ _ => k b u q
  slot := fun b u q _ _ _ => ⟨u.slots, k b u q⟩
  free := fun b u q n _ => by rw [upd_ne (Nat.ne_of_lt (Nat.lt_of_lt_of_le (Heap.lt_size q) hp))]; exact n
  there := fun b u q _ => ⟨u, k b u q⟩
  tups := fun b xs q => by rw [upd_ne (ne_of_none q hn)]; exact q
  frzs := fun b u xs q => by rw [upd_ne (ne_of_none q hn)]; exact q
  tbls := fun b ps q => ⟨#[], by rw [upd_ne (ne_of_none q hn), q]; simp⟩
theorem Un.write (mu : Mut (H x)) (he : e = x ∨ H e = some (.own x)) (k : ∀ b u, b ≠ e → h.get? b = some u → h'.get? b = some u) (heo : ∃ u, h'.get? e = some u) : Un fs ex H (upd H x o) h h' := by
  have hx : ∀ b, H b = none → b ≠ x := fun b n z => by subst z; rw [n] at mu; exact mu
  have hb : ∀ b, H b = none → b ≠ e := fun b n z => by
    subst z
    rcases he with r | r
    · exact hx b n r
    · rw [n] at r; cases r
  have hm : ∀ b u, H b = some u → ¬ Mut (some u) → b ≠ x := fun b u q nm z => by subst z; rw [q] at mu; exact nm mu
  refine ⟨fun b u q n _ _ => k b u (hb b n) q, fun b u q n _ _ => ⟨u.slots, k b u (hb b n) q⟩, fun b u q n _ => by rw [upd_ne (hx b n)]; exact n, fun b u q _ => ?_,
    fun b xs q => by rw [upd_ne (hm b _ q fun z => z)]; exact q, fun b u xs q => by rw [upd_ne (hm b _ q fun z => z)]; exact q, fun b ps q => ⟨#[], by rw [upd_ne (hm b _ q fun z => z), q]; simp⟩⟩
  by_cases hbe : b = e
  · subst hbe; exact heo
  · exact ⟨u, k b u hbe q⟩
theorem Un.mono (u : Un fs ex H H1 h h1) (hs : ∀ b ∈ fs, b ∈ fs') (hx : ∀ b ∈ ex, b ∈ ex') : Un fs' ex' H H1 h h1 :=
  ⟨fun b ob q n hb he => u.keep b ob q n (fun z => hb (hs b z)) fun z => he (hx b z), fun _ _ q n _ he => u.any q n fun z => he (hx _ z), fun b ob q n he => u.free b ob q n fun z => he (hx b z), fun b ob q he => u.there b ob q fun z => he (hx b z), u.tups, u.frzs, u.tbls⟩
end
def trk (h : Heap) (H : Hp) : List Addr := (List.range h.objs.size).filter fun a => (H a).isSome
def hidT (h : Heap) (H : Hp) : Heap := PySem.W.hideAll h (trk h H)
theorem hidT_size (h : Heap) (H : Hp) : (hidT h H).objs.size = h.objs.size := PySem.W.hideAll_size _ _
theorem hidT_get {h : Heap} {H : Hp} {b : Addr} {o : Obj} (e : h.get? b = some o) (n : H b = none) : (hidT h H).get? b = some o :=
  PySem.W.hideAll_get _ e fun hm => by
    have q : (H b).isSome = true := (List.mem_filter.mp hm).2
    rw [n] at q; simp at q
theorem of_hidT {h : Heap} {H : Hp} {b : Addr} {o : Obj} (e : (hidT h H).get? b = some o) : h.get? b = some o ∧ H b = none := by
  have e' : h.get? b = some o := PySem.W.of_hideAll (trk h H) e
  refine ⟨e', ?_⟩
  cases q : H b with
  | none => rfl
  | some x =>
    have hm : b ∈ trk h H := List.mem_filter.mpr ⟨List.mem_range.mpr (Heap.lt_size e'), by simp [q]⟩
    have z : (hidT h H).get? b = none := PySem.W.hideAll_none (trk h H) hm
    rw [z] at e; cases e
def allNews (g h : Heap) (L : Addr) : List (Addr × Obj) := (List.range h.objs.size).filterMap fun a => if a = L ∨ (g.get? a).isSome = true then none else (h.get? a).map fun o => (a, o)
def rest (g h : Heap) (L d : Addr) : List (Addr × Obj) := (allNews g h L).filter fun p => decide (p.1 ≠ d)
end L2
namespace L2
open PySem PySem.Spec PyProof.Rows
structure Mod (K : PySem.W.Frag) (mg : Str → Option Value) (base : Heap) : Prop where
  kin : K.In base
  glob : base.Ns mainGlobals mg
  blt : ∃ mb, base.Ns builtinsNs mb ∧ ∀ x : Str, x ≠ "__name__" → mb x = bootBuiltins x
  nolimit : base.NoLimit
structure Cx where
  prog : Program
  w : World
  K : PySem.W.Frag
  mg : Str → Option Value
  base : Heap
  A : Around
  N : List Str
  s₀ : Shared
  H₀ : Hp
  env : Env
  outer : List Env
  stack : List Env
  ex : List Addr
  fn : Str → Bool
  calm : Bool
  pn : List (Addr × Obj)
  xe : Value → Shared → Prop
def frs (l : List Env) : List Addr := l.filterMap (·.frame)
abbrev Cx.fs (X : Cx) : List Addr := frs X.outer
def Vis (sc : Scope) (x : Str) : Prop := sc.names.lookup x = some .local ∨ sc.names.lookup x = some .cell ∨ sc.names.lookup x = some .free
def Loc (sc : Scope) (x : Str) : Prop := sc.names.lookup x = some .local ∨ sc.names.lookup x = some .cell
def Look (env : Env) (h : Heap) (m : Str → Option Value) (x : Str) (u : Value) : Prop :=
  (env.kindOf x = some .local ∧ m x = some u) ∨ ((env.kindOf x = some .cell ∨ env.kindOf x = some .free) ∧ ∃ c, env.cells.lookup x = some c ∧ h.IsCell c (some u))
structure Cx.Ok (X : Cx) : Prop where
  mod : Mod X.K X.mg X.base
  kind : X.env.scope.kind = .function
  glob : X.env.globals = mainGlobals
  blt : X.env.builtins = builtinsNs
  above : X.s₀.heap.objs.size ≤ X.env.locals
  inj : ∀ x y c, X.env.cells.lookup x = some c → X.env.cells.lookup y = some c → x = y
  has : ∀ x, (X.env.kindOf x = some .cell ∨ X.env.kindOf x = some .free) → ∃ c, X.env.cells.lookup x = some c
  cab : ∀ x c, X.fn x = true → X.env.cells.lookup x = some c → X.s₀.heap.objs.size ≤ c
  hd : X.calm = true → X.A.handled = none
  frames : X.A.frames = some X.stack
  stk : X.stack = X.outer ∨ (X.stack = X.env :: X.outer ∧ X.env.frame = some X.env.locals)
  exf : ∀ b ∈ X.ex, b ≠ X.env.locals ∧ ∀ x c, X.env.cells.lookup x = some c → c ≠ b
  bs : ∀ b o, X.base.get? b = some o → X.s₀.heap.get? b = some o ∧ X.H₀ b = none
  bsz : X.base.objs.size ≤ X.s₀.heap.objs.size
  noex : ∀ b o, X.base.get? b = some o → b ∉ X.ex
  exfs : ∀ b ∈ X.ex, b ∉ X.fs
  funs : X.s₀.heap.FunFrames X.base X.outer
  frf : ∀ b ∈ X.fs, X.H₀ b = none
structure Inv (X : Cx) (pins : List (Addr × Obj)) (σ : List (Option V)) (H : Hp) (s : Shared) : Prop where
  ok : X.Ok
  os : s.os = X.s₀.os
  bare : AllBare s.gens
  base : Un X.fs X.ex X.H₀ H X.s₀.heap s.heap
  loc : ∃ m, s.heap.Ns X.env.locals m ∧ ∀ (i : Nat) (x : Str) (v : V), X.N[i]? = some x → σ[i]? = some (some v) → Vis X.env.scope x → ∃ u, RelV v u ∧ Look X.env s.heap m x u
  cell : ∀ x c, X.env.cells.lookup x = some c → ∃ v, s.heap.IsCell c v
  free : H X.env.locals = none
  freeC : ∀ x c, X.env.cells.lookup x = some c → H c = none
  pin : ∀ p ∈ X.pn ++ pins, s.heap.get? p.1 = some p.2 ∧ H p.1 = none ∧ p.1 ≠ X.env.locals ∧ p.1 ∉ X.fs ∧ ∀ v, p.2.data ≠ .cell v
  hok : HOk X.prog X.w H s.heap
  len : σ.length = X.N.length
section
variable {X : Cx} {pins : List (Addr × Obj)} {σ : List (Option V)} {H H' : Hp} {s : Shared} {h' : Heap}
theorem Cx.Ok.nofr (ok : X.Ok) {b : Addr} {o : Obj} (e : X.base.get? b = some o) : b ∉ X.fs := fun hb => by
  have := (ok.funs.mem hb).1
  rw [e] at this; cases this
theorem Inv.bs (I : Inv X pins σ H s) : ∀ b o, X.base.get? b = some o → s.heap.get? b = some o ∧ H b = none := fun b o e =>
  ⟨I.base.keep b o (I.ok.bs b o e).1 (I.ok.bs b o e).2 (I.ok.nofr e) (I.ok.noex b o e), I.base.free b o (I.ok.bs b o e).1 (I.ok.bs b o e).2 (I.ok.noex b o e)⟩
theorem Inv.bk (I : Inv X pins σ H s) : ∀ b o, X.base.get? b = some o → s.heap.get? b = some o := fun b o e => (I.bs b o e).1
theorem Inv.mod (I : Inv X pins σ H s) : Mod X.K X.mg X.base := I.ok.mod
theorem Inv.kIn (I : Inv X pins σ H s) : X.K.In s.heap := I.ok.mod.kin.keeps I.bk
theorem Inv.nolimit (I : Inv X pins σ H s) : s.heap.NoLimit := I.ok.mod.nolimit.keeps I.bk
theorem Inv.fr (I : Inv X pins σ H s) : ∃ m, Fr X.base X.env.locals s.heap m :=
  let ⟨m, hn, _⟩ := I.loc
  ⟨m, hn, I.bk, Nat.le_trans I.ok.bsz I.ok.above⟩
theorem Inv.lt (I : Inv X pins σ H s) : X.env.locals < s.heap.objs.size := let ⟨_, hn, _⟩ := I.loc; hn.lt
theorem Inv.sz (I : Inv X pins σ H s) : X.s₀.heap.objs.size ≤ s.heap.objs.size := Nat.le_trans I.ok.above (Nat.le_of_lt I.lt)
theorem Inv.nofs (I : Inv X pins σ H s) {a : Addr} (h : s.heap.objs.size ≤ a) : a ∉ X.fs := fun hb => by
  obtain ⟨_, o, ho, _⟩ := I.ok.funs.mem hb
  exact absurd (Nat.lt_of_lt_of_le (Heap.lt_size ho) (Nat.le_trans I.sz h)) (Nat.lt_irrefl _)
theorem Inv.cne (I : Inv X pins σ H s) : ∀ x c, X.env.cells.lookup x = some c → c ≠ X.env.locals := fun x c e z => by
  obtain ⟨v, o, ho, hd⟩ := I.cell x c e
  obtain ⟨m, ⟨o', es, ep, ho', hd', _⟩, _⟩ := I.loc
  rw [z, ho'] at ho; cases ho; rw [hd'] at hd; cases hd
theorem Inv.funs (I : Inv X pins σ H s) : s.heap.FunFrames X.base X.outer := by
  have all : ∀ (l : List Env), (∀ b ∈ frs l, b ∈ X.fs) → X.s₀.heap.FunFrames X.base l → s.heap.FunFrames X.base l := by
    intro l
    induction l with
    | nil => intro _ _; trivial
    | cons env r ih =>
      intro hs hl
      obtain ⟨hk, ⟨L, o, hf, hn, ho, hd⟩, hr⟩ := hl
      have hL : L ∈ X.fs := hs L (by unfold frs; rw [List.filterMap_cons, hf]; exact List.mem_cons_self)
      obtain ⟨sl, e⟩ := I.base.slot L o ho (I.ok.frf L hL) hL fun z => I.ok.exfs L z hL
      exact ⟨hk, ⟨L, _, hf, hn, e, hd⟩, ih (fun b hb => hs b (by unfold frs; rw [List.filterMap_cons, hf]; exact List.mem_cons_of_mem _ hb)) hr⟩
  exact all X.outer (fun _ hb => hb) I.ok.funs
theorem Inv.stack (I : Inv X pins σ H s) : s.heap.FunFrames X.base X.stack := by
  rcases I.ok.stk with e | ⟨e, hf⟩
  · rw [e]; exact I.funs
  · rw [e]
    obtain ⟨m, hn, _⟩ := I.loc
    refine .cons (by rw [I.ok.kind]; decide) hf hn ?_ I.funs
    exact Heap.get?_none_of_le (Nat.le_trans I.ok.bsz I.ok.above)
theorem Inv.stkSub (I : Inv X pins σ H s) : ∀ b ∈ frs X.stack, b ∈ X.env.locals :: X.fs := fun b hb => by
  rcases I.ok.stk with e | ⟨e, hf⟩
  · rw [e] at hb; exact List.mem_cons_of_mem _ hb
  · rw [e] at hb
    unfold frs at hb
    rw [List.filterMap_cons, hf] at hb
    exact hb
theorem Inv.stkFree (I : Inv X pins σ H s) : ∀ b ∈ frs X.stack, H b = none := fun b hb => by
  rcases List.mem_cons.mp (I.stkSub b hb) with e | hb
  · rw [e]; exact I.free
  · obtain ⟨_, o, ho, _⟩ := I.ok.funs.mem hb
    exact I.base.free b o ho (I.ok.frf b hb) fun z => I.ok.exfs b z hb
theorem Inv.step {g' : Array GenState} {t' : Nat} {d' : Drawn} {ch : List Addr} (I : Inv X pins σ H s)
    (hch : ∀ b ∈ ch, (b ∈ X.ex ∨ X.s₀.heap.objs.size ≤ b) ∧ b ≠ X.env.locals ∧ (∀ x c, X.env.cells.lookup x = some c → c ≠ b) ∧ ∀ p ∈ X.pn ++ pins, p.1 ≠ b)
    (keep : ∀ b o, b ≠ X.env.locals → b ∉ X.fs → b ∉ ch → s.heap.get? b = some o → H b = none → h'.get? b = some o)
    (slot : ∀ b o, b ≠ X.env.locals → b ∈ X.fs → b ∉ ch → s.heap.get? b = some o → H b = none → ∃ sl, h'.get? b = some { o with slots := sl }) (free : ∀ b o, b ∉ ch → s.heap.get? b = some o → H b = none → H' b = none)
    (there : ∀ b o, b ∉ ch → s.heap.get? b = some o → ∃ o', h'.get? b = some o')
    (tups : ∀ b xs, H b = some (.tup xs) → H' b = some (.tup xs)) (frzs : ∀ b o u, H b = some (.frz o u) → H' b = some (.frz o u)) (tbls : ∀ b ps, H b = some (.tbl ps) → ∃ more, H' b = some (.tbl (ps ++ more)))
    (ns : ∀ m, s.heap.Ns X.env.locals m → h'.Ns X.env.locals m) (hok : HOk X.prog X.w H' h') (hg : AllBare g') :
    Inv X pins σ H' { s with heap := h', gens := g', drawn := d', toks := t' } := by
  have neL : ∀ b o, X.s₀.heap.get? b = some o → b ≠ X.env.locals := fun b o e => Nat.ne_of_lt (Nat.lt_of_lt_of_le (Heap.lt_size e) I.ok.above)
  have neC : ∀ b o, X.s₀.heap.get? b = some o → b ∉ X.ex → b ∉ ch := fun b o e hx hb => by
    rcases (hch b hb).1 with z | z
    · exact hx z
    · exact absurd (Nat.lt_of_lt_of_le (Heap.lt_size e) z) (Nat.lt_irrefl _)
  have cellK : ∀ x c, X.env.cells.lookup x = some c → ∀ v, s.heap.IsCell c v → h'.IsCell c v := fun x c e v ⟨o, ho, hd⟩ => by
    have nch : c ∉ ch := fun z => (hch c z).2.2.1 x c e rfl
    by_cases hc : c ∈ X.fs
    · obtain ⟨sl, q⟩ := slot c o (I.cne x c e) hc nch ho (I.freeC x c e)
      exact ⟨_, q, hd⟩
    · exact ⟨o, keep c o (I.cne x c e) hc nch ho (I.freeC x c e), hd⟩
  refine ⟨I.ok, I.os, hg, ⟨fun b o e n hb hx => ?_, fun b o e n hb hx => ?_, fun b o e n hx => ?_, fun b o e hx => ?_, fun b xs e => tups b xs (I.base.tups b xs e), fun b o xs e => frzs b o xs (I.base.frzs b o xs e), fun b ps e => ?_⟩, ?_, fun x c e => ?_, ?_, fun x c e => ?_, fun p hp => ?_, hok, I.len⟩
  · exact keep b o (neL b o e) hb (neC b o e hx) (I.base.keep b o e n hb hx) (I.base.free b o e n hx)
  · obtain ⟨sl, e1⟩ := I.base.slot b o e n hb hx
    obtain ⟨sl', e2⟩ := slot b _ (neL b o e) hb (neC b o e hx) e1 (I.base.free b o e n hx)
    exact ⟨sl', e2⟩
  · obtain ⟨o', e1⟩ := I.base.there b o e hx
    exact free b o' (neC b o e hx) e1 (I.base.free b o e n hx)
  · obtain ⟨o', e1⟩ := I.base.there b o e hx
    exact there b o' (neC b o e hx) e1
  · obtain ⟨m1, e1⟩ := I.base.tbls b ps e
    obtain ⟨m2, e2⟩ := tbls b _ e1
    exact ⟨m1 ++ m2, by rw [e2, Array.append_assoc]⟩
  · obtain ⟨m, hn, hl⟩ := I.loc
    refine ⟨m, ns m hn, fun i x v e1 e2 e3 => ?_⟩
    obtain ⟨u, r, l⟩ := hl i x v e1 e2 e3
    refine ⟨u, r, ?_⟩
    rcases l with l | ⟨k, c, e, z⟩
    · exact .inl l
    · exact .inr ⟨k, c, e, cellK x c e _ z⟩
  · obtain ⟨v, z⟩ := I.cell x c e
    exact ⟨v, cellK x c e v z⟩
  · obtain ⟨m, ⟨o, _, _, ho, _⟩, _⟩ := I.loc
    exact free _ o (fun z => (hch _ z).2.1 rfl) ho I.free
  · obtain ⟨v, o, ho, hd⟩ := I.cell x c e
    exact free c o (fun z => (hch c z).2.2.1 x c e rfl) ho (I.freeC x c e)
  · obtain ⟨e, n, ne, nf, d⟩ := I.pin p hp
    have nch : p.1 ∉ ch := fun z => (hch p.1 z).2.2.2 p hp rfl
    exact ⟨keep p.1 p.2 ne nf nch e n, free p.1 p.2 nch e n, ne, nf, d⟩
theorem Inv.un {t' : Nat} (I : Inv X pins σ H s) (u : Un X.fs [] H H' s.heap h') (hok : HOk X.prog X.w H' h') : Inv X pins σ H' { s with heap := h', toks := t' } := by
  obtain ⟨m, ⟨o, es, ep, ho, r⟩, _⟩ := id I.loc
  obtain ⟨sl, hL⟩ := u.any ho I.free (by simp)
  exact I.step (g' := s.gens) (d' := s.drawn) (ch := []) (fun _ z => nomatch z) (fun b o _ hb _ e n => u.keep b o e n hb (by simp)) (fun b o _ hb _ e n => u.slot b o e n hb (by simp)) (fun b o _ e n => u.free b o e n (by simp)) (fun b o _ e => u.there b o e (by simp)) u.tups u.frzs u.tbls (fun m' hm => by
    obtain ⟨o', es', ep', ho', r'⟩ := hm
    rw [ho] at ho'; cases ho'
    exact ⟨_, es', ep', hL, r'⟩) hok I.bare
theorem Inv.call {g' : Array GenState} {t' : Nat} {d' : Drawn} {ch : List Addr} (I : Inv X pins σ H s) (u : Un (frs X.stack) ch H H' s.heap h') (hok : HOk X.prog X.w H' h') (hg : AllBare g')
    (hch : ∀ b ∈ ch, (b ∈ X.ex ∨ X.s₀.heap.objs.size ≤ b) ∧ b ≠ X.env.locals ∧ (∀ x c, X.env.cells.lookup x = some c → c ≠ b) ∧ ∀ p ∈ X.pn ++ pins, p.1 ≠ b) :
    Inv X pins σ H' { s with heap := h', gens := g', drawn := d', toks := t' } := by
  obtain ⟨m, ⟨o, es, ep, ho, r⟩, _⟩ := id I.loc
  obtain ⟨sl, hL⟩ := u.any ho I.free fun z => (hch _ z).2.1 rfl
  exact I.step (ch := ch) hch (fun b o hL hb hc e n => u.keep b o e n (fun z => (List.mem_cons.mp (I.stkSub b z)).elim hL hb) hc) (fun b o _ _ hc e n => u.any e n hc) (fun b o hc e n => u.free b o e n hc) (fun b o hc e => u.there b o e hc) u.tups u.frzs u.tbls (fun m' hm => by
    obtain ⟨o', es', ep', ho', r'⟩ := hm
    rw [ho] at ho'; cases ho'
    exact ⟨_, es', ep', hL, r'⟩) hok hg
theorem Inv.turned {t' : Nat} {it : Addr} (I : Inv X pins σ H s) (k : ∀ b o, b ≠ it → s.heap.get? b = some o → h'.get? b = some o) (hn : H it = none) (hL : it ≠ X.env.locals)
    (h1 : it ∈ X.ex ∨ X.s₀.heap.objs.size ≤ it) (h2 : ∀ x c, X.env.cells.lookup x = some c → c ≠ it) (h3 : ∀ p ∈ X.pn ++ pins, p.1 ≠ it) : Inv X pins σ H { s with heap := h', toks := t' } := by
  have nit : ∀ b u, H b = some u → b ≠ it := fun b u e z => by rw [z, hn] at e; cases e
  refine I.step (g' := s.gens) (d' := s.drawn) (ch := [it]) (fun b hb => ?_) (fun b o _ _ hc e _ => k b o (fun z => hc (by simp [z])) e) (fun b o _ _ hc e _ => ⟨o.slots, k b o (fun z => hc (by simp [z])) e⟩) (fun _ _ _ _ n => n)
    (fun b o hc e => ⟨o, k b o (fun z => hc (by simp [z])) e⟩) (fun _ _ e => e) (fun _ _ _ e => e) (fun b ps e => ⟨#[], by rw [e]; simp⟩) (fun m hm => ?_) (fun b u e => ?_) I.bare
  · have e : b = it := by simpa using hb
    subst e
    exact ⟨h1, hL, h2, h3⟩
  · obtain ⟨o, es, ep, ho, r⟩ := hm
    exact ⟨o, es, ep, k _ o (Ne.symm hL) ho, r⟩
  · refine (I.hok b u e).stay (fun c v hc q => k c v ?_ q) (fun _ q => q) fun _ _ q => q
    rcases hc with z | z
    · rw [z]; exact nit b u e
    · exact nit c _ z
theorem Inv.tok (I : Inv X pins σ H s) (t : Nat) : Inv X pins σ H { s with toks := t } := I.un (h' := s.heap) (t' := t) Un.refl I.hok
theorem Inv.kept {t' : Nat} (I : Inv X pins σ H s) (k : ∀ b u, s.heap.get? b = some u → h'.get? b = some u) : Inv X pins σ H { s with heap := h', toks := t' } := I.un (Un.kept k) (I.hok.kept k)
theorem Inv.laid {a : Addr} {o : HO} {t' : Nat} (I : Inv X pins σ H s) (k : ∀ b u, s.heap.get? b = some u → h'.get? b = some u) (hp : s.heap.objs.size ≤ a) (new : ObjOk X.prog X.w (upd H a o) h' a o) :
    Inv X pins σ (upd H a o) { s with heap := h', toks := t' } := I.un (Un.laid k hp (I.hok.fresh hp)) (I.hok.laid k hp new)
theorem Inv.write {x e : Addr} {o : HO} {t' : Nat} (I : Inv X pins σ H s) (mu : Mut (H x)) (he : e = x ∨ H e = some (.own x)) (k : ∀ b u, b ≠ e → s.heap.get? b = some u → h'.get? b = some u) (heo : ∃ u, h'.get? e = some u)
    (new : ObjOk X.prog X.w (upd H x o) h' x o) : Inv X pins σ (upd H x o) { s with heap := h', toks := t' } := I.un (Un.write mu he k heo) (I.hok.write mu he k heo new)
theorem Inv.weak {σ' : List (Option V)} (I : Inv X pins σ H s) (hl : σ'.length = σ.length) (w : ∀ (i : Nat) v, σ'[i]? = some (some v) → σ[i]? = some (some v)) : Inv X pins σ' H s :=
  ⟨I.ok, I.os, I.bare, I.base, let ⟨m, hn, hl'⟩ := I.loc; ⟨m, hn, fun i x v e1 e2 e3 => hl' i x v e1 (w i v e2) e3⟩, I.cell, I.free, I.freeC, I.pin, I.hok, hl.trans I.len⟩
theorem Inv.pins_of {pins' : List (Addr × Obj)} (I : Inv X pins σ H s) (h : ∀ p ∈ pins', s.heap.get? p.1 = some p.2 ∧ H p.1 = none ∧ p.1 ≠ X.env.locals ∧ p.1 ∉ X.fs ∧ ∀ v, p.2.data ≠ .cell v) : Inv X pins' σ H s :=
  ⟨I.ok, I.os, I.bare, I.base, I.loc, I.cell, I.free, I.freeC, fun p hp => (List.mem_append.mp hp).elim (fun z => I.pin p (List.mem_append_left _ z)) (h p), I.hok, I.len⟩
theorem nodup_ix {N : List Str} (hN : N.Nodup) {i j : Nat} {x : Str} (a : N[i]? = some x) (b : N[j]? = some x) : i = j := by
  obtain ⟨h1, e1⟩ := List.getElem?_eq_some_iff.mp a
  obtain ⟨h2, e2⟩ := List.getElem?_eq_some_iff.mp b
  exact (List.getElem_inj hN).mp (e1.trans e2.symm)
theorem store_ok2 {M : Model} {A : Around} {E : Value → Shared → Prop} {i : Nat} {x : Str} {v : V} {u : Value} {Q : Unit → Shared → Prop} (I : Inv X pins σ H s) (hN : X.N.Nodup) (hi : X.N[i]? = some x) (hx : Loc X.env.scope x) (r : RelV v u)
    (h : ∀ s', Inv X pins (σ.set i (some v)) H s' → (∃ a, Heap.SameBut a s.heap s'.heap ∧ (a = X.env.locals ∨ X.env.cells.lookup x = some a)) → Q () s') (hf : X.fn x = true ∨ X.env.scope.names.lookup x = some .local := by first | exact .inl rfl | exact .inr rfl | assumption) : wpAny M A (storeName X.env x u) Q E s := by
  obtain ⟨m, hn, hl⟩ := id I.loc
  have hcls : (X.env.scope.kind == .class || (X.env.scope.kind == .module && X.env.locals != X.env.globals)) = false := by rw [I.ok.kind]; rfl
  have hiσ : i < σ.length := by rw [I.len]; exact (List.getElem?_eq_some_iff.mp hi).1
  have cne := I.cne
  have tracked : ∀ {a : Addr} {h' : Heap}, (∃ o, s.heap.get? a = some o ∧ H a = none) → Heap.SameBut a s.heap h' → HOk X.prog X.w H h' := fun {a h'} ha hs b ob e => by
    obtain ⟨_, _, hfree⟩ := ha
    refine (I.hok b ob e).stay (fun c w' hc q => (hs.2 c ?_).trans q) (fun _ q => q) fun _ _ q => q
    rintro rfl
    rcases hc with rfl | hc
    · rw [hfree] at e; cases e
    · rw [hfree] at hc; cases hc
  rcases hx with hk | hk
  · refine wpAny_storeName_local hk hn (fun h' hn' hs => ?_) hcls
    obtain ⟨oL, _, _, hoL, _⟩ := id hn
    refine h _ ⟨I.ok, I.os, I.bare, ⟨fun b o e n hb hx => ?_, fun b o e n hb hx => ?_, I.base.free, fun b o e hx => ?_, I.base.tups, I.base.frzs, I.base.tbls⟩, ⟨_, hn', fun j y v' e1 e2 e3 => ?_⟩, fun y c e => ?_, I.free, I.freeC, fun p hp => ?_, tracked ⟨oL, hoL, I.free⟩ hs, by simpa using I.len⟩ ⟨_, hs, .inl rfl⟩
    · exact (hs.2 b (Nat.ne_of_lt (Nat.lt_of_lt_of_le (Heap.lt_size e) I.ok.above))).trans (I.base.keep b o e n hb hx)
    · obtain ⟨sl, e1⟩ := I.base.slot b o e n hb hx
      exact ⟨sl, (hs.2 b (Nat.ne_of_lt (Nat.lt_of_lt_of_le (Heap.lt_size e) I.ok.above))).trans e1⟩
    · obtain ⟨o', e1⟩ := I.base.there b o e hx
      exact ⟨o', (hs.2 b (Nat.ne_of_lt (Nat.lt_of_lt_of_le (Heap.lt_size e) I.ok.above))).trans e1⟩
    · by_cases hj : j = i
      · subst hj
        rw [hi] at e1; cases e1
        rw [List.getElem?_set_self hiσ] at e2
        cases e2
        exact ⟨u, r, .inl ⟨hk, by simp⟩⟩
      · rw [List.getElem?_set_ne (Ne.symm hj)] at e2
        obtain ⟨u', r', q⟩ := hl j y v' e1 e2 e3
        refine ⟨u', r', ?_⟩
        rcases q with ⟨k, e⟩ | ⟨k, c, e, z⟩
        · refine .inl ⟨k, ?_⟩
          have : y ≠ x := fun e => hj (nodup_ix hN e1 (e ▸ hi))
          simp [this, e]
        · exact .inr ⟨k, c, e, z.sameBut hs (cne y c e)⟩
    · obtain ⟨w', z⟩ := I.cell y c e
      exact ⟨w', z.sameBut hs (cne y c e)⟩
    · obtain ⟨e, n, ne, nf, d⟩ := I.pin p hp
      exact ⟨(hs.2 p.1 ne).trans e, n, ne, nf, d⟩
  · have hfn : X.fn x = true := by
      rcases hf with z | z
      · exact z
      · rw [z] at hk; cases hk
    obtain ⟨c, hc⟩ := I.ok.has x (.inl hk)
    obtain ⟨w', z⟩ := I.cell x c hc
    refine wpAny_storeName_cell I.ok.kind hk hc z (fun h' hc' hs => ?_)
    obtain ⟨oc, hoc, hocd⟩ := id z
    refine h { s with heap := h' } ⟨I.ok, I.os, I.bare, ⟨fun b o e n hb hx => ?_, fun b o e n hb hx => ?_, I.base.free, fun b o e hx => ?_, I.base.tups, I.base.frzs, I.base.tbls⟩, ⟨m, hn.sameBut hs (Ne.symm (cne x c hc)), fun j y v' e1 e2 e3 => ?_⟩, fun y c' e => ?_, I.free, I.freeC, fun p hp => ?_, tracked ⟨oc, hoc, I.freeC x c hc⟩ hs, by simpa using I.len⟩ ⟨c, hs, .inr hc⟩
    · exact (hs.2 b (Nat.ne_of_lt (Nat.lt_of_lt_of_le (Heap.lt_size e) (I.ok.cab x c hfn hc)))).trans (I.base.keep b o e n hb hx)
    · obtain ⟨sl, e1⟩ := I.base.slot b o e n hb hx
      exact ⟨sl, (hs.2 b (Nat.ne_of_lt (Nat.lt_of_lt_of_le (Heap.lt_size e) (I.ok.cab x c hfn hc)))).trans e1⟩
    · obtain ⟨o', e1⟩ := I.base.there b o e hx
      exact ⟨o', (hs.2 b (Nat.ne_of_lt (Nat.lt_of_lt_of_le (Heap.lt_size e) (I.ok.cab x c hfn hc)))).trans e1⟩
    · by_cases hj : j = i
      · subst hj
        rw [hi] at e1; cases e1
        rw [List.getElem?_set_self hiσ] at e2
        cases e2
        exact ⟨u, r, .inr ⟨.inl hk, c, hc, hc'⟩⟩
      · rw [List.getElem?_set_ne (Ne.symm hj)] at e2
        obtain ⟨u', r', q⟩ := hl j y v' e1 e2 e3
        refine ⟨u', r', ?_⟩
        rcases q with q | ⟨k, c', e, z'⟩
        · exact .inl q
        · refine .inr ⟨k, c', e, z'.sameBut hs ?_⟩
          rintro rfl
          exact hj (nodup_ix hN e1 (I.ok.inj _ _ _ e hc ▸ hi))
    · by_cases hcc : c' = c
      · subst hcc; exact ⟨_, hc'⟩
      · obtain ⟨w2, z2⟩ := I.cell y c' e
        exact ⟨w2, z2.sameBut hs hcc⟩
    · obtain ⟨e, n, ne, nf, d⟩ := I.pin p hp
      refine ⟨(hs.2 p.1 ?_).trans e, n, ne, nf, d⟩
      intro q
      rw [q, hoc] at e
      have q' : oc = p.2 := Option.some.inj e
      exact d w' (by rw [← q']; exact hocd)
theorem store_ok {M : Model} {A : Around} {E : Value → Shared → Prop} {i : Nat} {x : Str} {v : V} {u : Value} {Q : Unit → Shared → Prop} (I : Inv X pins σ H s) (hN : X.N.Nodup) (hi : X.N[i]? = some x) (hx : Loc X.env.scope x) (r : RelV v u)
    (h : ∀ s', Inv X pins (σ.set i (some v)) H s' → Q () s') (hf : X.fn x = true ∨ X.env.scope.names.lookup x = some .local := by first | exact .inl rfl | exact .inr rfl | assumption) : wpAny M A (storeName X.env x u) Q E s :=
  store_ok2 I hN hi hx r (fun s' I' _ => h s' I') hf
theorem Inv.call' {s' : Shared} {ch : List Addr} (I : Inv X pins σ H s) (ho : s'.os = s.os) (u : Un (frs X.stack) ch H H' s.heap s'.heap) (hok : HOk X.prog X.w H' s'.heap) (hg : AllBare s'.gens)
    (hch : ∀ b ∈ ch, (b ∈ X.ex ∨ X.s₀.heap.objs.size ≤ b) ∧ b ≠ X.env.locals ∧ (∀ x c, X.env.cells.lookup x = some c → c ≠ b) ∧ ∀ p ∈ X.pn ++ pins, p.1 ≠ b) : Inv X pins σ H' s' := by
  obtain ⟨h', g', d', t', o'⟩ := s'
  have e : o' = s.os := ho
  subst e
  exact I.call (g' := g') (t' := t') (d' := d') u hok hg hch
end
abbrev XK := Value → Option Addr → Hp → Prop
abbrev St := List (Option V)
abbrev VK := V → Hp → Prop
abbrev TE := St → Hp → VK → Prop
abbrev TT := St → Hp → (Bool → Hp → Prop) → Prop
abbrev TA := St → Hp → (List V → Hp → Prop) → Prop
structure Ends where
  nx : St → Hp → Prop
  rt : VK
  bk : St → Hp → Prop := fun _ _ => False
  ct : St → Hp → Prop := fun _ _ => False
abbrev TS := Ends → St → Hp → Prop
def EP (X : Cx) (pins : List (Addr × Obj)) (σ : St) (Q : VK) (u : Value) (s' : Shared) : Prop := ∃ v H', Inv X pins σ H' s' ∧ RelV v u ∧ Q v H'
def TP (X : Cx) (pins : List (Addr × Obj)) (σ : St) (Q : Bool → Hp → Prop) (b : Bool) (s' : Shared) : Prop := ∃ H', Inv X pins σ H' s' ∧ Q b H'
def AP (X : Cx) (pins : List (Addr × Obj)) (σ : St) (Q : List V → Hp → Prop) (us : List Value) (s' : Shared) : Prop := ∃ vs H', Inv X pins σ H' s' ∧ Vals vs us ∧ Q vs H'
def SP (X : Cx) (pins : List (Addr × Obj)) (D : Ends) (f : Flow) (s' : Shared) : Prop :=
  match f with
  | .next => ∃ σ' H', Inv X pins σ' H' s' ∧ D.nx σ' H'
  | .brk => ∃ σ' H', Inv X pins σ' H' s' ∧ D.bk σ' H'
  | .cont => ∃ σ' H', Inv X pins σ' H' s' ∧ D.ct σ' H'
  | .ret u => ∃ v σ' H', Inv X pins σ' H' s' ∧ RelV v u ∧ D.rt v H'
def PE (X : Cx) (e : Expr) (t : TE) : Prop :=
  ∀ (pins : List (Addr × Obj)) (s : Shared) (σ : St) (H : Hp) (Q : VK), Inv X pins σ H s → t σ H Q → wpAny (model X.prog X.w) X.A (eval e X.env) (EP X pins σ Q) X.xe s
def PT (X : Cx) (e : Expr) (t : TT) : Prop :=
  ∀ (pins : List (Addr × Obj)) (s : Shared) (σ : St) (H : Hp) (Q : Bool → Hp → Prop), Inv X pins σ H s → t σ H Q → wpAny (model X.prog X.w) X.A (isTrue e X.env (eval e X.env)) (TP X pins σ Q) X.xe s
def PW (X : Cx) (e : Expr) (t : TT) : Prop :=
  ∀ (whole : Sem Value) (pins : List (Addr × Obj)) (s : Shared) (σ : St) (H : Hp) (Q : Bool → Hp → Prop), Inv X pins σ H s → t σ H Q → wpAny (model X.prog X.w) X.A (isTrue e X.env whole) (TP X pins σ Q) X.xe s
theorem PW.pt {X : Cx} {e : Expr} {t : TT} (h : PW X e t) : PT X e t := h _
def PA (X : Cx) (es : List Expr) (t : TA) : Prop :=
  ∀ (pos : Pos) (pins : List (Addr × Obj)) (s : Shared) (σ : St) (H : Hp) (Q : List V → Hp → Prop), Inv X pins σ H s → t σ H Q → wpAny (model X.prog X.w) X.A (spliced (backTo pos (starEach es X.env))) (AP X pins σ Q) X.xe s
def PS (X : Cx) (st : Stmt) (t : TS) : Prop :=
  ∀ (pins : List (Addr × Obj)) (s : Shared) (σ : St) (H : Hp) (D : Ends), Inv X pins σ H s → t D σ H → wpAny (model X.prog X.w) X.A (exec st X.env) (SP X pins D) X.xe s
def PSs (X : Cx) (st : List Stmt) (t : TS) : Prop :=
  ∀ (pins : List (Addr × Obj)) (s : Shared) (σ : St) (H : Hp) (D : Ends), Inv X pins σ H s → t D σ H → wpAny (model X.prog X.w) X.A (execs st X.env) (SP X pins D) X.xe s
theorem thn {α : Type} {t : Sem α} {Q Q' : α → Shared → Prop} {M : Model} {A : Around} {E : Value → Shared → Prop} {s : Shared} (h : wpAny M A t Q E s) (hQ : ∀ a s, Q a s → Q' a s) : wpAny M A t Q' E s := wpAny_mono h hQ fun _ _ x => x
end L2
namespace L2
open PySem PySem.Spec PyProof.Rows
section
variable {X : Cx}
def tVar (i : Nat) : TE := fun σ H Q => ∃ v, σ[i]? = some (some v) ∧ Q v H
def tC (v : V) : TE := fun _ H Q => Q v H
theorem pe_var {i : Nat} {x : Str} {pos : Pos} (hN : X.N[i]? = some x) (hv : Vis X.env.scope x) (hd : (x == ("__debug__" : Str)) = false := by decide) (hcd : (x == ("__classdict__" : Str)) = false := by decide) : PE X (.Name x pos) (tVar i) := by
  intro pins s σ H Q I h
  obtain ⟨v, e, h⟩ := h
  obtain ⟨m, hn, hl⟩ := I.loc
  obtain ⟨u, r, l⟩ := hl i x v hN e hv
  have fin : EP X pins σ Q u s := ⟨v, H, I, r, h⟩
  rcases l with ⟨hk, hm⟩ | ⟨hk, c, hc, hcell⟩
  · exact wpAny_Name (wpAny_loadName_local I.ok.kind hk hn hm fin) hd
  · rcases hk with hk | hk
    · exact wpAny_Name (wpAny_loadName_cell I.ok.kind hk hc hcell fin) hd
    · exact wpAny_Name (wpAny_loadName_free I.ok.kind hk hc hcell fin hcd) hd
theorem pe_int {i j pos} : PE X (.Constant (.int i) j pos) (tC (.int i)) := fun _ _ _ H _ I h => wpAny_Constant_int ⟨.int i, H, I.tok _, ⟨_, rfl⟩, h⟩
theorem pe_bl {b j pos} : PE X (.Constant (.bool b) j pos) (tC (.bl b)) := fun _ _ _ H _ I h => Constant_bool ⟨.bl b, H, I, rfl, h⟩
def Gl (X : Cx) (x : Str) : Prop := X.env.kindOf x = some .globalImplicit
theorem ld_glob {E : Value → Shared → Prop} {pins : List (Addr × Obj)} {s : Shared} {σ : St} {H : Hp} {x : Str} {u : Value} {pos : Pos} {Q : Value → Shared → Prop} (I : Inv X pins σ H s) (hg : Gl X x) (hm : X.mg x = some u) (h : Q u s)
    (hd : (x == ("__debug__" : Str)) = false := by decide) : wpAny (model X.prog X.w) X.A (eval (.Name x pos) X.env) Q E s :=
  Calls.Name_function_global I.ok.kind hg (Calls.loadGlobal_global (by rw [I.ok.glob]; exact I.mod.glob.keeps I.bk) hm h) hd
theorem ld_blt {E : Value → Shared → Prop} {pins : List (Addr × Obj)} {s : Shared} {σ : St} {H : Hp} {x : Str} {u : Value} {pos : Pos} {Q : Value → Shared → Prop} (I : Inv X pins σ H s) (hg : Gl X x) (hm : X.mg x = none) (hv : bootBuiltins x = some u) (h : Q u s)
    (hn : x ≠ "__name__" := by decide) (hd : (x == ("__debug__" : Str)) = false := by decide) : wpAny (model X.prog X.w) X.A (eval (.Name x pos) X.env) Q E s := by
  obtain ⟨mb, h1, h2⟩ := I.mod.blt
  exact Calls.Name_function_global I.ok.kind hg (Calls.loadGlobal_builtin (by rw [I.ok.glob]; exact I.mod.glob.keeps I.bk) hm (by rw [I.ok.blt]; exact h1.keeps I.bk) ((h2 x hn).trans hv) h) hd
theorem pe_bltn {x : Str} {v : V} {u : Value} {pos : Pos} (hg : Gl X x) (hm : X.mg x = none) (hv : bootBuiltins x = some u) (r : RelV v u) (hn : x ≠ "__name__" := by decide) (hd : (x == ("__debug__" : Str)) = false := by decide) : PE X (.Name x pos) (tC v) :=
  fun _ _ _ H _ I h => ld_blt I hg hm hv ⟨v, H, I, r, h⟩ hn hd
variable {a b : Expr} {ta tb : TE} {pos : Pos}
def tB (t : TE) : TT := fun σ H Q => t σ H fun x H1 => ∃ c, x = .bl c ∧ Q c H1
theorem pt_val {e : Expr} {t : TE} (h : PE X e t) (he : ∀ whole, isTrue e X.env whole = (do let v ← whole; standAt e.pos; holding [v] (truthy v)) := by intro _; rfl) : PT X e (tB t) := by
  intro pins s σ H Q I hw
  refine isTrue_plain (thn (h pins s σ H _ I hw) fun v s1 ⟨x, H1, I1, r1, q1⟩ => ?_) (he _)
  obtain ⟨d, rfl, q⟩ := q1
  cases r1
  exact wpAny_truthy_bool ⟨H1, I1, q⟩
variable {tA tB' : TT} {rest : List Expr}
def tAnd (t u : TT) : TT := fun σ H Q => t σ H fun c H1 => if c = true then u σ H1 Q else Q false H1
def tOr (t u : TT) : TT := fun σ H Q => t σ H fun c H1 => if c = true then Q true H1 else u σ H1 Q
def tNot (t : TT) : TT := fun σ H Q => t σ H fun c H1 => Q (!c) H1
theorem pw_and1 (ha : PT X a tA) : PW X (.BoolOp .And [a] pos) tA := by
  intro wh pins s σ H Q I h
  refine isTrue_and (thn (ha pins s σ H Q I h) fun c s1 e => ?_)
  cases c with
  | true => exact isTrue_and_nil e
  | false => exact e
theorem pw_or1 (ha : PT X a tA) : PW X (.BoolOp .Or [a] pos) tA := by
  intro wh pins s σ H Q I h
  refine isTrue_or (thn (ha pins s σ H Q I h) fun c s1 e => ?_)
  cases c with
  | false => exact isTrue_or_nil e
  | true => exact e
theorem pw_and (ha : PT X a tA) (hb : PW X (.BoolOp .And (b :: rest) pos) tB') : PW X (.BoolOp .And (a :: b :: rest) pos) (tAnd tA tB') := by
  intro wh pins s σ H Q I h
  refine isTrue_and (thn (ha pins s σ H _ I h) fun c s1 ⟨H1, I1, q1⟩ => ?_)
  cases c with
  | true => exact hb wh pins s1 σ H1 Q I1 q1
  | false => exact ⟨H1, I1, q1⟩
theorem pw_or (ha : PT X a tA) (hb : PW X (.BoolOp .Or (b :: rest) pos) tB') : PW X (.BoolOp .Or (a :: b :: rest) pos) (tOr tA tB') := by
  intro wh pins s σ H Q I h
  refine isTrue_or (thn (ha pins s σ H _ I h) fun c s1 ⟨H1, I1, q1⟩ => ?_)
  cases c with
  | true => exact ⟨H1, I1, q1⟩
  | false => exact hb wh pins s1 σ H1 Q I1 q1
theorem pt_not (ha : PT X a tA) : PT X (.UnaryOp .Not a pos) (tNot tA) := by
  intro pins s σ H Q I h
  exact isTrue_not (ha pins s σ H (fun c H1 => Q (!c) H1) I h)
def tAndV (ta tb : TE) : TE := fun σ H Q => ta σ H fun x H1 => ∃ c, x = .bl c ∧ if c = true then tb σ H1 Q else Q (.bl false) H1
def tOrV (ta tb : TE) : TE := fun σ H Q => ta σ H fun x H1 => ∃ c, x = .bl c ∧ if c = true then Q (.bl true) H1 else tb σ H1 Q
def tNotV (ta : TE) : TE := fun σ H Q => ta σ H fun x H1 => ∃ c, x = .bl c ∧ Q (.bl (!c)) H1
theorem pe_one {op} {t : TE} (h : PE X a t) : PE X (.BoolOp op [a] pos) t := fun pins s σ H Q I hw => BoolOp_one (h pins s σ H Q I hw)
theorem pe_and (ha : PE X a ta) (hb : PE X (.BoolOp .And (b :: rest) pos) tb) : PE X (.BoolOp .And (a :: b :: rest) pos) (tAndV ta tb) := by
  intro pins s σ H Q I h
  refine BoolOp_and (thn (ha pins s σ H _ I h) fun v s1 ⟨x, H1, I1, r1, q1⟩ => ?_)
  obtain ⟨c, rfl, q1⟩ := q1
  cases r1
  refine wpAny_truthy_bool ?_
  cases c with
  | true => exact hb pins s1 σ H1 Q I1 q1
  | false => exact ⟨.bl false, H1, I1, rfl, q1⟩
theorem pe_not (ha : PE X a ta) : PE X (.UnaryOp .Not a pos) (tNotV ta) := by
  intro pins s σ H Q I h
  refine UnaryOp_ (thn (ha pins s σ H _ I h) fun v s1 ⟨x, H1, I1, r1, q1⟩ => ?_)
  obtain ⟨c, rfl, q1⟩ := q1
  cases r1
  exact not_of (wpAny_truthy_bool ⟨.bl (!c), H1, I1, rfl, q1⟩)
def tIf (t : TT) (ta tb : TE) : TE := fun σ H Q => t σ H fun c H1 => if c = true then ta σ H1 Q else tb σ H1 Q
theorem pe_ifExp {c : Expr} (hc : PT X c tA) (ha : PE X a ta) (hb : PE X b tb) : PE X (.IfExp c a b pos) (tIf tA ta tb) := by
  intro pins s σ H Q I h
  refine wpAny_IfExp (thn (hc pins s σ H _ I h) fun d s1 ⟨H1, I1, q1⟩ => ?_)
  cases d with
  | true => exact ha pins s1 σ H1 Q I1 q1
  | false => exact hb pins s1 σ H1 Q I1 q1
end
end L2
namespace L2
open PySem PySem.Spec PyProof.Rows
def SqL (K : PySem.W.Frag) (H : Hp) (a : Addr) (xs : List V) : Prop :=
  Rd H a (.lst xs) ∨
    ∃ (o : Obj) (its : Array Value) (n : Nat), K.lookup a = some o ∧ o.cls = .type "list" ∧ o.dict = none ∧ o.data = .seq its n ∧ its.size ≤ sizeLine ∧ Vals xs its.toList
def SqT (K : PySem.W.Frag) (H : Hp) (a : Addr) (xs : List V) : Prop :=
  Rd H a (.tup xs) ∨
    ∃ (o : Obj) (its : Array Value) (n : Nat), K.lookup a = some o ∧ o.cls = .type "tuple" ∧ o.data = .seq its n ∧ its.size ≤ sizeLine ∧ Vals xs its.toList
def absV : Value → Option V
  | .none => some .non
  | .bool b => some (.bl b)
  | .int i _ => some (.int i)
  | .str x _ => some (.str x)
  | .bytes b _ => some (.byt b)
  | .float b _ => some (.flt b)
  | .ref a => some (.ref a)
  | .type n => some (.ty n)
  | _ => none
theorem RelV.abs {x : V} {u : Value} (r : RelV x u) : absV u = some x := by
  cases x with
  | non => cases r; rfl
  | bl _ => cases r; rfl
  | int _ => obtain ⟨t, rfl⟩ := r; rfl
  | str _ => obtain ⟨t, rfl⟩ := r; rfl
  | byt _ => obtain ⟨t, rfl⟩ := r; rfl
  | flt _ => obtain ⟨t, rfl⟩ := r; rfl
  | ref _ => cases r; rfl
  | ty _ => cases r; rfl
theorem RelV.inj {x y : V} {u : Value} (r : RelV x u) (q : RelV y u) : x = y := Option.some.inj (r.abs.symm.trans q.abs)
theorem Vals.inj : ∀ {xs ys : List V} {us : List Value}, Vals xs us → Vals ys us → xs = ys
  | _, _, _, .nil, .nil => rfl
  | _, _, _, .cons r t, .cons r' t' => by rw [r.inj r', Vals.inj t t']
section
variable {X : Cx} {pins : List (Addr × Obj)} {σ : St} {H : Hp} {s : Shared} {a : Addr} {xs ys : List V}
theorem SqL.of {K : PySem.W.Frag} (h : H a = some (.lst xs)) : SqL K H a xs := .inl (.inl h)
theorem SqT.of {K : PySem.W.Frag} (h : H a = some (.tup xs)) : SqT K H a xs := .inl (.inl h)
theorem Inv.list (I : Inv X pins σ H s) (h : SqL X.K H a xs) : ∃ its : List Value, Vals xs its ∧ PlainL s.heap a its.toArray ∧ xs.length ≤ sizeLine := by
  rcases h with h | ⟨o, its, n, hk, hc, hd, hs, hz, r⟩
  · obtain ⟨z, its, n, r, e⟩ := h.ok I.hok
    exact ⟨its, r, ⟨_, n, e, rfl, rfl, rfl⟩, z⟩
  · refine ⟨its.toList, r, ⟨o, n, I.kIn a o hk, hc, hd, by simpa using hs⟩, ?_⟩
    have e := r.length
    simp only [Array.length_toList] at e
    omega
theorem Inv.tuple (I : Inv X pins σ H s) (h : SqT X.K H a xs) : ∃ its : List Value, Vals xs its ∧ IsTup s.heap a its.toArray ∧ xs.length ≤ sizeLine := by
  rcases h with h | ⟨o, its, n, hk, hc, hs, hz, r⟩
  · obtain ⟨z, its, r, p⟩ := h.ok I.hok
    exact ⟨its, r, p, z⟩
  · refine ⟨its.toList, r, ⟨o, I.kIn a o hk, hc, n, by simpa using hs⟩, ?_⟩
    have e := r.length
    simp only [Array.length_toList] at e
    omega
theorem Inv.list_inj (I : Inv X pins σ H s) (h : SqL X.K H a xs) (h' : SqL X.K H a ys) : xs = ys := by
  obtain ⟨its, r, ⟨o, n, e, _, _, d⟩, _⟩ := I.list h
  obtain ⟨its', r', ⟨o', n', e', _, _, d'⟩, _⟩ := I.list h'
  rw [e] at e'; cases e'
  rw [d] at d'
  injection d' with d1 _
  have : its = its' := by simpa using congrArg Array.toList d1
  subst this
  exact r.inj r'
theorem Inv.tuple_inj (I : Inv X pins σ H s) (h : SqT X.K H a xs) (h' : SqT X.K H a ys) : xs = ys := by
  obtain ⟨its, r, ⟨o, e, _, n, d⟩, _⟩ := I.tuple h
  obtain ⟨its', r', ⟨o', e', _, n', d'⟩, _⟩ := I.tuple h'
  rw [e] at e'; cases e'
  rw [d] at d'
  injection d' with d1 _
  have : its = its' := by simpa using congrArg Array.toList d1
  subst this
  exact r.inj r'
end
abbrev Cx.wish (X : Cx) (E : Value → Shared → Prop) : Cx := { X with xe := E }
abbrev Cx.nox (X : Cx) : Cx := X.wish fun _ _ => False
theorem Cx.Ok.wish {X : Cx} (ok : X.Ok) (E : Value → Shared → Prop) : (X.wish E).Ok :=
  ⟨ok.mod, ok.kind, ok.glob, ok.blt, ok.above, ok.inj, ok.has, ok.cab, ok.hd, ok.frames, ok.stk, ok.exf, ok.bs, ok.bsz, ok.noex, ok.exfs, ok.funs, ok.frf⟩
theorem Cx.Ok.unwish {X : Cx} {E : Value → Shared → Prop} (ok : (X.wish E).Ok) : X.Ok :=
  ⟨ok.mod, ok.kind, ok.glob, ok.blt, ok.above, ok.inj, ok.has, ok.cab, ok.hd, ok.frames, ok.stk, ok.exf, ok.bs, ok.bsz, ok.noex, ok.exfs, ok.funs, ok.frf⟩
section
variable {X : Cx} {pins : List (Addr × Obj)} {σ : St} {H : Hp} {s : Shared} {E : Value → Shared → Prop}
theorem Inv.wish (I : Inv X pins σ H s) (E : Value → Shared → Prop) : Inv (X.wish E) pins σ H s := ⟨I.ok.wish E, I.os, I.bare, I.base, I.loc, I.cell, I.free, I.freeC, I.pin, I.hok, I.len⟩
theorem Inv.unwish (I : Inv (X.wish E) pins σ H s) : Inv X pins σ H s := ⟨I.ok.unwish, I.os, I.bare, I.base, I.loc, I.cell, I.free, I.freeC, I.pin, I.hok, I.len⟩
theorem SP.unwish {D : Ends} {f : Flow} {s' : Shared} (h : SP (X.wish E) pins D f s') : SP X pins D f s' := by
  cases f with
  | next => obtain ⟨σ', H', I, q⟩ := h; exact ⟨σ', H', I.unwish, q⟩
  | brk => obtain ⟨σ', H', I, q⟩ := h; exact ⟨σ', H', I.unwish, q⟩
  | cont => obtain ⟨σ', H', I, q⟩ := h; exact ⟨σ', H', I.unwish, q⟩
  | ret u => obtain ⟨v, σ', H', I, r, q⟩ := h; exact ⟨v, σ', H', I.unwish, r, q⟩
theorem PE.nox {e : Expr} {t : TE} (h : PE X.nox e t) : PE X e t := fun pins s σ H Q I hw =>
  wpAny_mono (h pins s σ H Q (I.wish _) hw) (fun _ _ ⟨v, H', I', r, q⟩ => ⟨v, H', I'.unwish, r, q⟩) fun _ _ z => False.elim z
theorem PT.nox {e : Expr} {t : TT} (h : PT X.nox e t) : PT X e t := fun pins s σ H Q I hw =>
  wpAny_mono (h pins s σ H Q (I.wish _) hw) (fun _ _ ⟨H', I', q⟩ => ⟨H', I'.unwish, q⟩) fun _ _ z => False.elim z
theorem PSs.nox {st : List Stmt} {t : TS} (h : PSs X.nox st t) : PSs X st t := fun pins s σ H D I hw =>
  wpAny_mono (h pins s σ H D (I.wish _) hw) (fun _ _ q => q.unwish) fun _ _ z => False.elim z
end
section
variable {X : Cx} {st : Stmt} {rest : List Stmt} {t u : TS} {e : Expr} {te : TE} {pos : Pos}
def tNext : TS := fun D σ H => D.nx σ H
def tSeq (t u : TS) : TS := fun D σ H => t { D with nx := u D } σ H
theorem pss_nil : PSs X [] tNext := fun _ _ σ H _ I h => wpAny_execs_nil ⟨σ, H, I, h⟩
theorem pss_cons (h1 : PS X st t) (h2 : PSs X rest u) : PSs X (st :: rest) (tSeq t u) := by
  intro pins s σ H D I h
  refine wpAny_execs_cons (thn (h1 pins s σ H { D with nx := u D } I h) fun f s1 q => ?_)
  cases f with
  | next =>
    obtain ⟨σ', H', I', q⟩ := q
    exact h2 pins s1 σ' H' D I' q
  | ret v => exact q
  | brk => exact q
  | cont => exact q
theorem pss_one (h1 : PS X st t) : PSs X [st] t := by
  intro pins s σ H D I h
  refine wpAny_execs_cons (thn (h1 pins s σ H D I h) fun f s1 q => ?_)
  cases f with
  | next => exact wpAny_execs_nil q
  | ret v => exact q
  | brk => exact q
  | cont => exact q
theorem Inv.quiet {pins : List (Addr × Obj)} {σ : St} {H : Hp} {s : Shared} (I : Inv X pins σ H s) : interactive X.env = false := by simp [interactive, I.ok.kind]
def tDrop (te : TE) : TS := fun D σ H => te σ H fun _ H1 => D.nx σ H1
theorem ps_expr (he : PE X e te) (hs : swapsWith e none pos.line X.env = pure false := by rfl) : PS X (.Expr e pos) (tDrop te) := by
  intro pins s σ H D I h
  exact wpAny_Expr_any (thn (he pins s σ H _ I h) fun v s1 ⟨x, H1, I1, r1, q1⟩ => ⟨σ, H1, I1, q1⟩) I.quiet hs
def tRet (te : TE) : TS := fun D σ H => te σ H D.rt
theorem ps_ret (he : PE X e te) : PS X (.Return (some e) pos) (tRet te) := by
  intro pins s σ H D I h
  exact wpAny_Return_some (thn (he pins s σ H _ I h) fun v s1 ⟨x, H1, I1, r1, q1⟩ => ⟨x, σ, H1, I1, r1, q1⟩)
def tRetN : TS := fun D _ H => D.rt .non H
def tIfS (c : TT) (t u : TS) : TS := fun D σ H => c σ H fun b H1 => if b = true then t D σ H1 else u D σ H1
theorem ps_if {c : Expr} {a b : List Stmt} {tc : TT} (hc : PT X c tc) (ha : PSs X a t) (hb : PSs X b u) : PS X (.If c a b pos) (tIfS tc t u) := by
  intro pins s σ H D I h
  refine wpAny_If (thn (hc pins s σ H _ I h) fun d s1 ⟨H1, I1, q1⟩ => ?_)
  cases d with
  | true => exact ha pins s1 σ H1 D I1 q1
  | false => exact hb pins s1 σ H1 D I1 q1
end
abbrev TG := V → St → Hp → (St → Hp → Prop) → Prop
abbrev TGs := List V → St → Hp → (St → Hp → Prop) → Prop
def PG (X : Cx) (target : Expr) (t : TG) : Prop :=
  ∀ (pins : List (Addr × Obj)) (s : Shared) (σ : St) (H : Hp) (v : V) (u : Value) (Q : St → Hp → Prop), Inv X pins σ H s → RelV v u → t v σ H Q →
    wpAny (model X.prog X.w) X.A (assign target X.env u) (fun _ s' => ∃ σ' H', Inv X pins σ' H' s' ∧ Q σ' H') X.xe s
def PGs (X : Cx) (ts : List Expr) (t : TGs) : Prop :=
  ∀ (pins : List (Addr × Obj)) (s : Shared) (σ : St) (H : Hp) (vs : List V) (us : List Value) (Q : St → Hp → Prop), Inv X pins σ H s → Vals vs us → t vs σ H Q →
    wpAny (model X.prog X.w) X.A (assignInOrder ((assignEach ts X.env).map (·.2)) us) (fun _ s' => ∃ σ' H', Inv X pins σ' H' s' ∧ Q σ' H') X.xe s
abbrev TSet := V → V → V → Hp → (Hp → Prop) → Prop
def PSet (X : Cx) (t : TSet) : Prop :=
  ∀ (pins : List (Addr × Obj)) (s : Shared) (σ : St) (H : Hp) (o i v : V) (ov iv u : Value) (Q : Hp → Prop), Inv X pins σ H s → RelV o ov → RelV i iv → RelV v u → t o i v H Q →
    wpAny (model X.prog X.w) X.A (setItem ov iv u) (fun _ s' => ∃ H', Inv X pins σ H' s' ∧ Q H') X.xe s
abbrev TIp := V → V → Hp → VK → Prop
section
variable {X : Cx} {pos : Pos}
def gName (i : Nat) : TG := fun v σ H Q => Q (σ.set i (some v)) H
theorem pg_name {i : Nat} {x : Str} (hN : X.N.Nodup) (hi : X.N[i]? = some x) (hx : Loc X.env.scope x) (hf : X.fn x = true ∨ X.env.scope.names.lookup x = some .local := by first | exact .inl rfl | exact .inr rfl | assumption) : PG X (.Name x pos) (gName i) := by
  intro pins s σ H v u Q I r h
  exact wpAny_assign_Name (store_ok I hN hi hx r (fun s' I' => ⟨_, H, I', h⟩) hf)
def gNil : TGs := fun vs σ H Q => vs = [] ∧ Q σ H
def gCons (t : TG) (u : TGs) : TGs := fun vs σ H Q => ∃ v r, vs = v :: r ∧ t v σ H fun σ' H' => u r σ' H' Q
theorem pgs_nil : PGs X [] gNil := by
  intro pins s σ H vs us Q I r h
  obtain ⟨e, h⟩ := h
  subst e
  cases r
  exact assignInOrder_nil ⟨σ, H, I, h⟩
theorem pgs_cons {e : Expr} {es : List Expr} {t : TG} {u : TGs} (h1 : PG X e t) (h2 : PGs X es u)
    (hs : (assignEach (e :: es) X.env).map (·.2) = assign e X.env :: (assignEach es X.env).map (·.2) := by rfl) : PGs X (e :: es) (gCons t u) := by
  intro pins s σ H vs us Q I r h
  obtain ⟨v, vr, e1, h⟩ := h
  subst e1
  cases r with
  | cons r rr =>
    rw [hs]
    refine assignInOrder_cons (thn (h1 pins s σ H _ _ _ I r h) fun _ s1 ⟨σ1, H1, I1, q1⟩ => ?_)
    exact h2 pins s1 σ1 H1 _ _ Q I1 rr q1
def gTup (K : PySem.W.Frag) (n : Nat) (t : TGs) : TG := fun v σ H Q => ∃ a xs, v = .ref a ∧ SqT K H a xs ∧ xs.length = n ∧ t xs σ H Q
theorem pg_tup {es : List Expr} {k : Nat} {t : TGs} {n : Nat} (hc : X.calm = true) (h : PGs X es t)
    (hn : (assignEach es X.env).length = n := by rfl) (hst : (assignEach es X.env).findIdx? (·.1) = none := by rfl) : PG X (.Tuple es k pos) (gTup X.K n t) := by
  intro pins s σ H v u Q I r hw
  obtain ⟨a, xs, e1, hq, hl, hw⟩ := hw
  subst e1
  cases r
  obtain ⟨its, rv, ht, hz⟩ := I.tuple hq
  refine assign_Tuple_tuple (I.ok.hd hc) ht (by simp [hn, ← hl, rv.length]) hst fun h' hx => ?_
  have I1 : Inv X pins σ H { s with heap := h' } := I.kept (t' := s.toks) fun b o e => hx b o (Nat.ne_of_lt (Heap.lt_size e)) e
  exact h pins _ σ H xs _ Q I1 (by simpa using rv) hw
def gSub (to ti : TE) (t : TSet) : TG := fun v σ H Q => to σ H fun o H1 => ti σ H1 fun i H2 => t o i v H2 fun H3 => Q σ H3
theorem pg_sub {o i : Expr} {to ti : TE} {t : TSet} (ho : PE X o to) (hi : PE X i ti) (hs : PSet X t)
    (ha : ∀ v, assign (.Subscript o i pos) X.env v = (do
      let ov ← holding [v] (eval o X.env)
      let iv ← holding [v, ov] (eval i X.env)
      standAt pos
      holding [v, ov, iv] (setItem ov iv v)
      release [v, ov, iv] []) := by intro _; rfl) : PG X (.Subscript o i pos) (gSub to ti t) := by
  intro pins s σ H v u Q I r h
  rw [ha]
  refine wpAny_bind (wpAny_holding (thn (ho pins s σ H _ I h) fun ov s1 ⟨x, H1, I1, r1, q1⟩ => ?_))
  refine wpAny_bind (wpAny_holding (thn (hi pins s1 σ H1 _ I1 q1) fun iv s2 ⟨y, H2, I2, r2, q2⟩ => ?_))
  refine wpAny_bind (wpAny_standAt (wpAny_bind (wpAny_holding (thn (hs pins s2 σ H2 x y v ov iv u _ I2 r1 r2 r q2) fun _ s3 ⟨H3, I3, q3⟩ => ?_))))
  exact wpAny_release ⟨σ, H3, I3, q3⟩
def tAsg (te : TE) (g : TG) : TS := fun D σ H => te σ H fun x H1 => g x σ H1 D.nx
theorem ps_asg {tg e : Expr} {te : TE} {g : TG} (he : PE X e te) (hg : PG X tg g) (hs : swapsWithSole [tg] e pos.line X.env = pure false := by rfl) (hw : swappedStores [tg] e X.env = pure none := by rfl)
    (h1 : (assignEach [tg] X.env).map (·.2) = [assign tg X.env] := by rfl) : PS X (.Assign [tg] e pos) (tAsg te g) := by
  intro pins s σ H D I h
  refine wpAny_Assign_stores (thn (he pins s σ H _ I h) fun v s1 ⟨x, H1, I1, r1, q1⟩ => ?_) hs hw
  rw [h1]
  exact thn (hg pins s1 σ H1 x v _ I1 r1 q1) fun _ s2 q => q
theorem ps_set {i : Nat} {x : Str} {e : Expr} {te : TE} {pos' : Pos} (hN : X.N.Nodup) (hi : X.N[i]? = some x) (hx : Loc X.env.scope x) (he : PE X e te) (hs : swapsWith e (some (.Name x pos')) pos.line X.env = pure false := by rfl) (hf : X.fn x = true ∨ X.env.scope.names.lookup x = some .local := by first | exact .inl rfl | exact .inr rfl | assumption) :
    PS X (.Assign [.Name x pos'] e pos) (tAsg te (gName i)) := by
  intro pins s σ H D I h
  refine wpAny_Assign_Name (thn (he pins s σ H _ I h) fun v s1 ⟨y, H1, I1, r1, q1⟩ => ?_) hs
  exact store_ok I1 hN hi hx r1 (fun s2 I2 => ⟨_, H1, I2, q1⟩) hf
def tPar (i j : Nat) (ta : TA) : TS := fun D σ H => ta σ H fun vs H1 => ∃ v w, vs = [v, w] ∧ D.nx ((σ.set i (some v)).set j (some w)) H1
def tAug (i : Nat) (te : TE) (ti : TIp) : TS := fun D σ H => ∃ x, σ[i]? = some (some x) ∧ te σ H fun y H1 => ti x y H1 fun z H2 => D.nx (σ.set i (some z)) H2
def tAugS (to ti te : TE) (tget : V → V → Hp → VK → Prop) (tip : TIp) (tset : TSet) : TS := fun D σ H => to σ H fun o H1 => ti σ H1 fun i H2 => tget o i H2 fun x H3 => te σ H3 fun y H4 => tip x y H4 fun z H5 => tset o i z H5 fun H6 => D.nx σ H6
def ipI (f : Int → Int → Int) : TIp := fun x y H Q => ∃ i j, x = .int i ∧ y = .int j ∧ Q (.int (f i j)) H
end
section
variable {X : Cx} {pos : Pos}
end
structure It where
  go : Nat → Hp → Prop
  yld : Nat → Hp → V → Hp → Prop
  stop : Nat → Hp → Prop
def FpOk (X : Cx) (pins : List (Addr × Obj)) (H : Hp) (b : Addr) : Prop :=
  H b = none ∧ b ≠ X.env.locals ∧ b ∉ X.fs ∧ (b ∈ X.ex ∨ X.s₀.heap.objs.size ≤ b) ∧ (∀ x c, X.env.cells.lookup x = some c → c ≠ b) ∧ ∀ p ∈ X.pn ++ pins, p.1 ≠ b
theorem Inv.fpOk {X : Cx} {pins : List (Addr × Obj)} {σ : St} {H H' : Hp} {s : Shared} {b : Addr} (I : Inv X pins σ H s) (hb : s.heap.objs.size ≤ b) (hn : H' b = none) : FpOk X pins H' b := by
  refine ⟨hn, Nat.ne_of_gt (Nat.lt_of_lt_of_le I.lt hb), I.nofs hb, .inr (Nat.le_trans I.sz hb), fun x c e z => ?_, fun p hp z => ?_⟩
  · obtain ⟨v, q⟩ := I.cell x c e
    exact absurd (Nat.lt_of_lt_of_le q.lt (by rw [z]; exact hb)) (Nat.lt_irrefl _)
  · exact absurd (Nat.lt_of_lt_of_le (Heap.lt_size (I.pin p hp).1) (by rw [z]; exact hb)) (Nat.lt_irrefl _)
structure Turn (P : Program) (w : World) (K : PySem.W.Frag) (tg : Expr) (J : It) (fp : List Addr) (it : Addr) (tn : Nat → Heap → Prop) : Prop where
  mem : it ∈ fp
  obj : ∀ i h, tn i h → ∀ b ∈ fp, ∃ o, h.get? b = some o ∧ ∀ v, o.data ≠ .cell v
  keep : ∀ i h h', tn i h → (∀ b ∈ fp, ∀ o, h.get? b = some o → h'.get? b = some o) → tn i h'
  item : ∀ (X : Cx), X.prog = P → X.w = w → X.K = K → X.calm = true → ∀ (i : Nat) (pins : List (Addr × Obj)) (s : Shared) (σ : St) (H : Hp) (E : Value → Shared → Prop), Inv X pins σ H s → (∀ b ∈ fp, FpOk X pins H b) → tn i s.heap → J.go i H →
    wpAny (model P w) X.A (pyNext (.ref it)) (fun r s1 => ∃ u, r = some u ∧
      wpAny (model P w) X.A (letOwnedTupleGo tg (.ref it) u) (fun _ s2 => ∃ x H', Inv X pins σ H' s2 ∧ RelV x u ∧ J.yld i H x H' ∧ tn (i + 1) s2.heap ∧ ∀ b ∈ fp, H' b = none) E s1) E s
  done : ∀ (X : Cx), X.prog = P → X.w = w → X.K = K → X.calm = true → ∀ (i : Nat) (pins : List (Addr × Obj)) (s : Shared) (σ : St) (H : Hp) (E : Value → Shared → Prop), Inv X pins σ H s → (∀ b ∈ fp, FpOk X pins H b) → tn i s.heap → J.stop i H →
    wpAny (model P w) X.A (pyNext (.ref it)) (fun r s1 => r = none ∧ Inv X pins σ H s1) E s
  self : ∀ (A : Around) (i : Nat) (s : Shared) (Q : Value → Shared → Prop) (E : Value → Shared → Prop), tn i s.heap → Q (.ref it) s → wpAny (model P w) A (pyIter (.ref it)) Q E s
abbrev TI := St → Hp → (It → Hp → Prop) → Prop
def PIE (X : Cx) (pins : List (Addr × Obj)) (σ : St) (tg : Expr) (R : It → Hp → Prop) (itv : Value) (s2 : Shared) : Prop :=
  ∃ (it : Addr) (fp : List Addr) (tn : Nat → Heap → Prop) (J : It) (H' : Hp), itv = .ref it ∧ Inv X pins σ H' s2 ∧ Turn X.prog X.w X.K tg J fp it tn ∧ tn 0 s2.heap ∧ (∀ b ∈ fp, FpOk X pins H' b) ∧ R J H'
def PI (X : Cx) (tg iter : Expr) (wi : TI) : Prop :=
  ∀ (pins : List (Addr × Obj)) (s : Shared) (σ : St) (H : Hp) (R : It → Hp → Prop), Inv X pins σ H s → wi σ H R →
    wpAny (model X.prog X.w) X.A (eval iter X.env) (fun v s1 => wpAny (model X.prog X.w) X.A (pyIter v) (PIE X pins σ tg R) X.xe s1) X.xe s
theorem go_of {M : Model} {A : Around} {E : Value → Shared → Prop} {s : Shared} {tg : Expr} {it : Addr} {u : Value} {o : Obj} {n : String} {vs : Array Value} {Q : Unit → Shared → Prop} (ho : s.heap.get? it = some o) (hc : o.cls = .type n) (hd : o.data = .fields vs)
    (hn : ["enumerate", "zip", "dict_itemiterator", "dict_reverseitemiterator", "odict_iterator", "itertools.zip_longest", "itertools.pairwise"].contains n = false) (hQ : Q () s) : wpAny M A (letOwnedTupleGo tg (.ref it) u) Q E s := by
  unfold letOwnedTupleGo
  cases tg <;> first
    | exact wpAny_pure hQ
    | (cases u <;> first
        | exact wpAny_pure hQ
        | (refine wpAny_bind (wpAny_load ho ?_)
           rw [hc, hd]
           show wpAny M A (if (["enumerate", "zip", "dict_itemiterator", "dict_reverseitemiterator", "odict_iterator", "itertools.zip_longest", "itertools.pairwise"].contains n && vs[0]? == some (rawInt _)) = true then _ else _) Q E s
           rw [if_neg (by intro h; rw [hn, Bool.false_and] at h; cases h)]
           exact wpAny_pure hQ))
def Itl (K : PySem.W.Frag) (a : Addr) : It :=
  ⟨fun i H => ∃ xs x, SqL K H a xs ∧ xs[i]? = some x, fun i H x H' => H' = H ∧ ∀ xs, SqL K H a xs → xs[i]? = some x, fun i H => ∃ xs, SqL K H a xs ∧ xs.length ≤ i⟩
def Itt (K : PySem.W.Frag) (a : Addr) : It :=
  ⟨fun i H => ∃ xs x, SqT K H a xs ∧ xs[i]? = some x, fun i H x H' => H' = H ∧ ∀ xs, SqT K H a xs → xs[i]? = some x, fun i H => ∃ xs, SqT K H a xs ∧ xs.length ≤ i⟩
def Itr (lo : Int) (n : Nat) : It := ⟨fun i _ => i < n, fun i H x H' => H' = H ∧ x = .int (lo + i), fun i _ => n ≤ i⟩
theorem turn_list {P : Program} {w : World} {K : PySem.W.Frag} {tg : Expr} (a it : Addr) : Turn P w K tg (Itl K a) [it] it (fun i h => h.IsListIter it a i) where
  mem := by simp
  obj := fun i h st b hb => by
    have e : b = it := by simpa using hb
    subst e
    obtain ⟨o, e, c, d⟩ := st
    exact ⟨o, e, fun v z => by rw [d] at z; cases z⟩
  keep := fun i h h' st k => st.at fun o e => k it (by simp) o e
  item := by
    intro X hP hw hK hc i pins s σ H E I hf st hg
    subst hP hw hK
    obtain ⟨xs, x, hq, hx⟩ := hg
    obtain ⟨its, rv, p, hz⟩ := I.list hq
    obtain ⟨u, hu, ru⟩ := rv.get hx
    obtain ⟨f0, f1, f2, f3, f4, f5⟩ := hf it (by simp)
    refine wpAny_pyNext_list_item st p.isList (x := u) (by simpa using hu) fun h' st' sb => ?_
    have I1 : Inv X pins σ H { s with heap := h' } := I.turned (t' := s.toks) (fun b o hb e => (sb.2 b hb).trans e) f0 f1 f3 f4 f5
    obtain ⟨o, e, c, d⟩ := id st'
    exact ⟨u, rfl, go_of (s := { s with heap := h' }) e c d (by decide) ⟨x, H, I1, ru, ⟨rfl, fun ys hy => by rw [I.list_inj hy hq]; exact hx⟩, st', fun b hb => (hf b hb).1⟩⟩
  done := by
    intro X hP hw hK hc i pins s σ H E I hf st hg
    subst hP hw hK
    obtain ⟨xs, hq, hx⟩ := hg
    obtain ⟨its, rv, p, hz⟩ := I.list hq
    obtain ⟨f0, f1, f2, f3, f4, f5⟩ := hf it (by simp)
    have hl := rv.length
    exact wpAny_pyNext_list_end (I.ok.hd hc) st p.isList (by simp; omega) fun h' eb => ⟨rfl, I.turned (t' := s.toks) (fun b o hb e => eb b o hb e) f0 f1 f3 f4 f5⟩
  self := fun _ _ _ _ _ st h => wpAny_pyIter_listiter st h
theorem turn_tuple {P : Program} {w : World} {K : PySem.W.Frag} {tg : Expr} (a it : Addr) : Turn P w K tg (Itt K a) [it] it (fun i h => h.IsTupleIter it a i) where
  mem := by simp
  obj := fun i h st b hb => by
    have e : b = it := by simpa using hb
    subst e
    obtain ⟨o, e, c, d⟩ := st
    exact ⟨o, e, fun v z => by rw [d] at z; cases z⟩
  keep := fun i h h' st k => st.at fun o e => k it (by simp) o e
  item := by
    intro X hP hw hK hc i pins s σ H E I hf st hg
    subst hP hw hK
    obtain ⟨xs, x, hq, hx⟩ := hg
    obtain ⟨its, rv, p, hz⟩ := I.tuple hq
    obtain ⟨u, hu, ru⟩ := rv.get hx
    obtain ⟨f0, f1, f2, f3, f4, f5⟩ := hf it (by simp)
    refine wpAny_pyNext_tuple_item st (show s.heap.IsTuple a its.toArray from p) (x := u) (by simpa using hu) fun h' st' sb => ?_
    have I1 : Inv X pins σ H { s with heap := h' } := I.turned (t' := s.toks) (fun b o hb e => (sb.2 b hb).trans e) f0 f1 f3 f4 f5
    obtain ⟨o, e, c, d⟩ := id st'
    exact ⟨u, rfl, go_of (s := { s with heap := h' }) e c d (by decide) ⟨x, H, I1, ru, ⟨rfl, fun ys hy => by rw [I.tuple_inj hy hq]; exact hx⟩, st', fun b hb => (hf b hb).1⟩⟩
  done := by
    intro X hP hw hK hc i pins s σ H E I hf st hg
    subst hP hw hK
    obtain ⟨xs, hq, hx⟩ := hg
    obtain ⟨its, rv, p, hz⟩ := I.tuple hq
    obtain ⟨f0, f1, f2, f3, f4, f5⟩ := hf it (by simp)
    have hl := rv.length
    exact wpAny_pyNext_tuple_end (I.ok.hd hc) st (show s.heap.IsTuple a its.toArray from p) (by simp; omega) fun h' eb => ⟨rfl, I.turned (t' := s.toks) (fun b o hb e => eb b o hb e) f0 f1 f3 f4 f5⟩
  self := fun _ _ _ _ _ st h => wpAny_pyIter_tupleiter st h
theorem turn_range {P : Program} {w : World} {K : PySem.W.Frag} {tg : Expr} (it : Addr) (lo : Int) (n : Nat) : Turn P w K tg (Itr lo n) [it] it (fun i h => IsRangeIter h it (lo + (i : Nat) * 1) ((n : Int) - (i : Nat)) 1) where
  mem := by simp
  obj := fun i h st b hb => by
    have e : b = it := by simpa using hb
    subst e
    exact ⟨_, st, fun v z => by
      have z' : Data.fields _ = Data.cell v := z
      cases z'⟩
  keep := fun i h h' st k => k it (by simp) _ st
  item := by
    intro X hP hw hK hc i pins s σ H E I hf st hg
    subst hP hw hK
    obtain ⟨f0, f1, f2, f3, f4, f5⟩ := hf it (by simp)
    have W := Walks.range (prog := X.prog) (w := X.w) (I.ok.hd hc) it lo 1 n
    refine W.item i s _ _ hg st fun v h' tk hv st' kk => ?_
    obtain ⟨t, rfl⟩ := hv
    have I1 : Inv X pins σ H { s with heap := h', toks := tk } := I.turned (fun b o hb e => kk b o (by simpa using hb) e) f0 f1 f3 f4 f5
    refine ⟨_, rfl, go_of (s := { s with heap := h', toks := tk }) (n := "range_iterator") st' rfl rfl (by decide) ⟨.int (lo + i), H, I1, ⟨t, ?_⟩, ⟨rfl, rfl⟩, st', fun b hb => (hf b hb).1⟩⟩
    rw [Int.mul_one]
  done := by
    intro X hP hw hK hc i pins s σ H E I hf st hg
    subst hP hw hK
    obtain ⟨f0, f1, f2, f3, f4, f5⟩ := hf it (by simp)
    exact wpAny_pyNext_range_end (I.ok.hd hc) st (by have : n ≤ i := hg; omega) fun h' eb => ⟨rfl, I.turned (t' := s.toks) (fun b o hb e => eb b o hb e) f0 f1 f3 f4 f5⟩
  self := fun _ _ _ _ _ st h => wpAny_pyIter_rangeiter st h
end L2
namespace L2
open PySem PySem.Spec PyProof.Rows
section
variable {X : Cx} {tg : Expr}
theorem range_it {pins : List (Addr × Obj)} {σ : St} {H : Hp} {s : Shared} {R : It → Hp → Prop} {E : Value → Shared → Prop} {lo hi : Int} {t u v : Tok} {tk : Nat} (I : Inv X pins σ H s) (h1 : -(2 ^ 62) ≤ lo) (h2 : lo < 2 ^ 62) (h3 : -(2 ^ 62) ≤ hi) (h4 : hi < 2 ^ 62)
    (q : R (Itr lo (hi - lo).toNat) H) : wpAny (model X.prog X.w) X.A (pyIter (.ref s.heap.objs.size)) (PIE X pins σ tg R) E { s with heap := s.heap.push { cls := .type "range", data := .fields #[.int lo t, .int hi u, .int 1 v] }, toks := tk } := by
  refine wpAny_pyIter_range (IsRange.new ..) (small_one h1 h2 h3 h4) ?_
  have I1 : Inv X pins σ H { s with heap := s.heap.push { cls := .type "range", data := .fields #[.int lo t, .int hi u, .int 1 v] }, toks := tk } := I.kept fun b o e => Heap.get?_push_of_some _ e
  refine ⟨(s.heap.push { cls := .type "range", data := .fields #[.int lo t, .int hi u, .int 1 v] }).objs.size, [(s.heap.push { cls := .type "range", data := .fields #[.int lo t, .int hi u, .int 1 v] }).objs.size], _, _, H, rfl,
    I1.kept (t' := tk) fun b o e => Heap.get?_push_of_some _ e, turn_range _ lo (hi - lo).toNat, ?_, fun b hb => ?_, q⟩
  · have e1 : lo + ((0 : Nat) : Int) * 1 = lo := by simp
    have e2 : (((hi - lo).toNat : Nat) : Int) - ((0 : Nat) : Int) = Builtin.Range.rangeSize lo hi 1 := by rw [rangeSize_one]; split <;> omega
    show IsRangeIter _ _ (lo + ((0 : Nat) : Int) * 1) ((((hi - lo).toNat : Nat) : Int) - ((0 : Nat) : Int)) 1
    rw [e1, e2]
    exact Heap.get?_push_size _ rfl
  · have e : b = (s.heap.push { cls := .type "range", data := .fields #[.int lo t, .int hi u, .int 1 v] }).objs.size := by simpa using hb
    subst e
    exact I1.fpOk (Nat.le_refl _) (I1.hok.fresh (Nat.le_refl _))
def iRng1 (ta : TA) : TI := fun σ H R => ta σ H fun vs H1 => ∃ j : Int, vs = [.int j] ∧ -(2 ^ 62) ≤ j ∧ j < 2 ^ 62 ∧ R (Itr 0 j.toNat) H1
def iRng2 (ta : TA) : TI := fun σ H R => ta σ H fun vs H1 => ∃ i j : Int, vs = [.int i, .int j] ∧ (-(2 ^ 62) ≤ i ∧ i < 2 ^ 62 ∧ -(2 ^ 62) ≤ j ∧ j < 2 ^ 62) ∧ R (Itr i (j - i).toNat) H1
theorem pi_range1 {a : Expr} {ta : TA} {p pos : Pos} (hg : Gl X "range") (hm : X.mg "range" = none) (ha : PA X [a] ta) (hs : starEach [a] X.env = [(false, eval a X.env)] := by rfl) : PI X tg (.Call (.Name "range" p) [a] [] pos) (iRng1 ta) := by
  intro pins s σ H R I h
  refine Call_ (ld_blt I hg hm boot_range (PyProof.Rows.callWith_type1 (thn (ha pos pins s σ H _ I h) fun us s1 ⟨vs, H1, I1, r1, q1⟩ => ?_) hs rfl))
  obtain ⟨j, e, q1, q2, q⟩ := q1
  subst e
  cases r1 with
  | cons r rr =>
    cases rr
    obtain ⟨t, rfl⟩ := r
    exact call_range_1 (range_it I1 (by omega) (by omega) q1 q2 (by simpa using q))
def tFor (wi : TI) (g : TG) (tb : TS) : TS := fun D σ H => wi σ H fun J H1 => ∃ W : Nat → Nat → St → Hp → Prop, (∃ m, W 0 m σ H1) ∧ ∀ i m σ H, W i m σ H →
  (J.stop i H ∧ D.nx σ H) ∨ (J.go i H ∧ ∃ N : St → Hp → Prop, (∀ σ' H', N σ' H' → ∃ m', m' < m ∧ W (i + 1) m' σ' H') ∧ ∀ x H', J.yld i H x H' → g x σ H' fun σ2 H2 => tb { D with nx := N, ct := N, bk := D.nx } σ2 H2)
def pinsAt (fp : List Addr) (h : Heap) : List (Addr × Obj) := fp.filterMap fun b => (h.get? b).map fun o => (b, o)
theorem mem_pinsAt {fp : List Addr} {h : Heap} {b : Addr} {o : Obj} (hb : b ∈ fp) (e : h.get? b = some o) : (b, o) ∈ pinsAt fp h := List.mem_filterMap.mpr ⟨b, hb, by rw [e]; rfl⟩
theorem of_pinsAt {fp : List Addr} {h : Heap} {p : Addr × Obj} (hp : p ∈ pinsAt fp h) : p.1 ∈ fp ∧ h.get? p.1 = some p.2 := by
  obtain ⟨b, hb, e⟩ := List.mem_filterMap.mp hp
  cases q : h.get? b with
  | none => rw [q] at e; cases e
  | some o =>
    rw [q] at e
    have e' : (b, o) = p := Option.some.inj e
    subst e'
    exact ⟨hb, q⟩
theorem Inv.pinned {pins : List (Addr × Obj)} {σ : St} {H : Hp} {s : Shared} {fp : List Addr} (I : Inv X pins σ H s) (hf : ∀ b ∈ fp, FpOk X pins H b) (ho : ∀ b ∈ fp, ∃ o, s.heap.get? b = some o ∧ ∀ v, o.data ≠ .cell v) : Inv X (pins ++ pinsAt fp s.heap) σ H s :=
  I.pins_of fun p hp => (List.mem_append.mp hp).elim (fun z => I.pin p (List.mem_append_right _ z)) fun z => by
    obtain ⟨hb, e⟩ := of_pinsAt z
    obtain ⟨f0, f1, f2, _⟩ := hf p.1 hb
    obtain ⟨o, e', d⟩ := ho p.1 hb
    rw [e] at e'; cases e'
    exact ⟨e, f0, f1, f2, d⟩
theorem Inv.unpinned {pins pl : List (Addr × Obj)} {σ : St} {H : Hp} {s : Shared} (I : Inv X (pins ++ pl) σ H s) : Inv X pins σ H s := I.pins_of fun p hp => I.pin p (List.mem_append_right _ (List.mem_append_left _ hp))
theorem ps_for {iter : Expr} {body : List Stmt} {wi : TI} {g : TG} {tb : TS} {pos : Pos} (hp : PassesOwn (model X.prog X.w) X.A X.env X.xe) (hc : X.calm = true) (hi : PI X tg iter wi) (hg : PG X tg g) (hb : PSs X body tb)
    (hs : ∀ x, foldedSetIterable iter X.env x = pure x := by intro _; rfl) : PS X (.For tg iter body [] pos) (tFor wi g tb) := by
  intro pins s σ H D I h
  refine wpAny_For (thn (hi pins s σ H _ I h) fun v s1 h1 => thn h1 fun itv s2 h2 => ?_) hs
  obtain ⟨it, fp, tn, J, H2, e, I2, T, st2, f2, W, ⟨m0, w0⟩, turn⟩ := h2
  subst e
  have stat : ∀ {H' : Hp}, (∀ b ∈ fp, H' b = none) → ∀ b ∈ fp, FpOk X pins H' b := fun hn b hb => ⟨hn b hb, (f2 b hb).2⟩
  refine codeAny_forLoop_any (fun n s' => ∃ i σ' H', Inv X pins σ' H' s' ∧ tn i s'.heap ∧ (∀ b ∈ fp, H' b = none) ∧ W i n σ' H') ?_ m0 ⟨0, σ, H2, I2, st2, fun b hb => (f2 b hb).1, w0⟩
  rintro n s3 ⟨i, σ3, H3, I3, st3, fr3, w3⟩
  rcases turn i n σ3 H3 w3 with ⟨stop, qn⟩ | ⟨go, N, hN, step⟩
  · refine wpAny_passesOwn hp (thn (T.done X rfl rfl rfl hc i pins s3 σ3 H3 X.xe I3 (stat fr3) st3 stop) fun r s4 ⟨hr, I4⟩ => ?_)
    subst hr
    exact wpAny_execs_nil ⟨σ3, H3, I4, qn⟩
  · refine wpAny_passesOwn hp (thn (T.item X rfl rfl rfl hc i pins s3 σ3 H3 X.xe I3 (stat fr3) st3 go) fun r s4 ⟨u, hr, h4⟩ => ?_)
    subst hr
    refine wpAny_passesOwn hp (thn h4 fun _ s5 ⟨x, H5, I5, r5, y5, st5, fr5⟩ => ?_)
    have I5' := I5.pinned (stat fr5) (T.obj _ _ st5)
    refine wpAny_passesOwn hp (thn (hg _ s5 σ3 H5 x u _ I5' r5 (step x H5 y5)) fun _ s6 ⟨σ6, H6, I6, q6⟩ => ?_)
    refine wpAny_passesOwn hp (thn (hb _ s6 σ6 H6 _ I6 q6) fun f s7 q7 => ?_)
    have again : ∀ {σ7 : St} {H7 : Hp}, Inv X (pins ++ pinsAt fp s5.heap) σ7 H7 s7 → N σ7 H7 → ∃ m, m < n ∧ ∃ i σ' H', Inv X pins σ' H' s7 ∧ tn i s7.heap ∧ (∀ b ∈ fp, H' b = none) ∧ W i m σ' H' := fun {σ7 H7} I7 n7 => by
      obtain ⟨m', hm, w7⟩ := hN σ7 H7 n7
      refine ⟨m', hm, i + 1, σ7, H7, I7.unpinned, T.keep _ _ _ st5 fun b hb o e => (I7.pin (b, o) (List.mem_append_right _ (List.mem_append_right _ (mem_pinsAt hb e)))).1, fun b hb => ?_, w7⟩
      obtain ⟨o, e, d⟩ := T.obj _ _ st5 b hb
      exact (I7.pin (b, o) (List.mem_append_right _ (List.mem_append_right _ (mem_pinsAt hb e)))).2.1
    cases f with
    | next => obtain ⟨σ7, H7, I7, n7⟩ := q7; exact again I7 n7
    | cont => obtain ⟨σ7, H7, I7, n7⟩ := q7; exact again I7 n7
    | brk => obtain ⟨σ7, H7, I7, q7⟩ := q7; exact ⟨σ7, H7, I7.unpinned, q7⟩
    | ret v => obtain ⟨x7, σ7, H7, I7, r7, q7⟩ := q7; exact ⟨x7, σ7, H7, I7.unpinned, r7, q7⟩
end
theorem for_range {lo : Int} {n : Nat} {g : TG} {tb : TS} {D : Ends} {σ : St} {H : Hp} (Pv : Nat → St → Hp → Prop) (h0 : Pv 0 σ H)
    (hs : ∀ i σ H, i < n → Pv i σ H → g (.int (lo + i)) σ H fun σ2 H2 => tb { D with nx := Pv (i + 1), ct := Pv (i + 1), bk := D.nx } σ2 H2) (hd : ∀ σ H, Pv n σ H → D.nx σ H) :
    ∃ W : Nat → Nat → St → Hp → Prop, (∃ m, W 0 m σ H) ∧ ∀ i m σ H, W i m σ H →
      ((Itr lo n).stop i H ∧ D.nx σ H) ∨ ((Itr lo n).go i H ∧ ∃ N : St → Hp → Prop, (∀ σ' H', N σ' H' → ∃ m', m' < m ∧ W (i + 1) m' σ' H') ∧ ∀ x H', (Itr lo n).yld i H x H' → g x σ H' fun σ2 H2 => tb { D with nx := N, ct := N, bk := D.nx } σ2 H2) := by
  refine ⟨fun i m σ H => m = n - i ∧ i ≤ n ∧ Pv i σ H, ⟨n, by simp, Nat.zero_le _, h0⟩, ?_⟩
  rintro i m σ H ⟨rfl, hi, p⟩
  by_cases hlt : i < n
  · refine .inr ⟨hlt, Pv (i + 1), fun σ' H' p' => ⟨n - (i + 1), by omega, rfl, hlt, p'⟩, fun x H' y => ?_⟩
    obtain ⟨e, y⟩ := y
    subst e y
    exact hs i σ _ hlt p
  · have e : i = n := by omega
    subst e
    exact .inl ⟨Nat.le_refl _, hd σ H p⟩
end L2
namespace L2
open PySem PySem.Spec PyProof.Rows
abbrev R2 := V → V → Hp → VK → Prop
def OpR (X : Cx) (f : Value → Value → Sem Value) (r : R2) : Prop :=
  ∀ (pins : List (Addr × Obj)) (s : Shared) (σ : St) (H : Hp) (x y : V) (v u : Value) (Q : VK), Inv X pins σ H s → RelV x v → RelV y u → r x y H Q →
    wpAny (model X.prog X.w) X.A (f v u) (EP X pins σ Q) X.xe s
def UnR (X : Cx) (f : Value → Sem Value) (r : V → Hp → VK → Prop) : Prop :=
  ∀ (pins : List (Addr × Obj)) (s : Shared) (σ : St) (H : Hp) (x : V) (v : Value) (Q : VK), Inv X pins σ H s → RelV x v → r x H Q →
    wpAny (model X.prog X.w) X.A (f v) (EP X pins σ Q) X.xe s
def CallR (X : Cx) (f : Value) (r : List V → Hp → VK → Prop) : Prop :=
  ∀ (pins : List (Addr × Obj)) (s : Shared) (σ : St) (H : Hp) (xs : List V) (us : List Value) (Q : VK), Inv X pins σ H s → Vals xs us → r xs H Q →
    wpAny (model X.prog X.w) X.A (call f us) (EP X pins σ Q) X.xe s
def tOp (r : R2) (ta tb : TE) : TE := fun σ H Q => ta σ H fun x H1 => tb σ H1 fun y H2 => r x y H2 Q
def tUn (r : V → Hp → VK → Prop) (ta : TE) : TE := fun σ H Q => ta σ H fun x H1 => r x H1 Q
def rI (C : Int → Int → Prop) (g : Int → Int → V) : R2 := fun x y H Q => ∃ i j, x = .int i ∧ y = .int j ∧ C i j ∧ Q (g i j) H
def rI0 (g : Int → Int → V) : R2 := fun x y H Q => ∃ i j, x = .int i ∧ y = .int j ∧ Q (g i j) H
def rU (g : Int → V) : V → Hp → VK → Prop := fun x H Q => ∃ i, x = .int i ∧ Q (g i) H
section
variable {X : Cx} {a b c : Expr} {ta tb tc : TE} {pos : Pos}
theorem binT (ha : PE X a ta) (hb : PE X b tb) {pins : List (Addr × Obj)} {s : Shared} {σ : St} {H : Hp} {R : V → V → Hp → Prop} (I : Inv X pins σ H s)
    (h : ta σ H fun x H1 => tb σ H1 fun y H2 => R x y H2) {Q : Value → Shared → Prop} {f : Value → Value → Sem Value}
    (hf : ∀ v u s2 x y H2, Inv X pins σ H2 s2 → RelV x v → RelV y u → R x y H2 → wpAny (model X.prog X.w) X.A (f v u) Q X.xe s2) :
    wpAny (model X.prog X.w) X.A (eval a X.env) (fun v s₁ => wpAny (model X.prog X.w) X.A (eval b X.env) (fun u s₂ => wpAny (model X.prog X.w) X.A (f v u) Q X.xe s₂) X.xe s₁) X.xe s := by
  refine thn (ha pins s σ H _ I h) fun v s1 ⟨x, H1, I1, r1, q1⟩ => ?_
  refine thn (hb pins s1 σ H1 _ I1 q1) fun u s2 ⟨y, H2, I2, r2, q2⟩ => ?_
  exact hf v u s2 x y H2 I2 r1 r2 q2
theorem pe_op {op : Operator} {r : R2} (ho : OpR X (binaryOp op) r) (ha : PE X a ta) (hb : PE X b tb) : PE X (.BinOp a op b pos) (tOp r ta tb) := by
  intro pins s σ H Q I h
  exact wpAny_BinOp (binT ha hb I h fun v u s2 x y H2 I2 rx ry q => ho pins s2 σ H2 x y v u Q I2 rx ry q)
theorem pe_un {op : UnaryOp} {r : V → Hp → VK → Prop} (ho : UnR X (unaryOp op) r) (ha : PE X a ta) : PE X (.UnaryOp op a pos) (tUn r ta) := by
  intro pins s σ H Q I h
  exact UnaryOp_ (thn (ha pins s σ H _ I h) fun v s1 ⟨x, H1, I1, r1, q1⟩ => ho pins s1 σ H1 x v Q I1 r1 q1)
theorem opI {f : Value → Value → Sem Value} {C : Int → Int → Prop} {g : Int → Int → Int}
    (rule : ∀ (i j : Int) (t u : Tok) (s : Shared) (Q : Value → Shared → Prop) (E : Value → Shared → Prop), C i j → Q (.int (g i j) s.toks) { s with toks := s.toks + 1 } → wpAny (model X.prog X.w) X.A (f (.int i t) (.int j u)) Q E s) :
    OpR X f (rI C fun i j => .int (g i j)) := by
  intro pins s σ H x y v u Q I rx ry h
  obtain ⟨i, j, rfl, rfl, hc, q⟩ := h
  obtain ⟨t, rfl⟩ := rx
  obtain ⟨t', rfl⟩ := ry
  exact rule i j t t' s _ _ hc ⟨.int (g i j), H, I.tok _, ⟨_, rfl⟩, q⟩
theorem opI0 {f : Value → Value → Sem Value} {g : Int → Int → Int}
    (rule : ∀ (i j : Int) (t u : Tok) (s : Shared) (Q : Value → Shared → Prop) (E : Value → Shared → Prop), Q (.int (g i j) s.toks) { s with toks := s.toks + 1 } → wpAny (model X.prog X.w) X.A (f (.int i t) (.int j u)) Q E s) :
    OpR X f (rI0 fun i j => .int (g i j)) := by
  intro pins s σ H x y v u Q I rx ry h
  obtain ⟨i, j, rfl, rfl, q⟩ := h
  obtain ⟨t, rfl⟩ := rx
  obtain ⟨t', rfl⟩ := ry
  exact rule i j t t' s _ _ ⟨.int (g i j), H, I.tok _, ⟨_, rfl⟩, q⟩
theorem opB0 {f : Value → Value → Sem Value} {g : Int → Int → Bool}
    (rule : ∀ (i j : Int) (t u : Tok) (s : Shared) (Q : Value → Shared → Prop) (E : Value → Shared → Prop), Q (.bool (g i j)) s → wpAny (model X.prog X.w) X.A (f (.int i t) (.int j u)) Q E s) :
    OpR X f (rI0 fun i j => .bl (g i j)) := by
  intro pins s σ H x y v u Q I rx ry h
  obtain ⟨i, j, rfl, rfl, q⟩ := h
  obtain ⟨t, rfl⟩ := rx
  obtain ⟨t', rfl⟩ := ry
  exact rule i j t t' s _ _ ⟨.bl (g i j), H, I, rfl, q⟩
def CDiv (i j : Int) : Prop := 0 < j ∧ j < 1073741824
def CPow (i j : Int) : Prop := 0 ≤ j ∧ j ≤ 1000000 ∧ i.natAbs < 2 ^ 64
def CMul (i j : Int) : Prop := (-(2 ^ 64) < i ∧ i < 2 ^ 64) ∨ (-(2 ^ 64) < j ∧ j < 2 ^ 64)
theorem CMul.ok {i j : Int} (h : CMul i j) : IntMulOk i j := by
  rcases h with ⟨h1, h2⟩ | ⟨h1, h2⟩
  · exact .of_left (intBits_le_64 h1 h2)
  · exact .of_right (intBits_le_64 h1 h2)
theorem op_add : OpR X (binaryOp .Add) (rI0 fun i j => .int (i + j)) := opI0 fun _ _ _ _ _ _ _ q => add_int q
theorem op_sub : OpR X (binaryOp .Sub) (rI0 fun i j => .int (i - j)) := opI0 fun _ _ _ _ _ _ _ q => sub_int q
theorem op_mul : OpR X (binaryOp .Mult) (rI CMul fun i j => .int (i * j)) := opI fun _ _ _ _ _ _ _ hc q => mul_int q hc.ok
theorem op_fdiv : OpR X (binaryOp .FloorDiv) (rI CDiv fun i j => .int (i / j)) := opI fun i j _ _ _ _ _ hc q => by
  have h1 : (0 : Int) < j := hc.1
  have h2 : j < 1073741824 := hc.2
  exact floordiv_int (by omega) (by rw [Int.fdiv_eq_ediv_of_nonneg i (by omega)]; exact q) (.inl (PyProof.noPylong_small (by omega)))
theorem op_mod : OpR X (binaryOp .Mod) (rI (fun _ j => 0 < j) fun i j => .int (i % j)) := opI fun i j _ _ _ _ _ hc q => by
  have h1 : (0 : Int) < j := hc
  exact mod_int' (by omega) (by rw [Int.fmod_eq_emod_of_nonneg i (by omega)]; exact q)
theorem op_pow : OpR X (binaryOp .Pow) (rI CPow fun i j => .int (i ^ j.toNat)) := opI fun _ _ _ _ _ _ _ hc q => pow_int_small hc.1 hc.2.1 hc.2.2 q
theorem op_shl : OpR X (binaryOp .LShift) (rI CPow fun i j => .int (i * 2 ^ j.toNat)) := opI fun _ _ _ _ _ _ _ hc q => lshift_int_small hc.1 hc.2.1 hc.2.2 q
theorem op_and : OpR X (binaryOp .BitAnd) (rI0 fun i j => .int (Builtin.bitAnd i j)) := opI0 fun _ _ _ _ _ _ _ q => and_int q
theorem unI {f : Value → Sem Value} {g : Int → Int}
    (rule : ∀ (i : Int) (t : Tok) (s : Shared) (Q : Value → Shared → Prop) (E : Value → Shared → Prop), Q (.int (g i) s.toks) { s with toks := s.toks + 1 } → wpAny (model X.prog X.w) X.A (f (.int i t)) Q E s) :
    UnR X f (rU fun i => .int (g i)) := by
  intro pins s σ H x v Q I rx h
  obtain ⟨i, rfl, q⟩ := h
  obtain ⟨t, rfl⟩ := rx
  exact rule i t s _ _ ⟨.int (g i), H, I.tok _, ⟨_, rfl⟩, q⟩
theorem un_neg : UnR X (unaryOp .USub) (rU fun i => .int (-i)) := unI fun _ _ _ _ _ q => neg_int q
end
def scal : V → V → Bool
  | .non, .non => true | .non, .int _ => true | .int _, .non => true | .non, .bl _ => true | .bl _, .non => true | .non, .str _ => true | .str _, .non => true
  | .int _, .int _ => true | .bl _, .bl _ => true | .str _, .str _ => true | .byt _, .byt _ => true
  | .int _, .str _ => true | .str _, .int _ => true | .bl _, .str _ => true | .str _, .bl _ => true
  | _, _ => false
def rEq : R2 := fun x y H Q => scal x y = true ∧ Q (.bl (decide (x = y))) H
def rNe : R2 := fun x y H Q => scal x y = true ∧ Q (.bl (!decide (x = y))) H
theorem dec_int {i j : Int} : decide (V.int i = V.int j) = (i == j) := by
  rw [Bool.eq_iff_iff]
  simp
theorem dec_bl {i j : Bool} : decide (V.bl i = V.bl j) = (i == j) := by
  rw [Bool.eq_iff_iff]
  simp
theorem dec_str {i j : Str} : decide (V.str i = V.str j) = (i == j) := by
  rw [Bool.eq_iff_iff]
  simp
theorem dec_byt {i j : Array UInt8} : decide (V.byt i = V.byt j) = (i.toList == j.toList) := by
  rw [Bool.eq_iff_iff]
  cases i
  cases j
  simp
section
variable {X : Cx} {a b c : Expr} {ta tb tc : TE} {pos : Pos}
theorem fin_bl {pins : List (Addr × Obj)} {σ : St} {H : Hp} {s : Shared} {Q : VK} {k k' : Bool} (I : Inv X pins σ H s) (q : Q (.bl k) H) (e : k = k') : EP X pins σ Q (.bool k') s := by
  subst e
  exact ⟨.bl k, H, I, rfl, q⟩
theorem op_eq : OpR X (compareOp .Eq) rEq := by
  intro pins s σ H x y v u Q I rx ry h
  obtain ⟨hs, q⟩ := h
  cases x with
  | non =>
    cases rx
    cases y with
    | non => cases ry; exact PySem.EqNone.eq_none_none (fin_bl I q (by simp))
    | bl j => cases ry; exact PySem.EqNone.eq_none_bool (fin_bl I q (by simp))
    | int j => obtain ⟨t', rfl⟩ := ry; exact PySem.EqNone.eq_none_int (fin_bl I q (by simp))
    | str j => obtain ⟨t', rfl⟩ := ry; exact PySem.EqNone.eq_none_str (fin_bl I q (by simp))
    | _ => exact absurd (show false = true from hs) Bool.false_ne_true
  | bl i =>
    cases rx
    cases y with
    | non => cases ry; exact PySem.EqNone.eq_bool_none (fin_bl I q (by simp))
    | bl j => cases ry; exact eq_bool (fin_bl I q dec_bl)
    | str j => obtain ⟨t', rfl⟩ := ry; exact PySem.EqMixed.eq_bool_str (fin_bl I q (by simp))
    | _ => exact absurd (show false = true from hs) Bool.false_ne_true
  | int i =>
    obtain ⟨t, rfl⟩ := rx
    cases y with
    | non => cases ry; exact PySem.EqNone.eq_int_none (fin_bl I q (by simp))
    | int j => obtain ⟨t', rfl⟩ := ry; exact eq_int (fin_bl I q dec_int)
    | str j => obtain ⟨t', rfl⟩ := ry; exact PySem.EqMixed.eq_int_str (fin_bl I q (by simp))
    | _ => exact absurd (show false = true from hs) Bool.false_ne_true
  | str i =>
    obtain ⟨t, rfl⟩ := rx
    cases y with
    | non => cases ry; exact PySem.EqNone.eq_str_none (fin_bl I q (by simp))
    | bl j => cases ry; exact PySem.EqMixed.eq_str_bool (fin_bl I q (by simp))
    | int j => obtain ⟨t', rfl⟩ := ry; exact PySem.EqMixed.eq_str_int (fin_bl I q (by simp))
    | str j => obtain ⟨t', rfl⟩ := ry; exact eq_str (fin_bl I q dec_str)
    | _ => exact absurd (show false = true from hs) Bool.false_ne_true
  | byt i =>
    obtain ⟨t, rfl⟩ := rx
    cases y with
    | byt j => obtain ⟨t', rfl⟩ := ry; exact PySem.W.eq_bytes (fin_bl I q dec_byt)
    | _ => exact absurd (show false = true from hs) Bool.false_ne_true
  | _ => cases y <;> exact absurd (show false = true from hs) Bool.false_ne_true
theorem op_ne : OpR X (compareOp .NotEq) rNe := by
  intro pins s σ H x y v u Q I rx ry h
  obtain ⟨hs, q⟩ := h
  cases x with
  | non =>
    cases rx
    cases y with
    | non => cases ry; exact PySem.EqNone.ne_none_none (fin_bl I q (by simp))
    | bl j => cases ry; exact PySem.EqNone.ne_none_bool (fin_bl I q (by simp))
    | int j => obtain ⟨t', rfl⟩ := ry; exact PySem.EqNone.ne_none_int (fin_bl I q (by simp))
    | str j => obtain ⟨t', rfl⟩ := ry; exact PySem.EqNone.ne_none_str (fin_bl I q (by simp))
    | _ => exact absurd (show false = true from hs) Bool.false_ne_true
  | bl i =>
    cases rx
    cases y with
    | non => cases ry; exact PySem.EqNone.ne_bool_none (fin_bl I q (by simp))
    | bl j => cases ry; exact ne_bool (fin_bl I q (congrArg not dec_bl))
    | str j => obtain ⟨t', rfl⟩ := ry; exact PySem.EqMixed.ne_bool_str (fin_bl I q (by simp))
    | _ => exact absurd (show false = true from hs) Bool.false_ne_true
  | int i =>
    obtain ⟨t, rfl⟩ := rx
    cases y with
    | non => cases ry; exact PySem.EqNone.ne_int_none (fin_bl I q (by simp))
    | int j => obtain ⟨t', rfl⟩ := ry; exact ne_int (fin_bl I q (congrArg not dec_int))
    | str j => obtain ⟨t', rfl⟩ := ry; exact PySem.EqMixed.ne_int_str (fin_bl I q (by simp))
    | _ => exact absurd (show false = true from hs) Bool.false_ne_true
  | str i =>
    obtain ⟨t, rfl⟩ := rx
    cases y with
    | non => cases ry; exact PySem.EqNone.ne_str_none (fin_bl I q (by simp))
    | bl j => cases ry; exact PySem.EqMixed.ne_str_bool (fin_bl I q (by simp))
    | int j => obtain ⟨t', rfl⟩ := ry; exact PySem.EqMixed.ne_str_int (fin_bl I q (by simp))
    | str j => obtain ⟨t', rfl⟩ := ry; exact ne_str (fin_bl I q (congrArg not dec_str))
    | _ => exact absurd (show false = true from hs) Bool.false_ne_true
  | byt i =>
    obtain ⟨t, rfl⟩ := rx
    cases y with
    | byt j => obtain ⟨t', rfl⟩ := ry; exact PySem.W.ne_bytes (fin_bl I q (congrArg not dec_byt))
    | _ => exact absurd (show false = true from hs) Bool.false_ne_true
  | _ => cases y <;> exact absurd (show false = true from hs) Bool.false_ne_true
theorem op_lt : OpR X (compareOp .Lt) (rI0 fun i j => .bl (decide (i < j))) := opB0 fun _ _ _ _ _ _ _ q => lt_int q
theorem op_le : OpR X (compareOp .LtE) (rI0 fun i j => .bl (decide (i ≤ j))) := opB0 fun _ _ _ _ _ _ _ q => le_int q
theorem op_gt : OpR X (compareOp .Gt) (rI0 fun i j => .bl (decide (j < i))) := opB0 fun _ _ _ _ _ _ _ q => gt_int q
theorem op_ge : OpR X (compareOp .GtE) (rI0 fun i j => .bl (decide (j ≤ i))) := opB0 fun _ _ _ _ _ _ _ q => ge_int q
theorem nomark (b : Expr) {op : CmpOp} (h : op ≠ .In := by decide) (h2 : op ≠ .NotIn := by decide) : behindInMarks op b = false := by
  have e1 : (op == CmpOp.In) = false := by cases op <;> first | rfl | exact absurd rfl h
  have e2 : (op == CmpOp.NotIn) = false := by cases op <;> first | rfl | exact absurd rfl h2
  cases b <;> simp [behindInMarks, e1, e2]
theorem pe_cmpR {op : CmpOp} {r : R2} (ho : OpR X (compareOp op) r) (ha : PE X a ta) (hb : PE X b tb) (hm : behindInMarks op b = false) : PE X (.Compare a [op] [b] pos) (tOp r ta tb) := by
  intro pins s σ H Q I h
  exact wpAny_Compare1 (binT ha hb I h fun v u s2 x y H2 I2 rx ry q => ho pins s2 σ H2 x y v u Q I2 rx ry q) hm
def tTest (t : TE) : TT := fun σ H Q => t σ H fun x H' => ∃ k, x = .bl k ∧ Q k H'
theorem pt_cmpR {op : CmpOp} {r : R2} (ho : OpR X (compareOp op) r) (ha : PE X a ta) (hb : PE X b tb) (hm : behindInMarks op b = false) : PT X (.Compare a [op] [b] pos) (tTest (tOp r ta tb)) := by
  intro pins s σ H Q I h
  refine wpAny_isTrue_Compare1 (thn (ha pins s σ H _ I h) fun v s1 ⟨x, H1, I1, r1, q1⟩ => thn (hb pins s1 σ H1 _ I1 q1) fun u s2 ⟨y, H2, I2, r2, q2⟩ =>
    thn (ho pins s2 σ H2 x y v u _ I2 r1 r2 q2) fun c s3 ⟨z, H3, I3, r3, k, e, q3⟩ => ?_) hm
  subst e
  cases r3
  exact wpAny_truthy_bool ⟨H3, I3, q3⟩
def tChain (r r' : R2) (ta tb tc : TE) : TE := fun σ H Q => ta σ H fun x H1 => tb σ H1 fun y H2 => r x y H2 fun z H3 => ∃ k, z = .bl k ∧
  (if k = true then tc σ H3 fun w' H4 => r' y w' H4 Q else Q (.bl false) H3)
theorem line63 : (sizeLine : Nat) < 2 ^ 63 := by rw [sizeLine_eq]; decide
theorem vals1 {x : V} {us : List Value} (r : Vals [x] us) : ∃ u, us = [u] ∧ RelV x u := by
  cases r with
  | cons r1 r2 => cases r2; exact ⟨_, rfl, r1⟩
theorem vals2 {x y : V} {us : List Value} (r : Vals [x, y] us) : ∃ u w', us = [u, w'] ∧ RelV x u ∧ RelV y w' := by
  cases r with
  | cons r1 r2 =>
    cases r2 with
    | cons r3 r4 => cases r4; exact ⟨_, _, rfl, r1, r3⟩
theorem call_abs : CallR X (.builtin "abs") (fun xs H Q => ∃ i, xs = [.int i] ∧ Q (.int (if i < 0 then -i else i)) H) := by
  intro pins s σ H xs us Q I r h
  obtain ⟨i, rfl, q⟩ := h
  obtain ⟨u, rfl, t, rfl⟩ := vals1 r
  exact call_abs_int fun u tk => ⟨.int (if i < 0 then -i else i), H, I.tok _, ⟨_, rfl⟩, q⟩
theorem call_max2 (hc : X.calm = true) : CallR X (.builtin "max") (fun xs H Q => ∃ i j, xs = [.int i, .int j] ∧ Q (.int (if j > i then j else i)) H) := by
  intro pins s σ H xs us Q I r h
  obtain ⟨i, j, rfl, q⟩ := h
  obtain ⟨u, w', rfl, ⟨t, rfl⟩, ⟨t', rfl⟩⟩ := vals2 r
  refine max_two_ints (I.ok.hd hc) fun h' tk k => ⟨_, H, I.kept k, ?_, q⟩
  by_cases hj : j > i
  · rw [if_pos hj, if_pos hj]; exact ⟨_, rfl⟩
  · rw [if_neg hj, if_neg hj]; exact ⟨_, rfl⟩
theorem call_min2 (hc : X.calm = true) : CallR X (.builtin "min") (fun xs H Q => ∃ i j, xs = [.int i, .int j] ∧ Q (.int (if j < i then j else i)) H) := by
  intro pins s σ H xs us Q I r h
  obtain ⟨i, j, rfl, q⟩ := h
  obtain ⟨u, w', rfl, ⟨t, rfl⟩, ⟨t', rfl⟩⟩ := vals2 r
  refine min_two_ints (I.ok.hd hc) fun h' tk k => ⟨_, H, I.kept k, ?_, q⟩
  by_cases hj : j < i
  · rw [if_pos hj, if_pos hj]; exact ⟨_, rfl⟩
  · rw [if_neg hj, if_neg hj]; exact ⟨_, rfl⟩
theorem call_int1 : CallR X (.type "int") (fun xs H Q => (∃ i, xs = [.int i] ∧ Q (.int i) H) ∨ ∃ k, xs = [.bl k] ∧ Q (.int (if k then 1 else 0)) H) := by
  intro pins s σ H xs us Q I r h
  rcases h with ⟨i, rfl, q⟩ | ⟨k, rfl, q⟩
  · obtain ⟨u, rfl, t, rfl⟩ := vals1 r
    exact call_int_int ⟨.int i, H, I, ⟨_, rfl⟩, q⟩
  · obtain ⟨u, rfl, r1⟩ := vals1 r
    cases r1
    exact call_int_bool ⟨.int (if k then 1 else 0), H, I.tok _, ⟨_, rfl⟩, q⟩
end
end L2
namespace L2
open PySem PySem.Spec PyProof.Rows
structure ObjM (h : Heap) (x dx C : Addr) (mA : Str → Option Value) : Prop where
  obj : h.get? x = some (PySem.W.instObj C dx)
  ns : h.Ns1 dx mA
  ne : dx ≠ x
theorem lookIn_ns {h : Heap} {dx : Addr} {mA : Str → Option Value} (n : h.Ns1 dx mA) : ∃ od, h.get? dx = some od ∧ ∀ name, PySem.W.lookIn name od = some (mA name) := by
  obtain ⟨o, es, ep, ho, hd, hk, _, hm⟩ := n
  refine ⟨o, ho, fun name => ?_⟩
  have e := hm name
  unfold nsFind findBy at e
  rw [← Array.find?_toList] at e
  unfold PySem.W.lookIn
  rw [hd]
  dsimp only
  split
  · rename_i y q
    rw [q] at e
    exact congrArg some e
  · rename_i q
    rw [q] at e
    have a : es.toList.any (·.refKey) = false := by
      rw [List.any_eq_false]
      intro y hy
      obtain ⟨z, t, hkey⟩ := hk y (Array.mem_toList_iff.mp hy)
      simp [DictEntry.refKey, hkey]
    have a' : ¬ es.toList.any (·.refKey) = true := by rw [a]; exact Bool.false_ne_true
    rw [if_neg a']
    exact congrArg some e
theorem ObjM.look {h : Heap} {x dx C : Addr} {mA : Str → Option Value} (I : ObjM h x dx C mA) : ∃ od, PySem.W.InstAt h x (PySem.W.instObj C dx) C (some od) ∧ ∀ name, PySem.W.lookIn name od = some (mA name) :=
  let ⟨od, ho, hl⟩ := lookIn_ns I.ns
  ⟨od, ⟨I.obj, rfl, rfl, ho⟩, hl⟩
section
variable {prog : Program} {w : World} {A : Around} {E : Value → Shared → Prop} {s : Shared} {K : PySem.W.Frag} {x dx C f : Addr} {mA : Str → Option Value} {name : Str} {v : Value}
end
theorem RelO.some_of {v : V} {o : Option Value} (r : RelO (some v) o) : ∃ u, o = some u ∧ RelV v u := by
  cases o with
  | none => exact (show False from r).elim
  | some u => exact ⟨u, rfl, r⟩
section
variable {P : Program} {w : World} {H H' : Hp} {h h' : Heap} {a C dx : Addr} {fs fs' : List (Str × V)}
theorem ins_get (hok : HOk P w H h) (e : H a = some (.ins C dx fs)) : ∃ mA, ObjM h a dx C mA ∧ (∀ f, RelO (fs.lookup f) (mA f)) ∧ PySem.Within mA (fs.map (·.1)) ∧ fs.length ≤ 1000 ∧ H dx = some (.own a) := by
  obtain ⟨d, z, ne, ob, mA, n, r, q⟩ := (show ObjOk P w H h a (.ins C dx fs) from hok a _ e)
  exact ⟨mA, ⟨ob, n, ne⟩, r, q, z, d⟩
end
structure Cls (K : PySem.W.Frag) (C : Addr) : Prop where
  pg : PySem.W.plainGet K C Str.empty = true
  hd : PySem.W.hasDictIn K C = true
  po : PySem.W.plainOver K C = true
  sa : PySem.W.findIn K (.ref C) "__setattr__" = some (some (.builtin "object.__setattr__"))
theorem Cls.get {K : PySem.W.Frag} {C : Addr} (c : Cls K C) (f : Str) : PySem.W.plainGet K C f = true := c.pg
structure Con (K : PySem.W.Frag) (C : Addr) (f : Str) (v : V) (u : Value) : Prop where
  at_ : PySem.W.findIn K (.ref C) f = some (some u)
  rel : RelV v u
  get : PySem.W.specialIn K u "__get__" = some none
  cp : PySem.W.copiedNames.contains f = false
structure Meth (K : PySem.W.Frag) (C : Addr) (m : Str) (f : Addr) : Prop where
  at_ : PySem.W.findIn K (.ref C) m = some (some (.ref f))
  fn : PySem.W.isFn K (.ref f) = true
  kp : PySem.W.keepIn K (.ref f) = true
section
variable {X : Cx} {pins : List (Addr × Obj)} {σ : St} {H : Hp} {s : Shared} {a C dx : Addr} {fs : List (Str × V)} {f : Str} {v : V} {A : Around} {E : Value → Shared → Prop}
end
section
variable {X : Cx} {o e value : Expr} {f : Str} {pos pos' tpos : Pos} {ta tv : TE}
end
section
variable {X : Cx} {pins : List (Addr × Obj)} {σ : St} {H : Hp} {s : Shared} {A : Around} {E : Value → Shared → Prop} {Q : Value → Shared → Prop} {c : Value} {b : Bool}
inductive TyOf (K : PySem.W.Frag) (H : Hp) : V → Value → Prop where
  | non : TyOf K H .non (.type "NoneType")
  | bl (x : Bool) : TyOf K H (.bl x) (.type "bool")
  | int (i : Int) : TyOf K H (.int i) (.type "int")
  | str (x : Str) : TyOf K H (.str x) (.type "str")
  | flt (x : UInt64) : TyOf K H (.flt x) (.type "float")
  | lst {a : Addr} {xs : List V} (e : H a = some (.lst xs)) : TyOf K H (.ref a) (.type "list")
  | frz {a : Addr} {o : Obj} {xs : List V} (e : H a = some (.frz o (.lst xs))) : TyOf K H (.ref a) (.type "list")
  | tup {a : Addr} {xs : List V} (e : H a = some (.tup xs)) : TyOf K H (.ref a) (.type "tuple")
  | dK {a : Addr} {kvs : List (Key × V)} (e : H a = some (.dK kvs)) : TyOf K H (.ref a) (.type "dict")
  | dT {a : Addr} {kvs : List (List Key × V)} (e : H a = some (.dT kvs)) : TyOf K H (.ref a) (.type "dict")
  | ins {a C dx : Addr} {fs : List (Str × V)} (e : H a = some (.ins C dx fs)) (cl : Cls K C) (ha : PySem.W.findIn K (.ref C) "__class__" = some (some (.builtin "object.__class__")))
      (hn : PySem.W.specialIn K (.builtin "object.__class__") "__get__" = some (some (.builtin "getset_descriptor.__get__"))) (htk : PySem.W.takesIn K (.builtin "object.__class__") = some true)
      (hm : PySem.W.mroIn K C (.type "object") = some true) : TyOf K H (.ref a) (.ref C)
theorem isinst_ok {x : V} {u t : Value} (I : Inv X pins σ H s) (rx : RelV x u) (ty : TyOf X.K H x t) (e : PySem.W.kitOne X.K t c = some b) (h : ∀ tk, Q (.bool b) { s with toks := tk }) :
    wpAny (model X.prog X.w) A (call (.builtin "isinstance") [u, c]) Q E s := by
  cases ty with
  | non => cases (show u = Value.none from rx); exact PySem.W.kia_one PySem.W.kitx_none I.kIn True.intro e (fun z => nomatch z) h
  | bl y => cases (show u = Value.bool y from rx); exact PySem.W.kia_one PySem.W.kitx_bool I.kIn True.intro e (fun z => nomatch z) h
  | int i => obtain ⟨t, q⟩ := (show ∃ t, u = Value.int i t from rx); cases q; exact PySem.W.kia_one PySem.W.kitx_int I.kIn True.intro e (fun z => nomatch z) h
  | str y => obtain ⟨t, q⟩ := (show ∃ t, u = Value.str y t from rx); cases q; exact PySem.W.kia_one PySem.W.kitx_str I.kIn True.intro e (fun z => nomatch z) h
  | flt y => obtain ⟨t, q⟩ := (show ∃ t, u = Value.float y t from rx); cases q; exact PySem.W.kia_one PySem.W.kitx_float I.kIn True.intro e (fun z => nomatch z) h
  | @lst a xs ea =>
    cases (show u = Value.ref a from rx)
    obtain ⟨_, _, n, _, h1⟩ := (show ObjOk X.prog X.w H s.heap a (.lst xs) from I.hok a _ ea)
    exact PySem.W.kia_one PySem.W.kitx_list I.kIn ⟨_, h1, rfl⟩ e (fun z => nomatch z) h
  | @frz a ob xs ea =>
    cases (show u = Value.ref a from rx)
    obtain ⟨_, _, _, n, _, h1⟩ := (show ObjOk X.prog X.w H s.heap a (.frz ob (.lst xs)) from I.hok a _ ea)
    exact PySem.W.kia_one PySem.W.kitx_list I.kIn ⟨_, h1, rfl⟩ e (fun z => nomatch z) h
  | @tup a xs ea =>
    cases (show u = Value.ref a from rx)
    obtain ⟨_, _, _, p⟩ := (show ObjOk X.prog X.w H s.heap a (.tup xs) from I.hok a _ ea)
    obtain ⟨o, h1, h2, _⟩ := p
    exact PySem.W.kia_one PySem.W.kitx_tuple I.kIn ⟨o, h1, h2⟩ e (fun z => nomatch z) h
  | @dK a kvs ea =>
    cases (show u = Value.ref a from rx)
    obtain ⟨_, _, vs, _, p⟩ := (show ObjOk X.prog X.w H s.heap a (.dK kvs) from I.hok a _ ea)
    obtain ⟨o, es, ep, h1, h2, _⟩ := p
    exact PySem.W.kia_one PySem.W.kitx_dict I.kIn ⟨o, h1, h2.1⟩ e (fun z => nomatch z) h
  | @dT a kvs ea =>
    cases (show u = Value.ref a from rx)
    obtain ⟨_, _, xs, _, o, es, ep, h1, h2, _⟩ := (show ObjOk X.prog X.w H s.heap a (.dT kvs) from I.hok a _ ea)
    exact PySem.W.kia_one PySem.W.kitx_dict I.kIn ⟨o, h1, h2.1⟩ e (fun z => nomatch z) h
  | @ins a C dx fs ea cl ha hn htk hm =>
    cases (show u = Value.ref a from rx)
    obtain ⟨mA, O, _⟩ := ins_get I.hok ea
    obtain ⟨od, J, _⟩ := O.look
    exact PySem.W.kia_one (PySem.W.kitx_own (cl.get _) cl.hd ha hn htk hm) I.kIn J e (fun z => nomatch z) h
end
end L2
namespace L2
open PySem PySem.Spec PyProof.Rows
structure Room (k : Nat) (A : Around) : Prop where
  hd : A.handled = none
  dp : A.depth + 3 * k + 5 < recursionLimit
  un : A.units + 16 * k + 200 < cLine
theorem Room.mono {j k : Nat} {A : Around} (r : Room k A) (h : j ≤ k) : Room j A := ⟨r.hd, by have := r.dp; omega, by have := r.un; omega⟩
theorem Room.deeper {k : Nat} {A : Around} (r : Room (k + 1) A) (env : Env) : Room k (A.deeper env) :=
  ⟨r.hd, by have := r.dp; show A.depth + 1 + 3 * k + 5 < _; omega, by have := r.un; show A.units + 3 + 16 * k + 200 < _; omega⟩
theorem Room.in1 {k : Nat} {A : Around} (r : Room (k + 1) A) : Room k A.in1 :=
  ⟨r.hd, by have := r.dp; show A.depth + 3 * k + 5 < _; omega, by have := r.un; show A.units + 1 + 16 * k + 200 < _; omega⟩
theorem Room.depth {k : Nat} {A : Around} (r : Room k A) : A.depth < recursionLimit := by have := r.dp; omega
theorem Room.units {k : Nat} {A : Around} (r : Room k A) : A.units + 64 < cLine := by have := r.un; omega
theorem Room.units0 {k : Nat} {A : Around} (r : Room k A) : A.units < cLine := by have := r.un; omega
def tNil : TA := fun _ H Q => Q [] H
def tCons (ta : TE) (tr : TA) : TA := fun σ H Q => ta σ H fun x H1 => tr σ H1 fun xs H2 => Q (x :: xs) H2
section
variable {X : Cx} {e : Expr} {es : List Expr} {te : TE} {t : TA} {pos : Pos}
theorem pa_nil : PA X [] tNil := fun _ _ _ _ H Q I h => Calls.spliced_nil ⟨[], H, I, .nil, h⟩
theorem pa_cons (ha : PE X e te) (hr : PA X es t) (hs : starEach (e :: es) X.env = (false, eval e X.env) :: starEach es X.env := by rfl) : PA X (e :: es) (tCons te t) := by
  intro pos pins s σ H Q I h
  rw [hs]
  show wpAny _ _ (spliced ((false, eval e X.env) :: backTo pos (starEach es X.env))) _ _ s
  refine Calls.spliced_cons (thn (ha pins s σ H _ I h) fun u s1 ⟨x, H1, I1, r1, q1⟩ => ?_)
  exact thn (hr pos pins s1 σ H1 _ I1 q1) fun us s2 ⟨xs, H2, I2, r2, q2⟩ => ⟨x :: xs, H2, I2, .cons r1 r2, q2⟩
def tLst (t : TA) : TE := fun σ H Q => t σ H fun xs H1 => xs.length ≤ sizeLine ∧ ∀ p, H1 p = none → Q (.ref p) (upd H1 p (.lst xs))
theorem pe_lst (h : PA X es t) : PE X (.List es pos) (tLst t) := by
  intro pins s σ H Q I hq
  refine wpAny_List_spliced (thn (h pos pins s σ H _ I hq) fun us s1 ⟨xs, H1, I1, r, z, q⟩ => ⟨by rw [← r.length]; exact z, ?_⟩)
  have hf : H1 s1.heap.objs.size = none := I1.hok.fresh (Nat.le_refl _)
  refine ⟨.ref s1.heap.objs.size, upd H1 s1.heap.objs.size (.lst xs), I1.laid (t' := s1.toks) (fun b u e => Heap.get?_push_of_some _ e) (Nat.le_refl _) ?_, rfl, q _ hf⟩
  exact ⟨z, us, 0, r, Heap.get?_push_size _ rfl⟩
end
abbrev Sp := List V → Hp → VK → XK → Prop
abbrev CXT := List Env → Hp → Shared → XK → Value → Shared → Prop
structure Env0 (P : Program) (w : World) (K : PySem.W.Frag) (mg : Str → Option Value) (base : Heap) (A : Around) (outer : List Env) (s : Shared) (H : Hp) : Prop where
  frames : A.frames = some outer
  mod : Mod K mg base
  bs : ∀ b o, base.get? b = some o → s.heap.get? b = some o ∧ H b = none
  bsz : base.objs.size ≤ s.heap.objs.size
  funs : s.heap.FunFrames base outer
  frf : ∀ b ∈ frs outer, H b = none
  hok : HOk P w H s.heap
  bare : AllBare s.gens
def CE (outer : List Env) (P : Program) (w : World) (H : Hp) (s : Shared) (Q : VK) (u : Value) (s' : Shared) : Prop :=
  ∃ v H', s'.os = s.os ∧ AllBare s'.gens ∧ Un (frs outer) [] H H' s.heap s'.heap ∧ HOk P w H' s'.heap ∧ RelV v u ∧ Q v H'
def CR (CX : CXT) (outer : List Env) (P : Program) (w : World) (H : Hp) (s : Shared) (Q : VK) (E : XK) (r : Result) (s' : Shared) : Prop :=
  match r with
  | .ok (.ret u) => CE outer P w H s Q u s'
  | .ok _ => False
  | .error e => CX outer H s E e s'
structure FnOk (P : Program) (w : World) (K : PySem.W.Frag) (mg : Str → Option Value) (base : Heap) (CX : CXT) (k : Nat) (f : Addr) (fd : FuncData) (ps : List Str) (sp : Sp) : Prop where
  len : ∀ vs H Q E, sp vs H Q E → vs.length = ps.length
  run : ∀ (A : Around) (outer : List Env) (s : Shared) (H : Hp) (args : Args) (us : List Value) (vs : List V) (Q : VK) (E : XK), Room k A → Env0 P w K mg base A outer s H → BindsTo s fd args (ps.zip us) → Vals vs us → sp vs H Q E →
    codeAny (model P w) A (.call (.ref f) args) (CR CX outer P w H s Q E) s
theorem FnOk.mono {P : Program} {w : World} {K : PySem.W.Frag} {mg : Str → Option Value} {base : Heap} {CX : CXT} {j k : Nat} {f : Addr} {fd : FuncData} {ps : List Str} {sp : Sp} (F : FnOk P w K mg base CX j f fd ps sp) (h : j ≤ k) :
    FnOk P w K mg base CX k f fd ps sp := ⟨F.len, fun A outer s H args us vs Q E hr => F.run A outer s H args us vs Q E (hr.mono h)⟩
theorem FnOk.imp {P : Program} {w : World} {K : PySem.W.Frag} {mg : Str → Option Value} {base : Heap} {CX : CXT} {k : Nat} {f : Addr} {fd : FuncData} {ps : List Str} {sp sp' : Sp} (F : FnOk P w K mg base CX k f fd ps sp)
    (h : ∀ vs H Q E, sp' vs H Q E → sp vs H Q E) : FnOk P w K mg base CX k f fd ps sp' :=
  ⟨fun vs H Q E q => F.len vs H Q E (h _ _ _ _ q), fun A outer s H args us vs Q E hr he hb hv hs => F.run A outer s H args us vs Q E hr he hb hv (h _ _ _ _ hs)⟩
theorem Env0.in1 {P : Program} {w : World} {K : PySem.W.Frag} {mg : Str → Option Value} {base : Heap} {A : Around} {outer : List Env} {s : Shared} {H : Hp} (e : Env0 P w K mg base A outer s H) :
    Env0 P w K mg base A.in1 outer s H := ⟨e.frames, e.mod, e.bs, e.bsz, e.funs, e.frf, e.hok, e.bare⟩
section
variable {X : Cx} {pins : List (Addr × Obj)} {σ : St} {H : Hp} {s s' : Shared}
theorem Inv.env0 (I : Inv X pins σ H s) : Env0 X.prog X.w X.K X.mg X.base X.A X.stack s H :=
  ⟨I.ok.frames, I.ok.mod, I.bs, Nat.le_trans I.ok.bsz I.sz, I.stack, I.stkFree, I.hok, I.bare⟩
theorem Inv.after {Q : VK} {u : Value} (I : Inv X pins σ H s) (h : CE X.stack X.prog X.w H s Q u s') : EP X pins σ Q u s' := by
  obtain ⟨v, H', os, bare, un, hok, r, q⟩ := h
  obtain ⟨hh, g, d, t, os'⟩ := s'
  obtain rfl : os' = s.os := os
  exact ⟨v, H', I.call (h' := hh) (g' := g) (d' := d) (t' := t) (ch := []) un hok bare (fun b z => absurd z (by simp)), r, q⟩
end
def tCall (sp : Sp) (dvs : List V) (E : XK) (t : TA) : TE := fun σ H Q => t σ H fun vs H1 => sp (vs ++ dvs) H1 Q E
def Binds (K : PySem.W.Frag) (fd : FuncData) (ps : List Str) (ds : List Value) : Prop :=
  ∀ (s : Shared) (us : List Value), K.In s.heap → (us ++ ds).length = ps.length → BindsTo s fd ⟨us, []⟩ (ps.zip (us ++ ds))
theorem Binds.all {K : PySem.W.Frag} {fd : FuncData} {ps : List Str} (h : ∀ us : List Value, us.length = ps.length → bindArgs fd ⟨us, []⟩ = pure (ps.zip us)) : Binds K fd ps [] := fun s us _ hl => by
  rw [List.append_nil] at hl ⊢
  exact .of_eq (h us hl)
def Passes (CX : CXT) (X : Cx) (E : XK) : Prop := ∀ (pins : List (Addr × Obj)) (σ : St) (H : Hp) (s : Shared) (e : Value) (s' : Shared), Inv X pins σ H s → CX X.stack H s E e s' → X.xe e s'
section
variable {X : Cx} {CX : CXT} {k : Nat} {f C : Addr} {fd : FuncData} {ps : List Str} {sp : Sp} {dvs : List V} {ds : List Value} {E : XK} {x m : Str} {p pos apos : Pos} {e o : Expr} {es : List Expr} {ta : TE} {t : TA}
theorem run_fn {pins : List (Addr × Obj)} {σ : St} {H : Hp} {s : Shared} {Q : VK} {us : List Value} {vs : List V} (F : FnOk X.prog X.w X.K X.mg X.base CX k f fd ps sp) (hr : Room k X.A) (hb : Binds X.K fd ps ds) (hd : Vals dvs ds) (hx : Passes CX X E)
    (I : Inv X pins σ H s) (r : Vals vs us) (h : sp (vs ++ dvs) H Q E) : wpAny (model X.prog X.w) X.A (call (.ref f) us) (EP X pins σ Q) X.xe s := by
  have r2 : Vals (vs ++ dvs) (us ++ ds) := r.append hd
  have hl : (us ++ ds).length = ps.length := by rw [← r2.length]; exact F.len _ _ _ _ h
  refine wpAny_call (codeAny_mono (F.run X.A X.stack s H ⟨us, []⟩ (us ++ ds) (vs ++ dvs) Q E hr I.env0 (hb s us I.kIn hl) r2 h) fun r s' hq => ?_)
  cases r with
  | error e => exact hx pins σ H s e s' I hq
  | ok fl =>
    cases fl with
    | ret u => exact I.after hq
    | next => exact False.elim hq
    | brk => exact False.elim hq
    | cont => exact False.elim hq
theorem pe_call (F : FnOk X.prog X.w X.K X.mg X.base CX k f fd ps sp) (hr : Room k X.A) (hg : Gl X x) (hm : X.mg x = some (.ref f)) (hk : PySem.W.keepIn X.K (.ref f) = true) (hb : Binds X.K fd ps ds) (hd : Vals dvs ds) (hx : Passes CX X E)
    (ha : PA X (e :: es) t) (hdb : (x == ("__debug__" : Str)) = false := by decide) (he : starEach (e :: es) X.env = (false, eval e X.env) :: starEach es X.env := by rfl) (hpl : (backTo pos (starEach es X.env)).any (·.1) = false := by rfl) :
    PE X (.Call (.Name x p) (e :: es) [] pos) (tCall sp dvs E t) := by
  intro pins s σ H Q I h
  refine wpAny_Call_Name_kw (ld_glob I hg hm ?_ hdb)
  refine PySem.W.callWith_K (h₀ := X.base) I.ok.mod.kin hk (thn (ha pos pins s σ H _ I h) fun us s1 ⟨vs, H1, I1, r, q⟩ => ⟨I1.kIn, ?_⟩) he hpl
  exact run_fn F hr hb hd hx I1 r q
structure Mk (K : PySem.W.Frag) (C f : Addr) : Prop where
  makes : PySem.W.makesIn K C = true
  init : PySem.W.findIn K (.ref C) "__init__" = some (some (.ref f))
  fn : PySem.W.isFn K (.ref f) = true
  kp : PySem.W.keepIn K (.ref C) = true
end
section
variable {X : Cx} {CX : CXT} {k : Nat} {f C : Addr} {fd : FuncData} {ps ks : List Str} {sp : Sp} {E : XK} {x m : Str} {p pos apos kpos : Pos} {e o : Expr} {es : List Expr} {kws : List Keyword} {te ta : TE} {t tk : TA} {nm : Option Str}
structure KBinds (K : PySem.W.Frag) (fd : FuncData) (ps ks : List Str) (g : List Value → List Value → List Value) (gV : List V → List V → List V) : Prop where
  to : ∀ (s : Shared) (us ws : List Value), K.In s.heap → (g us ws).length = ps.length → BindsTo s fd ⟨us, ks.zip ws⟩ (ps.zip (g us ws))
  rel : ∀ {vs : List V} {us : List Value} {zs : List V} {ws : List Value}, Vals vs us → Vals zs ws → Vals (gV vs zs) (g us ws)
variable {g : List Value → List Value → List Value} {gV : List V → List V → List V}
end
structure FnScope (N P : List Str) (sc : Scope) : Prop where
  kind : sc.kind = .function
  co : sc.isCoroutine = false
  gen : sc.isGenerator = false
  nd : N.Nodup
  pre : N.take P.length = P
  par : ∀ x ∈ P, sc.names.lookup x = some .local ∨ sc.names.lookup x = some .cell
  nofree : ∀ y ∈ sc.names, y.2 ≠ .free
theorem bindL_out {kindOf : Str → Option NameKind} {x : Str} : ∀ {binds : List (Str × Value)} {m : Str → Option Value}, (∀ v, (x, v) ∉ binds) → bindL kindOf binds m x = m x
  | [], _, _ => rfl
  | (n, v) :: r, m, h => by
    unfold bindL
    rw [bindL_out fun w hw => h w (List.mem_cons_of_mem _ hw)]
    split
    · have : x ≠ n := by rintro rfl; exact h v List.mem_cons_self
      simp [this]
    · rfl
theorem bindC_out {kindOf : Str → Option NameKind} {x : Str} : ∀ {binds : List (Str × Value)} {m : Str → Option Value}, (∀ v, (x, v) ∉ binds) → bindC kindOf binds m x = m x
  | [], _, _ => rfl
  | (n, v) :: r, m, h => by
    unfold bindC
    rw [bindC_out fun w hw => h w (List.mem_cons_of_mem _ hw)]
    split
    · rfl
    · have : x ≠ n := by rintro rfl; exact h v List.mem_cons_self
      simp [this]
theorem bindL_get {kindOf : Str → Option NameKind} {x : Str} {v : Value} : ∀ {P : List Str} {vs : List Value} {i : Nat} {m : Str → Option Value}, P.Nodup → P[i]? = some x → vs[i]? = some v → kindOf x = some .local →
    bindL kindOf (P.zip vs) m x = some v
  | [], _, _, _, _, h, _, _ => by simp at h
  | _ :: _, [], _, _, _, _, h, _ => by simp at h
  | p :: P, w :: vs, 0, m, nd, h1, h2, hk => by
    simp at h1 h2; subst h1; subst h2
    show bindL kindOf ((p, w) :: P.zip vs) m p = _
    unfold bindL
    rw [bindL_out fun v hv => (List.nodup_cons.mp nd).1 (List.of_mem_zip hv).1, if_pos hk]
    simp
  | p :: P, w :: vs, i + 1, m, nd, h1, h2, hk => by
    show bindL kindOf ((p, w) :: P.zip vs) m x = _
    unfold bindL
    exact bindL_get (i := i) (List.nodup_cons.mp nd).2 (by simpa using h1) (by simpa using h2) hk
theorem bindC_get {kindOf : Str → Option NameKind} {x : Str} {v : Value} : ∀ {P : List Str} {vs : List Value} {i : Nat} {m : Str → Option Value}, P.Nodup → P[i]? = some x → vs[i]? = some v → kindOf x ≠ some .local →
    bindC kindOf (P.zip vs) m x = some v
  | [], _, _, _, _, h, _, _ => by simp at h
  | _ :: _, [], _, _, _, _, h, _ => by simp at h
  | p :: P, w :: vs, 0, m, nd, h1, h2, hk => by
    simp at h1 h2; subst h1; subst h2
    show bindC kindOf ((p, w) :: P.zip vs) m p = _
    unfold bindC
    rw [bindC_out fun v hv => (List.nodup_cons.mp nd).1 (List.of_mem_zip hv).1, if_neg hk]
    simp
  | p :: P, w :: vs, i + 1, m, nd, h1, h2, hk => by
    show bindC kindOf ((p, w) :: P.zip vs) m x = _
    unfold bindC
    exact bindC_get (i := i) (List.nodup_cons.mp nd).2 (by simpa using h1) (by simpa using h2) hk
def start (N : List Str) (vs : List V) : St := vs.map some ++ List.replicate (N.length - vs.length) none
def cxOf (CX : CXT) (P : Program) (w : World) (K : PySem.W.Frag) (mg : Str → Option Value) (base : Heap) (N : List Str) (qual : Str) (scope : Scope) (f : Addr) (cd : Value) (A : Around) (outer : List Env) (s : Shared) (H : Hp) (E : XK) : Cx where
  prog := P
  w := w
  K := K
  mg := mg
  base := base
  A := A.deeper (envOfC qual scope s.heap.objs.size f cd)
  N := N
  s₀ := s
  H₀ := H
  env := envOfC qual scope s.heap.objs.size f cd
  outer := outer
  stack := envOfC qual scope s.heap.objs.size f cd :: outer
  ex := []
  calm := true
  fn := fun _ => true
  pn := []
  xe := fun e s' => wpAny (model P w) (A.deeper (envOfC qual scope s.heap.objs.size f cd)) (leaving (envOfC qual scope s.heap.objs.size f cd) e) (fun _ s'' => CX outer H s E e s'') (fun e' s'' => CX outer H s E e' s'') s'
theorem cell_has {sc : Scope} {n : Nat} {x : Str} (h : sc.names.lookup x = some .cell) : ∃ c, (cellsFrom n sc.names []).lookup x = some c := by
  have q := PySem.W.cellsFrom_some sc.names n [] (.inl h)
  exact Option.isSome_iff_exists.mp q
theorem inv_start {CX : CXT} {P : Program} {w : World} {K : PySem.W.Frag} {mg : Str → Option Value} {base : Heap} {N ps : List Str} {qual : Str} {scope : Scope} {f : Addr} {cd : Value} {A : Around} {outer : List Env} {s s1 : Shared} {H : Hp} {E : XK} {us : List Value} {vs : List V}
    (S : FnScope N ps scope) (hd : A.handled = none) (e0 : Env0 P w K mg base A outer s H) (hl : vs.length = ps.length) (r : Vals vs us)
    (x : InCallC s s.heap.objs.size (bindL (envOfC qual scope s.heap.objs.size f cd).kindOf (ps.zip us) fun _ => none) (cellsFrom (s.heap.objs.size + 1) scope.names []) (bindC (envOfC qual scope s.heap.objs.size f cd).kindOf (ps.zip us) fun _ => none) s1) :
    Inv (cxOf CX P w K mg base N qual scope f cd A outer s H E) [] (start N vs) H s1 := by
  have hpl : ps.length ≤ N.length := by have := congrArg List.length S.pre; rw [List.length_take] at this; omega
  obtain ⟨h1, tk, rfl, hk⟩ := x.done
  have noA : ∀ b : Addr, b ∉ (cxOf CX P w K mg base N qual scope f cd A outer s H E).ex := fun b z => absurd (show b ∈ ([] : List Addr) from z) (by simp)
  refine ⟨⟨e0.mod, S.kind, rfl, rfl, Nat.le_refl _, fun y z c h1 h2 => ?_, fun y hy => ?_, fun y c _ h => ?_, fun _ => hd, Around.frames_deeper e0.frames, .inr ⟨rfl, rfl⟩, fun b z => absurd z (noA b), e0.bs, e0.bsz, fun b _ _ => noA b, fun b z => absurd z (noA b), e0.funs, e0.frf⟩,
    rfl, e0.bare, Un.kept hk, ⟨_, x.toInCall.ns, fun i y v h1 h2 h3 => ?_⟩, fun y c h => ⟨_, x.cell y c h⟩, e0.hok.fresh (Nat.le_refl _), fun y c h => ?_, fun p hp => absurd (show p ∈ ([] : List (Addr × Obj)) from hp) (by simp), e0.hok.kept hk, ?_⟩
  · exact name_of_addr x.apart (PySem.mem_of_lookup h1) (PySem.mem_of_lookup h2)
  · have hy : scope.names.lookup y = some .cell ∨ scope.names.lookup y = some .free := hy
    rcases hy with hy | hy
    · exact cell_has hy
    · exact absurd rfl (S.nofree _ (PySem.mem_of_lookup hy))
  · exact Nat.le_of_lt (x.above y c (PySem.mem_of_lookup h))
  · have hi : i < vs.length := by
      unfold start at h2
      by_cases hi : i < vs.length
      · exact hi
      · rw [List.getElem?_append_right (by simpa using hi)] at h2
        rw [List.getElem?_replicate] at h2
        split at h2 <;> cases h2
    have ha : vs[i]? = some v := by
      unfold start at h2
      rw [List.getElem?_append_left (by simpa using hi), List.getElem?_map] at h2
      cases e : vs[i]? with
      | none => rw [e] at h2; cases h2
      | some a => rw [e] at h2; cases h2; rfl
    obtain ⟨u, hu, rv⟩ := r.get ha
    have hp : ps[i]? = some y := by
      rw [← S.pre, List.getElem?_take_of_lt (by omega)]; exact h1
    have ndP : ps.Nodup := by rw [← S.pre]; exact S.nd.sublist (List.take_sublist _ _)
    refine ⟨u, rv, ?_⟩
    rcases S.par y (List.mem_of_getElem? hp) with k | k
    · exact .inl ⟨k, bindL_get ndP hp hu k⟩
    · obtain ⟨c, e⟩ := cell_has (n := s.heap.objs.size + 1) k
      refine .inr ⟨.inl k, c, e, ?_⟩
      have q := x.cell y c e
      rw [bindC_get ndP hp hu (by show scope.names.lookup y ≠ _; rw [k]; decide)] at q
      exact q
  · exact e0.hok.fresh (Nat.le_of_lt (x.above y c (PySem.mem_of_lookup h)))
  · unfold start
    show _ = N.length
    rw [List.length_append, List.length_map, List.length_replicate]
    omega
theorem fn_of {CX : CXT} {P : Program} {w : World} {K : PySem.W.Frag} {mg : Str → Option Value} {base : Heap} {k : Nat} {f : Addr} {name qual : Str} {params : Arguments} {body : List Stmt} {scope : Scope} {dV kV doc pm cdv ct oc : Value} {an od : Option Addr}
    {osl : Array (Option Value)} {N ps : List Str} {sp : Sp} (lk : K.lookup f = some ⟨oc, od, .func (PySem.W.fnOf name qual params body scope dV kV doc pm an cdv ct), osl⟩) (hcd : PySem.W.codeIn K cdv qual = true) (S : FnScope N ps scope)
    (len : ∀ vs H Q E, sp vs H Q E → vs.length = ps.length)
    (hbody : ∀ (A : Around) (outer : List Env) (s : Shared) (H : Hp) (vs : List V) (Q : VK) (E : XK), Room k (A.deeper (envOfC qual scope s.heap.objs.size f cdv)) → sp vs H Q E →
      ∃ t, PSs (cxOf CX P w K mg base N qual scope f cdv A outer s H E) body t ∧ t { nx := fun _ H' => Q .non H', rt := Q } (start N vs) H) :
    FnOk P w K mg base CX (k + 1) f (PySem.W.fnOf name qual params body scope dV kV doc pm an cdv ct) ps sp := by
  refine ⟨len, fun A outer s H args us vs Q E hr e0 hb r hsp => ?_⟩
  have hl := len _ _ _ _ hsp
  have KX : K.In s.heap := e0.mod.kin.keeps fun b o e => (e0.bs b o e).1
  have lim : s.heap.NoLimit := e0.mod.nolimit.keeps fun b o e => (e0.bs b o e).1
  have hkind : ∀ y ∈ ps.zip us, scope.names.lookup y.1 = some .local ∨ (scope.names.lookup y.1 = some .cell ∧ ((cellsFrom (s.heap.objs.size + 1) scope.names []).lookup y.1).isSome = true) := fun ⟨n, v⟩ hy => by
    rcases S.par n (List.of_mem_zip hy).1 with q | q
    · exact .inl q
    · exact .inr ⟨q, PySem.W.cellsFrom_some _ _ _ (.inl q)⟩
  refine codeAny_call_function hr.depth (KX _ _ lk) rfl S.co S.gen rfl (PySem.W.codeRec_of KX hcd) (hb _ _ _ _ ?_)
  refine wpAny_newFunctionEnv_cells S.kind hkind fun env he s1 x => ?_
  subst he
  refine ⟨lim.keeps x.toInCall.keep, codeAny_func ?_⟩
  obtain ⟨t, ht, hq⟩ := hbody A outer s H vs Q E (hr.deeper _) hsp
  have I : Inv (cxOf CX P w K mg base N qual scope f cdv A outer s H E) [] (start N vs) H s1 := inv_start S hr.hd e0 hl r x
  refine wpAny_mono (ht [] s1 (start N vs) H _ I hq) (fun fl s' hs => ?_) fun e s' hs => hs
  have fin : ∀ {σ' : St} {H' : Hp} {v : V} {u : Value}, Inv (cxOf CX P w K mg base N qual scope f cdv A outer s H E) [] σ' H' s' → RelV v u → Q v H' → CE outer P w H s Q u s' :=
    fun {σ' H' v u} J rv q => ⟨v, H', J.os, J.bare, J.base, J.hok, rv, q⟩
  cases fl with
  | ret u =>
    obtain ⟨v, σ', H', J, rv, q⟩ := hs
    exact fin J rv q
  | next =>
    obtain ⟨σ', H', J, q⟩ := hs
    exact fin (v := V.non) (u := Value.none) J rfl q
  | brk =>
    obtain ⟨_, _, _, q⟩ := hs
    exact False.elim q
  | cont =>
    obtain ⟨_, _, _, q⟩ := hs
    exact False.elim q
end L2
namespace L2
open PySem PySem.Spec PyProof.Rows
section
variable {X : Cx} {x : Str} {p pos : Pos} {e : Expr} {es : List Expr} {t : TA} {id T : String} {r : List V → Hp → VK → Prop}
def tCB (r : List V → Hp → VK → Prop) (t : TA) : TE := fun σ H Q => t σ H fun vs H1 => r vs H1 Q
theorem pe_callB (hc : CallR X (.builtin id) r) (hg : Gl X x) (hm : X.mg x = none) (hv : bootBuiltins x = some (.builtin id)) (ha : PA X (e :: es) t) (hn : x ≠ "__name__" := by decide) (hdb : (x == ("__debug__" : Str)) = false := by decide)
    (he : starEach (e :: es) X.env = (false, eval e X.env) :: starEach es X.env := by rfl) (hpl : (backTo pos (starEach es X.env)).any (·.1) = false := by rfl) : PE X (.Call (.Name x p) (e :: es) [] pos) (tCB r t) := by
  intro pins s σ H Q I h
  refine wpAny_Call_Name_kw (ld_blt I hg hm hv ?_ hn hdb)
  exact PyProof.Rows.callWith_builtin1 (thn (ha pos pins s σ H _ I h) fun us s1 ⟨vs, H1, I1, r1, q1⟩ => hc pins s1 σ H1 vs us Q I1 r1 q1) he hpl
theorem pe_callTy (hc : CallR X (.type T) r) (hg : Gl X x) (hm : X.mg x = none) (hv : bootBuiltins x = some (.type T)) (ha : PA X (e :: es) t) (hn : x ≠ "__name__" := by decide) (hdb : (x == ("__debug__" : Str)) = false := by decide)
    (he : starEach (e :: es) X.env = (false, eval e X.env) :: starEach es X.env := by rfl) (hpl : (backTo pos (starEach es X.env)).any (·.1) = false := by rfl) : PE X (.Call (.Name x p) (e :: es) [] pos) (tCB r t) := by
  intro pins s σ H Q I h
  refine wpAny_Call_Name_kw (ld_blt I hg hm hv ?_ hn hdb)
  exact PyProof.Rows.callWith_type1 (thn (ha pos pins s σ H _ I h) fun us s1 ⟨vs, H1, I1, r1, q1⟩ => hc pins s1 σ H1 vs us Q I1 r1 q1) he hpl
end
end L2
namespace HT
open PySem PyProof.Rows
section
open PySem.SeqAt
open PySem.AutoSeq1 (wpAny_loadPart')
open PySem.MeetsSeq PySem.MeetsSeq2 PySem.MeetsSeq3
end
section
variable {prog : Program} {w : World} {A : Around} {E : Value → Shared → Prop} {s : Shared}
def sIx (n d : Nat) : Option Int → Nat
  | none => d
  | some v => if v < 0 then (v + (n : Int)).toNat else min v.toNat n
end
end HT
namespace L2
open PySem PySem.Spec PyProof.Rows
abbrev TO := St → Hp → (Option Int → Hp → Prop) → Prop
def tNoPart : TO := fun _ H Q => Q none H
def tPart (t : TE) : TO := fun σ H Q => t σ H fun x H1 => ∃ i, x = .int i ∧ Q (some i) H1
section
variable {X : Cx} {e : Expr} {te : TE} {lo hi : Option Expr} {tl th : TO} {pos p2 : Pos}
def tSl (r : V → Option Int → Option Int → Hp → VK → Prop) (te : TE) (tl th : TO) : TE := fun σ H Q => te σ H fun x H1 => tl σ H1 fun l H2 => th σ H2 fun u H3 => r x l u H3 Q
def cutV (xs : List V) (lo hi : Option Int) : List V := (xs.drop (HT.sIx xs.length 0 lo)).take (HT.sIx xs.length xs.length hi - HT.sIx xs.length 0 lo)
theorem Vals.nil_iff {xs : List V} {us : List Value} (r : Vals xs us) : us = [] ↔ xs = [] := by
  cases r with
  | nil => simp
  | cons _ _ => simp
end
end L2
namespace L2
open PySem PySem.Spec PyProof.Rows
def ixN (n : Nat) (i : Int) : Option Nat := if 0 ≤ i then (if i < n then some i.toNat else none) else if -(n : Int) ≤ i then some (i + n).toNat else none
def atI {α : Type} (xs : List α) (i : Int) : Option α := (ixN xs.length i).bind fun j => xs[j]?
theorem ixN_seq {n : Nat} {i : Int} {j : Nat} (h : ixN n i = some j) : seqIndex? i n = some j ∧ j < n ∧ -(n : Int) ≤ i ∧ i < n := by
  unfold ixN at h
  by_cases h0 : 0 ≤ i
  · rw [if_pos h0] at h
    by_cases h1 : i < n
    · rw [if_pos h1] at h
      have e : i.toNat = j := Option.some.inj h
      exact ⟨by rw [seqIndex_of h0 h1, e], by omega, by omega, h1⟩
    · rw [if_neg h1] at h; cases h
  · rw [if_neg h0] at h
    by_cases h1 : -(n : Int) ≤ i
    · rw [if_pos h1] at h
      have e : (i + n).toNat = j := Option.some.inj h
      exact ⟨by rw [seqIndex_neg (by omega) h1, e], by omega, h1, by omega⟩
    · rw [if_neg h1] at h; cases h
theorem atI_get {α : Type} {xs : List α} {i : Int} {v : α} (h : atI xs i = some v) : ∃ j, seqIndex? i xs.length = some j ∧ xs[j]? = some v ∧ j < xs.length ∧ -(xs.length : Int) ≤ i ∧ i < xs.length := by
  unfold atI at h
  cases e : ixN xs.length i with
  | none => rw [e] at h; cases h
  | some j =>
    rw [e] at h
    obtain ⟨h1, h2, h3, h4⟩ := ixN_seq e
    exact ⟨j, h1, h, h2, h3, h4⟩
theorem atI_nat {α : Type} {xs : List α} {j : Nat} {v : α} (h : xs[j]? = some v) : atI xs (j : Int) = some v := by
  have hj : j < xs.length := (List.getElem?_eq_some_iff.mp h).1
  have e : ixN xs.length (j : Int) = some j := by
    unfold ixN
    rw [if_pos (by omega), if_pos (by omega)]; simp
  unfold atI; rw [e]; exact h
def PlainIx (b : Expr) : Prop := ∀ o i, subscripted b false o i = operate [o, i] (getItem o i)
def IxR (X : Cx) (r : R2) : Prop :=
  ∀ (value slice : Expr) (pins : List (Addr × Obj)) (s : Shared) (σ : St) (H : Hp) (x y : V) (v u : Value) (Q : VK), Inv X pins σ H s → RelV x v → RelV y u → r x y H Q →
    subscripted slice false v u = operate [v, u] (getItem v u) → wpAny (model X.prog X.w) X.A (subscriptTail value slice v u) (EP X pins σ Q) X.xe s
section
variable {X : Cx} {a b : Expr} {ta tb : TE} {pos : Pos}
theorem pe_ix {r : R2} (hr : IxR X r) (ha : PE X a ta) (hb : PE X b tb) (hs : PlainIx b) : PE X (.Subscript a b pos) (tOp r ta tb) := by
  intro pins s σ H Q I h
  exact Subscript_ (binT ha hb I h fun v u s2 x y H2 I2 rx ry q => hr a b pins s2 σ H2 x y v u Q I2 rx ry q (hs _ _))
def rIxL (K : PySem.W.Frag) : R2 := fun x y H Q => ∃ p xs i v, x = .ref p ∧ y = .int i ∧ SqL K H p xs ∧ atI xs i = some v ∧ Q v H
def rIxT (K : PySem.W.Frag) : R2 := fun x y H Q => ∃ p xs i v, x = .ref p ∧ y = .int i ∧ SqT K H p xs ∧ atI xs i = some v ∧ Q v H
theorem ix_list : IxR X (rIxL X.K) := by
  intro value slice pins s σ H x y v u Q I rx ry h hs
  obtain ⟨p, xs, i, z, rfl, rfl, hq, he, q⟩ := h
  cases rx
  obtain ⟨t, rfl⟩ := ry
  obtain ⟨its, r, pl, hz⟩ := I.list hq
  obtain ⟨j, h1, h2, h3, h4, h5⟩ := atI_get he
  obtain ⟨w, ew, rw'⟩ := r.get h2
  have hl := r.length
  have hn := line63
  have fin : EP X pins σ Q w s := ⟨z, H, I, rw', q⟩
  by_cases h0 : 0 ≤ i
  · have hj : i.toNat = j := by
      rw [seqIndex_of h0 h5] at h1
      exact Option.some.inj h1
    exact item_listR pl.isList h0 (by omega) (by rw [hj]; simpa using ew) fin hs
  · have hj : (i + (its.toArray.size : Int)).toNat = j := by
      rw [seqIndex_neg (by omega) h4] at h1
      rw [List.size_toArray, ← hl]
      exact Option.some.inj h1
    exact subscriptTail_builtinR (x := w) pl.isList.typeIs slot_list_getitem.lookup
      (wpAny_getItem_list_neg (Q := fun r s' => r = w ∧ EP X pins σ Q r s') pl.isList (by omega) (by rw [List.size_toArray] <;> omega) (by omega) (by rw [hj]; simpa using ew) ⟨rfl, fin⟩) hs
theorem ix_tup : IxR X (rIxT X.K) := by
  intro value slice pins s σ H x y v u Q I rx ry h hs
  obtain ⟨p, xs, i, z, rfl, rfl, hq, he, q⟩ := h
  cases rx
  obtain ⟨t, rfl⟩ := ry
  obtain ⟨its, r, pl, hz⟩ := I.tuple hq
  obtain ⟨j, h1, h2, h3, h4, h5⟩ := atI_get he
  obtain ⟨w, ew, rw'⟩ := r.get h2
  have hl := r.length
  have hn := line63
  have fin : EP X pins σ Q w s := ⟨z, H, I, rw', q⟩
  exact subscriptTail_builtinR (x := w) pl.typeIs slot_tuple_getitem.lookup
    (getItem_tuple (j := j) (Q := fun r s' => r = w ∧ EP X pins σ Q r s') pl (by omega) (by omega) (by rw [List.size_toArray, ← hl]; exact h1) (by simpa using ew) ⟨rfl, fin⟩) hs
theorem mapSeq_set (its : List Value) (n j : Nat) (u : Value) : Obj.mapSeq (·.setIfInBounds j u) { cls := .type "list", data := .seq its.toArray n } = { cls := .type "list", data := .seq (its.set j u).toArray n } := by
  simp [Obj.mapSeq]
theorem Inv.lst {pins : List (Addr × Obj)} {σ : St} {H : Hp} {s : Shared} {p : Addr} {xs : List V} (I : Inv X pins σ H s) (h : H p = some (.lst xs)) :
    ∃ (its : List Value) (n : Nat), Vals xs its ∧ s.heap.get? p = some { cls := .type "list", data := .seq its.toArray n } ∧ xs.length ≤ sizeLine := by
  obtain ⟨z, its, n, r, e⟩ := I.hok p _ h
  exact ⟨its, n, r, e, z⟩
theorem Inv.lstUpd {pins : List (Addr × Obj)} {σ : St} {H : Hp} {s : Shared} {p : Addr} {xs ys : List V} {its its' : List Value} {n n' : Nat} {f : Obj → Obj} (I : Inv X pins σ H s) (h : H p = some (.lst xs))
    (ho : s.heap.get? p = some { cls := .type "list", data := .seq its.toArray n }) (hf : f { cls := .type "list", data := .seq its.toArray n } = { cls := .type "list", data := .seq its'.toArray n' }) (r : Vals ys its') (hz : ys.length ≤ sizeLine) (t : Nat) :
    Inv X pins σ (upd H p (.lst ys)) { s with heap := s.heap.update p f, toks := t } := by
  have e : (s.heap.update p f).get? p = some { cls := .type "list", data := .seq its'.toArray n' } := by
    rw [Heap.get?_update_self f ho (by rw [hf] <;> rfl), hf]
  refine I.write (x := p) (e := p) (by rw [h]; trivial) (.inl rfl) (fun b u hb q => (Heap.get?_update_other _ _ (Ne.symm hb)).trans q) ⟨_, e⟩ ?_
  exact ⟨hz, its', n', r, e⟩
def rSetL : V → V → V → Hp → (Hp → Prop) → Prop := fun o i v H Q => ∃ p xs k j, o = .ref p ∧ i = .int k ∧ H p = some (.lst xs) ∧ ixN xs.length k = some j ∧ Q (upd H p (.lst (xs.set j v)))
theorem set_list : PSet X rSetL := by
  intro pins s σ H o i v ov iv u Q I ro ri rv h
  obtain ⟨p, xs, k, j, rfl, rfl, hp, hj, q⟩ := h
  cases ro
  obtain ⟨t, rfl⟩ := ri
  obtain ⟨its, n, r, ho, hz⟩ := I.lst hp
  obtain ⟨h1, h2, h3, h4⟩ := ixN_seq hj
  have hl := r.length
  have hn := line63
  have I' : Inv X pins σ (upd H p (.lst (xs.set j v))) { s with heap := s.heap.update p (Obj.mapSeq (·.setIfInBounds j u)) } :=
    I.lstUpd hp ho (mapSeq_set its n j u) (r.set rv j) (by rw [List.length_set]; exact hz) s.toks
  by_cases h0 : 0 ≤ k
  · have hk : k.toNat = j := by
      rw [seqIndex_of h0 h4] at h1
      exact Option.some.inj h1
    exact PySem.W.ki_setAt ho h0 (by omega) (by rw [List.size_toArray, ← hl]; exact h4) (by rw [hk]; exact ⟨_, I', q⟩)
  · have hk : (k + (its.toArray.size : Int)).toNat = j := by
      rw [seqIndex_neg (by omega) h3] at h1
      rw [List.size_toArray, ← hl]
      exact Option.some.inj h1
    exact PySem.W.ki_setBack ho (by omega) (by rw [List.size_toArray, ← hl]; exact h3) (by omega) (by rw [hk]; exact ⟨_, I', q⟩)
def flatV : V → Bool
  | .non => true
  | .bl _ => true
  | .int _ => true
  | .str _ => true
  | _ => false
def eqV : V → V → Bool
  | .non, .non => true
  | .bl a, .bl b => a == b
  | .bl a, .int b => (if a then 1 else 0) == b
  | .int a, .bl b => a == (if b then 1 else 0)
  | .int a, .int b => a == b
  | .str a, .str b => a == b
  | _, _ => false
theorem eqAt_V {A : Around} {s : Shared} {y x : V} {u v : Value} (ry : RelV y u) (rx : RelV x v) (fy : flatV y = true) (fx : flatV x = true) : SeqAt.EqAt A s u v (eqV y x) := by
  cases y with
  | non =>
    cases ry
    cases x with
    | non => cases rx; exact SeqAt.EqAt.same _
    | bl b => cases rx; exact SeqAt.EqAt.none_bool b
    | int b => obtain ⟨t, rfl⟩ := rx; exact SeqAt.EqAt.none_int b t
    | str b => obtain ⟨t, rfl⟩ := rx; exact SeqAt.EqAt.none_str b t
    | _ => exact absurd (show false = true from fx) Bool.false_ne_true
  | bl a =>
    cases ry
    cases x with
    | non => cases rx; exact SeqAt.EqAt.bool_none a
    | bl b => cases rx; exact SeqAt.EqAt.bool_bool a b
    | int b => obtain ⟨t, rfl⟩ := rx; exact SeqAt.EqAt.bool_int a b t
    | str b => obtain ⟨t, rfl⟩ := rx; exact SeqAt.EqAt.bool_str a b t
    | _ => exact absurd (show false = true from fx) Bool.false_ne_true
  | int a =>
    obtain ⟨t', rfl⟩ := ry
    cases x with
    | non => cases rx; exact SeqAt.EqAt.int_none a t'
    | bl b => cases rx; exact SeqAt.EqAt.int_bool a t' b
    | int b => obtain ⟨t, rfl⟩ := rx; exact SeqAt.EqAt.int_int a t' b t
    | str b => obtain ⟨t, rfl⟩ := rx; exact SeqAt.EqAt.int_str a t' b t
    | _ => exact absurd (show false = true from fx) Bool.false_ne_true
  | str a =>
    obtain ⟨t', rfl⟩ := ry
    cases x with
    | non => cases rx; exact SeqAt.EqAt.str_none a t'
    | bl b => cases rx; exact SeqAt.EqAt.str_bool a t' b
    | int b => obtain ⟨t, rfl⟩ := rx; exact SeqAt.EqAt.str_int a t' b t
    | str b => obtain ⟨t, rfl⟩ := rx; exact SeqAt.EqAt.str_str a t' b t
    | _ => exact absurd (show false = true from fx) Bool.false_ne_true
  | _ => exact absurd (show false = true from fy) Bool.false_ne_true
def inV (x : V) (xs : List V) : Bool := xs.any fun y => eqV y x
theorem call_len_seq : CallR X (.builtin "len") (fun xs H Q => ∃ p ys, xs = [.ref p] ∧ (SqL X.K H p ys ∨ SqT X.K H p ys) ∧ Q (.int ys.length) H) := by
  intro pins s σ H xs us Q I r h
  obtain ⟨p, ys, rfl, hq, q⟩ := h
  obtain ⟨u, rfl, rx⟩ := vals1 r
  cases rx
  have hn := line63
  rcases hq with hq | hq
  · obtain ⟨its, r', pl, hz⟩ := I.list hq
    have hlen := r'.length
    exact Calls.call_len_list pl.isList (by simp only [List.size_toArray] <;> omega) ⟨.int ys.length, H, I.tok _, ⟨s.toks + 1, by rw [List.size_toArray, hlen]⟩, q⟩
  · obtain ⟨its, r', pl, hz⟩ := I.tuple hq
    have hlen := r'.length
    exact len_tuple pl (by simp only [List.size_toArray] <;> omega) ⟨.int ys.length, H, I.tok _, ⟨s.toks + 1, by rw [List.size_toArray, hlen]⟩, q⟩
theorem call_tuple_of : CallR X (.type "tuple") (fun xs H Q => ∃ p ys, xs = [.ref p] ∧ ((SqL X.K H p ys ∧ ∀ l, H l = none → Q (.ref l) (upd H l (.tup ys))) ∨ (SqT X.K H p ys ∧ Q (.ref p) H))) := by
  intro pins s σ H xs us Q I r h
  obtain ⟨p, ys, rfl, h⟩ := h
  obtain ⟨u, rfl, rx⟩ := vals1 r
  cases rx
  rcases h with ⟨hq, q⟩ | ⟨hq, q⟩
  · obtain ⟨its, r', pl, hz⟩ := I.list hq
    have hlen := r'.length
    refine call_tuple_list pl.isList (fun h' kp => ?_) (by simp only [List.size_toArray] <;> omega)
    have I1 : Inv X pins σ H { s with heap := h' } := I.kept (t' := s.toks) kp
    have I2 : Inv X pins σ (upd H h'.objs.size (.tup ys)) { s with heap := h'.push { cls := .type "tuple", data := .seq its.toArray } } :=
      I1.laid (t' := s.toks) (fun b o e => Heap.get?_push_of_some _ e) (Nat.le_refl _) (show ObjOk X.prog X.w _ _ _ (.tup ys) from ⟨hz, its, r', IsTup.new _ _⟩)
    exact ⟨.ref h'.objs.size, _, I2, rfl, q _ (I1.hok.fresh (Nat.le_refl _))⟩
  · obtain ⟨its, r', pl, hz⟩ := I.tuple hq
    exact call_tuple_same pl ⟨.ref p, H, I, rfl, q⟩
def tyV (K : PySem.W.Frag) (T : String) (x : V) (H : Hp) : Prop := match x with
  | .str _ => T = "str"
  | .int _ => T = "int"
  | .ref p => (T = "list" ∧ ∃ xs, SqL K H p xs) ∨ (T = "tuple" ∧ ∃ o, K.lookup p = some o ∧ o.cls = .type "tuple" ∧ o.dict = none) ∨
      (T = "dict" ∧ ((∃ kvs, H p = some (.dK kvs)) ∨ ∃ kvs, H p = some (.dT kvs))) ∨ (T = "set" ∧ ∃ S n, H p = some (.set S n))
  | _ => False
theorem tyV_is {pins : List (Addr × Obj)} {σ : St} {H : Hp} {s : Shared} {T : String} {x : V} {v : Value} (I : Inv X pins σ H s) (r : RelV x v) (ty : tyV X.K T x H) :
    s.TypeIs v T ∧ ∀ a, v = .ref a → ∃ ob, s.heap.get? a = some ob ∧ ob.dict = none := by
  cases x with
  | str z =>
    obtain ⟨t, rfl⟩ := r
    cases (show T = "str" from ty)
    exact ⟨typeIs_str s z t, fun _ e => nomatch e⟩
  | int i =>
    obtain ⟨t, rfl⟩ := r
    cases (show T = "int" from ty)
    exact ⟨typeIs_int s i t, fun _ e => nomatch e⟩
  | ref p =>
    cases r
    rcases ty with ⟨rfl, xs, hq⟩ | ⟨rfl, o, hk, hc, hd⟩ | ⟨rfl, hk⟩ | ⟨rfl, S, n, hk⟩
    · obtain ⟨its, _, pl, _⟩ := I.list hq
      refine ⟨pl.isList.typeIs, fun a e => ?_⟩
      cases e
      obtain ⟨o, n, e, c, hd, _⟩ := pl
      exact ⟨o, e, hd⟩
    · refine ⟨⟨o, I.kIn p o hk, hc⟩, fun a e => ?_⟩
      cases e
      exact ⟨o, I.kIn _ o hk, hd⟩
    · have z : ∃ o, s.heap.get? p = some o ∧ o.ExactDict := by
        rcases hk with ⟨kvs, hk⟩ | ⟨kvs, hk⟩
        · obtain ⟨_, _, _, _, o, _, _, e, ex, _⟩ := I.hok p _ hk
          exact ⟨o, e, ex⟩
        · obtain ⟨_, _, _, _, o, _, _, e, ex, _⟩ := I.hok p _ hk
          exact ⟨o, e, ex⟩
      obtain ⟨o, e, ex⟩ := z
      refine ⟨⟨o, e, ex.1⟩, fun a e2 => ?_⟩
      cases e2
      exact ⟨o, e, ex.2.1⟩
    · obtain ⟨o, _, _, _, e, ex, _⟩ := I.hok p _ hk
      refine ⟨⟨o, e, ex.1⟩, fun a e2 => ?_⟩
      cases e2
      exact ⟨o, e, ex.2.1⟩
  | _ => exact False.elim ty
variable {o e : Expr} {es : List Expr} {to : TE} {t : TA} {name : Str} {apos cpos : Pos} {T id : String} {r : V → List V → Hp → VK → Prop}
end
end L2
namespace L2
open PySem PySem.Spec PyProof.Rows
def MtM (X : Cx) (id : String) (r : V → List V → Hp → VK → Prop) : Prop :=
  ∀ (pins : List (Addr × Obj)) (s : Shared) (σ : St) (H : Hp) (x : V) (xs : List V) (v : Value) (us : List Value) (Q : VK), Inv X pins σ H s → RelV x v → Vals xs us → r x xs H Q →
    wpAny (model X.prog X.w) X.A (call (.builtin id) (v :: us)) (EP X pins σ Q) X.xe s
theorem Vals.one : ∀ {x : V} {us : List Value}, Vals [x] us → ∃ u, us = [u] ∧ RelV x u
  | _, _, .cons r .nil => ⟨_, rfl, r⟩
theorem Vals.two : ∀ {x y : V} {us : List Value}, Vals [x, y] us → ∃ u v, us = [u, v] ∧ RelV x u ∧ RelV y v
  | _, _, _, .cons r (.cons q .nil) => ⟨_, _, rfl, r, q⟩
theorem Vals.zero : ∀ {us : List Value}, Vals [] us → us = []
  | _, .nil => rfl
theorem Vals.reverse {xs : List V} {us : List Value} (h : Vals xs us) : Vals xs.reverse us.reverse := by
  induction h with
  | nil => exact .nil
  | cons r t ih => rw [List.reverse_cons, List.reverse_cons]; exact Vals.append ih (.cons r .nil)
theorem Vals.rep {xs : List V} {us : List Value} (h : Vals xs us) : ∀ k : Nat, Vals (List.replicate k xs).flatten (List.replicate k us).flatten
  | 0 => .nil
  | k + 1 => by
    rw [List.replicate_succ, List.replicate_succ, List.flatten_cons, List.flatten_cons]
    exact Vals.append h (Vals.rep h k)
theorem foldl_rep (its : List Value) : ∀ (k : Nat) (acc : List Value),
    List.foldl (fun x1 x2 => x1 ++ x2) acc.toArray (List.replicate k its.toArray) = (acc ++ (List.replicate k its).flatten).toArray
  | 0, acc => by simp
  | k + 1, acc => by
    have e : acc.toArray ++ its.toArray = (acc ++ its).toArray := by simp
    have e2 : (acc ++ its) ++ (List.replicate k its).flatten = acc ++ (List.replicate (k + 1) its).flatten := by
      rw [List.replicate_succ, List.flatten_cons, List.append_assoc]
    rw [← e2, ← foldl_rep its k (acc ++ its), ← e, List.replicate_succ, List.foldl_cons]
section
variable {X : Cx} {pins : List (Addr × Obj)} {σ : St} {H : Hp} {s : Shared} {l b : Addr} {xs ys zs : List V}
theorem Inv.lset {its its' : List Value} {n : Nat} {f : Array Value → Array Value} {t' : Nat} (I : Inv X pins σ H s) (hH : H l = some (.lst xs))
    (e : s.heap.get? l = some { cls := .type "list", data := .seq its.toArray n }) (hf : f its.toArray = its'.toArray) (hv : Vals ys its') (hz : ys.length ≤ sizeLine) :
    Inv X pins σ (upd H l (.lst ys)) { s with heap := s.heap.update l (Obj.mapSeq f), toks := t' } := by
  have q := PySem.IsL.update e f
  rw [hf] at q
  refine I.write (x := l) (e := l) (by rw [hH]; exact trivial) (.inl rfl) (fun b' u hb hu => (Heap.get?_update_other s.heap (Obj.mapSeq f) (Ne.symm hb)).trans hu) ⟨_, q⟩ ?_
  exact ⟨hz, its', _, hv, q⟩
theorem Inv.lnew {its : List Value} {t' : Nat} (I : Inv X pins σ H s) (hv : Vals ys its) (hz : ys.length ≤ sizeLine) :
    Inv X pins σ (upd H s.heap.objs.size (.lst ys)) { s with heap := s.heap.push { cls := .type "list", data := .seq its.toArray }, toks := t' } :=
  I.laid (fun _ _ q => Heap.get?_push_of_some _ q) (Nat.le_refl _) ⟨hz, its, 0, hv, Heap.get?_push_size _ rfl⟩
theorem Inv.fresh (I : Inv X pins σ H s) : H s.heap.objs.size = none := I.hok.fresh (Nat.le_refl _)
theorem Inv.lstM (I : Inv X pins σ H s) (hH : H l = some (.lst xs)) : xs.length ≤ sizeLine ∧ ∃ (its : List Value) (n : Nat), Vals xs its ∧ xs.length = its.length ∧ s.heap.get? l = some { cls := .type "list", data := .seq its.toArray n } := by
  obtain ⟨z, its, n, r, e⟩ := I.hok l _ hH
  exact ⟨z, its, n, r, r.length, e⟩
end
section
variable {X : Cx}
def rAppend : V → List V → Hp → VK → Prop := fun x vs H Q => ∃ l xs y, x = .ref l ∧ vs = [y] ∧ H l = some (.lst xs) ∧ xs.length < sizeLine ∧ Q .non (upd H l (.lst (xs ++ [y])))
theorem mt_append : MtM X "list.append" rAppend := by
  intro pins s σ H x vs v us Q I rx rv h
  obtain ⟨l, xs, y, rfl, rfl, hH, hz, q⟩ := h
  cases rx
  obtain ⟨u, rfl, ru⟩ := rv.one
  obtain ⟨z, its, n, r, hl, e⟩ := I.lstM hH
  refine call_meets F.slot_list_append ⟨_, e, rfl⟩ F.entry_list_append (F.args_list_append_2 _ _) (PySem.list_append l its.toArray n u (by rw [List.size_toArray]; omega)) ⟨e, ?_⟩
  refine ⟨.non, _, I.lset (its' := its ++ [u]) hH e (by simp) (r.append (.cons ru .nil)) ?_, rfl, q⟩
  rw [List.length_append, List.length_singleton]
  omega
theorem len_rep {α : Type} (xs : List α) (k : Nat) : (List.replicate k xs).flatten.length = k * xs.length := by
  induction k with
  | zero => simp
  | succ k ih => rw [List.replicate_succ, List.flatten_cons, List.length_append, ih, Nat.succ_mul, Nat.add_comm]
end
section
variable {prog : Program} {w : World} {A : Around} {E : Value → Shared → Prop} {s : Shared}
end
section
variable {X : Cx}
end
end L2
namespace Att
open PySem PySem.W PySem.Calls PyProof.Rows
theorem ints_of_wellAll {P : Params} {h : Heap} : ∀ (ns : List Int) (vs : List Value), WellAll P h vs (ns.map WData.int) → IntsAre vs ns := by
  intro ns
  induction ns with
  | nil =>
    intro vs w
    rw [List.map_nil] at w
    cases w
    exact .nil
  | cons n ns ih =>
    intro vs w
    rw [List.map_cons] at w
    cases w with
    | cons a b =>
      cases a
      exact .cons _ _ (ih _ b)
theorem script_of {l : OpenLaw} {n : Nat} (hn : l.most = some n) {P : Params} {h : Heap} {args : List WData} {vals : List Value}
    (hpre : l.row.toRowW.claim.pre args = true) (hwl : WellAll P h vals args) :
    ∃ a vs ns, vals = [Value.ref a] ∧ args = [WData.list (ns.map WData.int)] ∧ h.get? a = some { cls := .type "list", data := .seq vs.toArray } ∧ IntsAre vs ns ∧ ns.length ≤ n := by
  have hsh : WShape.hasAll [] args [.list .int] = true := (pre_splitW hpre).1
  have hc : l.pre.holds [] { args := args } = true := (pre_splitW hpre).2
  obtain ⟨d, r, rfl, h1, h2⟩ := hasAllW_cons hsh
  obtain rfl := hasAllW_nil h2
  obtain ⟨xs, rfl, h3⟩ := hasW_list h1
  obtain ⟨ns, rfl⟩ := items_int h3
  have hlen : ns.length ≤ n := by
    unfold OpenLaw.pre at hc
    have h4 : (WTm.not (.lt (.lit (.int (n : Int))) (.len (.arg 0)))).holds [] { args := [.list (ns.map .int)] } = true := by
      have h4 := (holds_andW hc).1
      rw [hn] at h4
      exact h4
    have h5 := condW_of h4 (w_not (w_lt w_lit (w_len_list (w_arg rfl))))
    rw [List.length_map] at h5
    refine Nat.le_of_not_lt fun q => ?_
    have q' : (n : Int) < ((ns.length : Nat) : Int) := by omega
    first
      | (rw [decide_eq_true q'] at h5; exact absurd h5 (by decide))
      | (simp at h5; omega)
  cases hwl with
  | cons w1 w2 =>
    cases w2
    cases w1 with
    | list ho hall => exact ⟨_, _, ns, rfl, rfl, ho, ints_of_wellAll ns _ hall, hlen⟩
theorem post_true (l : OpenLaw) (args : List WData) : l.row.toRowW.claim.post args (.bool true) args = true :=
  postW_of (r := l.row.toRowW) (X := (true == true))
    (show WShape.has [] (.bool true) .bool = true by first | rfl | decide | simp [WShape.has, WShape.arms, WShape.armsAll])
    (show (WTm.eq .res (.lit (.bool true))).value [] { args := args, res := some (.bool true), after := args } = some (.bool (true == true)) from w_eq_bool (w_res rfl) w_lit) rfl
theorem attach_call {l : OpenLaw} {n : Nat} {q : Program} {loose : List Str} {XP : (Str → Option Value) → Heap → Prop} {YP : World → Heap → Prop} {d : DefRec}
    (hn : l.most = some n) (hdf : d.params.defaults = [])
    (call : ∀ (w : World) (s₀ s₁ : Shared) (mg mb : Str → Option Value) (fa : Addr) (o : Obj) (pm cd doc : Value) (a : Addr) (vs : List Value) (ns : List Int),
      Ground q loose [] XP w s₀ mg mb s₁.heap → YP w s₁.heap →
      s₁.heap.get? fa = some o → o.data = .func (docDef d.name d.params d.body d.scope pm cd doc) → s₁.heap.CodeRec cd d.name → mg d.name = some (.ref fa) →
      s₁.heap.get? a = some { cls := .type "list", data := .seq vs.toArray } → IntsAre vs ns → ns.length ≤ n → s₁.gens = #[] →
      codeAny (model l.prog w) callerA (.call (.ref fa) ⟨[.ref a], []⟩) (fun r s' => r = .ok (.ret (.bool true)) ∧ OldK s₁.heap s'.heap ∧ s'.os = s₁.os ∧ AllBare s'.gens) s₁) :
    WalkO q loose XP YP l.row.toRowW d [] (fun f vs => PySem.call f vs) := by
  intro w s₀ s₁ mg mb G Y fa o pm cd doc dV kV ho hd hcd hD hmg hg args vals as hpre hlay hrd hwl hlo
  obtain rfl : dV = .none := Dflts.none hD hdf
  obtain rfl : kV = .none := Dflts.noKw hD
  obtain ⟨a, vs, ns, rfl, rfl, hobj, hints, hlen⟩ := script_of hn hpre hwl
  refine enter_call (codeAny_mono (call w s₀ s₁ mg mb fa o pm cd doc a vs ns G Y ho (fd_plain hd) hcd hmg hobj hints hlen hg) fun r s' hq => ?_)
  obtain ⟨rfl, h2, h3, h4⟩ := hq
  exact ⟨.inl ⟨.bool true, .bool true, [], rfl, fun _ => rfl, .bool true, post_true l _, fun _ => ⟨List.Pairwise.nil, fun _ hm => (nomatch hm)⟩⟩, h2, h3, h4⟩
section
variable {prog : Program} {w : World} {A : Around} {E : Value → Shared → Prop} {s : Shared} {K : Frag}
end
end Att
namespace L2
open PySem PySem.Spec PyProof.Rows
theorem vals_ints : ∀ {vs : List Value} {ns : List Int}, IntsAre vs ns → Vals (ns.map V.int) vs
  | _, _, .nil => .nil
  | _, _, .cons n t h => .cons ⟨t, rfl⟩ (vals_ints h)
def Only (H : Hp) : Prop := ∀ b, H b = none ∨ ∃ o xs, H b = some (.frz o (.lst xs))
theorem law_call {P : Program} {w : World} {K : PySem.W.Frag} {mg mb : Str → Option Value} {CX : CXT} {k : Nat} {fa a : Addr} {fd : FuncData} {x : Str} {sp : Sp} {s₁ : Shared} {vs : List Value} {ns : List Int}
    (KX : K.In s₁.heap) (hns : s₁.heap.Ns mainGlobals mg) (hb : s₁.heap.Ns builtinsNs mb) (hbb : ∀ x : Str, x ≠ "__name__" → mb x = bootBuiltins x) (hlim : s₁.heap.NoLimit) (hg : s₁.gens = #[])
    (ha : s₁.heap.get? a = some { cls := .type "list", data := .seq vs.toArray }) (hi : IntsAre vs ns) (hl : ns.length ≤ sizeLine) (hr : Room k callerA)
    (F : ∀ base : Heap, K.In base → base.Ns mainGlobals mg → FnOk P w K mg base CX k fa fd [x] sp) (hbind : ∀ (s : Shared) (u : Value), BindsTo s fd ⟨[u], []⟩ [(x, u)])
    (hsp : ∀ H : Hp, Only H → SqL K H a (ns.map V.int) → sp [.ref a] H (fun v _ => v = .bl true) fun _ _ _ => False)
    (hCX : ∀ H e s', CX [] H s₁ (fun _ _ _ => False) e s' → False) :
    codeAny (model P w) callerA (.call (.ref fa) ⟨[.ref a], []⟩) (fun r s' => r = .ok (.ret (.bool true)) ∧ OldK s₁.heap s'.heap ∧ s'.os = s₁.os ∧ AllBare s'.gens) s₁ := by
  have rv := vals_ints hi
  have lenV := hi.length
  have core : ∀ H : Hp, Only H → SqL K H a (ns.map V.int) → HOk P w H s₁.heap → (∀ b, H b ≠ none → b = a) → (H a ≠ none → K.lookup a = none) →
      codeAny (model P w) callerA (.call (.ref fa) ⟨[.ref a], []⟩) (fun r s' => r = .ok (.ret (.bool true)) ∧ OldK s₁.heap s'.heap ∧ s'.os = s₁.os ∧ AllBare s'.gens) s₁ := by
    intro H hO hS hok hA hK
    have base_of : ∀ {b : Addr} {o : Obj}, s₁.heap.get? b = some o → H b = none → (hidT s₁.heap H).get? b = some o := fun e n => hidT_get e n
    have noA : ∀ {b : Addr} {o : Obj} {es : Array DictEntry} {ep : Nat}, s₁.heap.get? b = some o → o.data = .dict es ep → H b = none := fun {b o es ep} e d => by
      cases q : H b with
      | none => rfl
      | some u =>
        have e' : b = a := hA b (by rw [q]; simp)
        subst e'
        rw [ha] at e; cases e
        have d' : Data.seq vs.toArray _ = Data.dict es ep := d
        cases d'
    have nsK : ∀ {b : Addr} {m : Str → Option Value}, s₁.heap.Ns b m → (hidT s₁.heap H).Ns b m := fun {b m} ⟨o, es, ep, e, d, r⟩ => ⟨o, es, ep, base_of e (noA e d), d, r⟩
    have hKb : K.In (hidT s₁.heap H) := fun b o e => base_of (KX b o e) (by
      cases q : H b with
      | none => rfl
      | some u =>
        have e' : b = a := hA b (by rw [q]; simp)
        subst e'
        rw [hK (by rw [q]; simp)] at e; cases e)
    have hM : Mod K mg (hidT s₁.heap H) := ⟨hKb, nsK hns, ⟨mb, nsK hb, hbb⟩, let ⟨mc, h1, h2⟩ := hlim; ⟨mc, nsK h1, h2⟩⟩
    have e0 : Env0 P w K mg (hidT s₁.heap H) callerA [] s₁ H := ⟨rfl, hM, fun b o e => of_hidT e, Nat.le_of_eq (hidT_size _ _), trivial, fun b hb => absurd (show b ∈ ([] : List Addr) from hb) (by simp), hok, .of_eq hg⟩
    refine codeAny_mono ((F _ hKb (nsK hns)).run callerA [] s₁ H ⟨[.ref a], []⟩ [.ref a] [.ref a] _ _ hr e0 (hbind s₁ (.ref a)) (.cons rfl .nil) (hsp H hO hS)) fun r s' h => ?_
    cases r with
    | error e => exact (hCX H e s' h).elim
    | ok fl =>
      cases fl with
      | next => exact False.elim h
      | brk => exact False.elim h
      | cont => exact False.elim h
      | ret u =>
        obtain ⟨v, H', os, bare, un, hok', r', q⟩ := h
        have q' : v = .bl true := q
        subst q'
        obtain rfl : u = Value.bool true := r'
        refine ⟨rfl, OldK.of_keep fun b o e => ?_, os, bare⟩
        cases q : H b with
        | none => exact un.keep b o e q (by intro z; exact absurd (show b ∈ ([] : List Addr) from z) (by simp)) (by simp)
        | some u =>
          rcases hO b with z | ⟨ob, xs, z⟩
          · rw [q] at z; cases z
          · have z2 := un.frzs b ob _ z
            obtain ⟨e1, _⟩ := hok b _ z
            obtain ⟨e2, _⟩ := hok' b _ z2
            rw [e] at e1; cases e1
            exact e2
  cases hk : K.lookup a with
  | some o =>
    have e := KX a o hk
    rw [ha] at e
    cases e
    refine core (fun _ => none) (fun _ => .inl rfl) (.inr ⟨_, vs.toArray, _, hk, rfl, rfl, rfl, by rw [List.size_toArray, lenV]; exact hl, by simpa using rv⟩) (fun b u z => by have z' : (none : Option HO) = some u := z; cases z') (fun b z => absurd rfl z) fun z => absurd rfl z
  | none =>
    refine core (fun b => if b = a then some (.frz { cls := .type "list", data := .seq vs.toArray } (.lst (ns.map V.int))) else none) (fun b => ?_) (.inl (.inr ⟨{ cls := .type "list", data := .seq vs.toArray }, if_pos rfl⟩)) (fun b u z => ?_) (fun b z => ?_) fun _ => hk
    · by_cases hb : b = a
      · exact .inr ⟨_, _, if_pos hb⟩
      · exact .inl (if_neg hb)
    · by_cases hb : b = a
      · have z' := (if_pos hb).symm.trans z
        cases z'
        subst hb
        exact ⟨ha, by rw [List.length_map]; exact hl, vs, _, rv, ha⟩
      · have z' := (if_neg hb).symm.trans z
        cases z'
    · by_cases hb : b = a
      · exact hb
      · exact absurd (if_neg hb) z
end L2
namespace L2
open PySem PySem.Spec PyProof.Rows
theorem walk_of {l : PySem.W.OpenLaw} {n k : Nat} {q : Program} {loose : List Str} {XP : (Str → Option Value) → Heap → Prop} {YP : World → Heap → Prop} {d : DefRec} {K : Params → PySem.W.Frag} {CX : World → CXT} {sp : World → Sp} {x : Str}
    (hn : l.most = some n) (hn2 : n ≤ sizeLine) (hdf : d.params.defaults = []) (hr : Room k callerA)
    (hY : ∀ (w : World) (h : Heap), YP w h → (K w.params).In h)
    (F : ∀ (w : World) (mg : Str → Option Value) (fa : Addr) (h : Heap), (K w.params).In h → h.Ns mainGlobals mg → mg d.name = some (.ref fa) →
      ∃ fd : FuncData, (∀ (s : Shared) (u : Value), BindsTo s fd ⟨[u], []⟩ [(x, u)]) ∧
        ∀ base : Heap, (K w.params).In base → base.Ns mainGlobals mg → FnOk l.prog w (K w.params) mg base (CX w) k fa fd [x] (sp w))
    (hsp : ∀ (w : World) (H : Hp) (a : Addr) (ns : List Int), ns.length ≤ n → Only H → SqL (K w.params) H a (ns.map V.int) → sp w [.ref a] H (fun v _ => v = .bl true) fun _ _ _ => False)
    (hCX : ∀ (w : World) (H : Hp) (s : Shared) (e : Value) (s' : Shared), CX w [] H s (fun _ _ _ => False) e s' → False) :
    PySem.W.WalkO q loose XP YP l.row.toRowW d [] (fun f vs => PySem.call f vs) := by
  refine Att.attach_call hn hdf fun w s₀ s₁ mg mb fa o pm cd doc a vs ns G Y ho hd hcd hmg hobj hints hlen hg => ?_
  have KX := hY w _ Y
  obtain ⟨fd, hb, hF⟩ := F w mg fa _ KX G.T.g hmg
  exact law_call KX G.T.g G.T.b G.T.builtins G.T.nolimit hg hobj hints (Nat.le_trans hlen hn2) hr hF hb (fun H hO hS => hsp w H a ns hlen hO hS) fun H e s' => hCX w H s₁ e s'
end L2
namespace L2
open PySem PySem.Spec PyProof.Rows
def defArgs (s : Stmt) : Arguments := match s with
  | .FunctionDef _ a _ _ _ _ _ _ _ _ => a
  | _ => { posonlyargs := [], args := [], vararg := none, kwonlyargs := [], kw_defaults := [], kwarg := none, defaults := [] }
def defBody (s : Stmt) : List Stmt := match s with
  | .FunctionDef _ _ b _ _ _ _ _ _ _ => b
  | _ => []
def defScope (s : Stmt) : Scope := match s with
  | .FunctionDef _ _ _ _ _ _ sc _ _ _ => sc
  | _ => { kind := .function, names := [], isGenerator := false, isCoroutine := false }
abbrev CX0 : CXT := fun _ _ _ _ _ _ => False
abbrev E0 : XK := fun _ _ _ => False
theorem pass0 {X : Cx} : Passes CX0 X E0 := fun _ _ _ _ _ _ _ h => h.elim
structure Fun (K : PySem.W.Frag) (x qual : Str) (st : Stmt) (f : Addr) (fd : FuncData) : Prop where
  ex : ∃ (oc : Value) (od : Option Addr) (kV doc pm : Value) (an : Option Addr) (cdv ct : Value) (osl : Array (Option Value)),
    fd = PySem.W.fnOf x qual (defArgs st) (defBody st) (defScope st) .none kV doc pm an cdv ct ∧ K.lookup f = some ⟨oc, od, .func fd, osl⟩ ∧ PySem.W.codeIn K cdv qual = true
  kp : PySem.W.keepIn K (.ref f) = true
section
variable {P : Program} {w : World} {K : PySem.W.Frag} {mg : Str → Option Value} {base : Heap}
theorem Fun.ok {x qual : Str} {st : Stmt} {f : Addr} {fd : FuncData} {N ps : List Str} {k : Nat} {sp : Sp} (F : Fun K x qual st f fd) (S : FnScope N ps (defScope st)) (len : ∀ vs H Q E, sp vs H Q E → vs.length = ps.length)
    (hbody : ∀ (cdv : Value) (A : Around) (outer : List Env) (s : Shared) (H : Hp) (vs : List V) (Q : VK) (E : XK), Room k (A.deeper (envOfC qual (defScope st) s.heap.objs.size f cdv)) → sp vs H Q E →
      ∃ t, PSs (cxOf CX0 P w K mg base N qual (defScope st) f cdv A outer s H E).nox (defBody st) t ∧ t { nx := fun _ H' => Q .non H', rt := Q } (start N vs) H) : FnOk P w K mg base CX0 (k + 1) f fd ps sp := by
  obtain ⟨oc, od, kV, doc, pm, an, cdv, ct, osl, rfl, lk, hcd⟩ := F.ex
  refine fn_of lk hcd S len fun A outer s H vs Q E hr hsp => ?_
  obtain ⟨t, h, q⟩ := hbody cdv A outer s H vs Q E hr hsp
  exact ⟨t, h.nox, q⟩
theorem Fun.binds {x qual : Str} {st : Stmt} {f : Addr} {fd : FuncData} {ps : List Str} (F : Fun K x qual st f fd)
    (h : ∀ (kV doc pm : Value) (an : Option Addr) (cdv ct : Value) (us : List Value), us.length = ps.length → bindArgs (PySem.W.fnOf x qual (defArgs st) (defBody st) (defScope st) .none kV doc pm an cdv ct) ⟨us, []⟩ = pure (ps.zip us)) : Binds K fd ps [] := by
  obtain ⟨oc, od, kV, doc, pm, an, cdv, ct, osl, rfl, lk, hcd⟩ := F.ex
  exact .all (h kV doc pm an cdv ct)
theorem fun_mk {x qual : Str} {st : Stmt} {f : Addr} {oc : Value} {od an : Option Addr} {osl : Array (Option Value)} {kV doc pm cdv ct : Value} (l : K.lookup f = some ⟨oc, od, .func (PySem.W.fnOf x qual (defArgs st) (defBody st) (defScope st) .none kV doc pm an cdv ct), osl⟩)
    (c : PySem.W.codeIn K cdv qual = true) (k : PySem.W.keepIn K (.ref f) = true) : Fun K x qual st f (PySem.W.fnOf x qual (defArgs st) (defBody st) (defScope st) .none kV doc pm an cdv ct) := ⟨⟨oc, od, kV, doc, pm, an, cdv, ct, osl, rfl, l, c⟩, k⟩
end
theorem hu_of {A : Around} {k : Nat} (hr : Room k A) : A.units + 1 < cLine := Nat.lt_of_le_of_lt (Nat.add_le_add_left (by decide : 1 ≤ 64) _) hr.units
theorem small1000 {n : Nat} (h : n ≤ 1000) : n < sizeLine := Nat.lt_of_le_of_lt h (by decide)
section
variable {X : Cx}
theorem pv (i : Nat) {x : Str} {pos : Pos} (hN : X.N[i]? = some x := by rfl) (hv : Vis X.env.scope x := by first | exact Or.inl rfl | exact Or.inr (Or.inl rfl) | exact Or.inr (Or.inr rfl)) (hd : (x == ("__debug__" : Str)) = false := by decide)
    (hcd : (x == ("__classdict__" : Str)) = false := by decide) : PE X (.Name x pos) (tVar i) := pe_var hN hv hd hcd
end
def Same (H H' : Hp) : Prop := ∀ b o, H b = some o → H' b = some o
theorem Same.refl (H : Hp) : Same H H := fun _ _ h => h
theorem Same.trans {H H1 H2 : Hp} (a : Same H H1) (b : Same H1 H2) : Same H H2 := fun c o h => b c o (a c o h)
theorem Same.free {H H' : Hp} (e : Same H H') {l : Addr} (h : H' l = Option.none) : H l = Option.none := by
  cases q : H l with
  | none => rfl
  | some o =>
    rw [e l o q] at h
    cases h
theorem Same.seq {K : PySem.W.Frag} {H H' : Hp} {a : Addr} {xs : List V} (e : Same H H') (h : SqL K H a xs) : SqL K H' a xs := by
  rcases h with (h | ⟨o, h⟩) | h
  · exact .inl (.inl (e _ _ h))
  · exact .inl (.inr ⟨o, e _ _ h⟩)
  · exact .inr h
end L2
end
section
set_option Elab.async false
set_option linter.all false
set_option maxRecDepth 100000
namespace L2
open PySem PySem.Spec PyProof.Rows
def clos : List (Str × NameKind) → List (Str × Addr) → List (Str × Addr) → Option (List (Str × Addr))
  | [], _, acc => some acc
  | (n, k) :: r, cs, acc => if k == .free then (match cs.lookup n with | some c => clos r cs ((n, c) :: acc) | none => none) else clos r cs acc
theorem clos_run {env : Env} : ∀ (names : List (Str × NameKind)) (acc cl : List (Str × Addr)), clos names env.cells acc = some cl →
    (forIn names acc fun (x : Str × NameKind) (cs : List (Str × Addr)) => (if (x.2 == NameKind.free) = true then (do let c ← cellOf env x.1; pure (ForInStep.yield ((x.1, c) :: cs))) else pure (ForInStep.yield cs) : Sem (ForInStep (List (Str × Addr))))) = (pure cl : Sem _)
  | [], acc, cl, h => by
    have e : acc = cl := Option.some.inj h
    subst e; rfl
  | (n, k) :: r, acc, cl, h => by
    unfold clos at h
    rw [List.forIn_cons]
    cases hk : k == NameKind.free with
    | false =>
      rw [hk] at h
      have ih := clos_run (env := env) r acc cl (by simpa using h)
      simp only [hk, Bool.false_eq_true, if_false, pure_bind]
      exact ih
    | true =>
      rw [hk] at h
      simp only [if_true] at h
      cases hc : env.cells.lookup n with
      | none => rw [hc] at h; cases h
      | some c =>
        rw [hc] at h
        have ih := clos_run (env := env) r ((n, c) :: acc) cl h
        have e : cellOf env n = pure c := by unfold cellOf; rw [hc]
        simp only [hk, if_true, e, pure_bind]
        exact ih
theorem closureFor_clos {scope : Scope} {env : Env} {cl : List (Str × Addr)} (h : clos scope.names env.cells [] = some cl) : closureFor scope env = pure cl := by
  have q := clos_run scope.names [] cl h
  unfold closureFor
  show (do let r ← _; pure r) = _
  refine Eq.trans ?_ (congrArg (fun z => z >>= fun r => pure r) q) |>.trans ?_
  · rfl
  · rfl
theorem clos_sub {cs : List (Str × Addr)} : ∀ (names : List (Str × NameKind)) (acc cl : List (Str × Addr)), clos names cs acc = some cl → (∀ n c, (n, c) ∈ acc → cs.lookup n = some c) → ∀ n c, (n, c) ∈ cl → cs.lookup n = some c
  | [], acc, cl, h, ha, n, c, hm => by
    have e : acc = cl := Option.some.inj h
    subst e; exact ha n c hm
  | (n0, k) :: r, acc, cl, h, ha, n, c, hm => by
    unfold clos at h
    split at h
    · split at h
      · rename_i c0 hc
        refine clos_sub r _ cl h (fun n' c' h' => ?_) n c hm
        rcases List.mem_cons.mp h' with e | h'
        · cases e; exact hc
        · exact ha n' c' h'
      · cases h
    · exact clos_sub r acc cl h ha n c hm
theorem clos_mono {cs : List (Str × Addr)} : ∀ (names : List (Str × NameKind)) (acc cl : List (Str × Addr)), clos names cs acc = some cl → ∀ p ∈ acc, p ∈ cl
  | [], acc, cl, h, p, hp => by
    have e : acc = cl := Option.some.inj h
    subst e; exact hp
  | (n0, k) :: r, acc, cl, h, p, hp => by
    unfold clos at h
    split at h
    · split at h
      · exact clos_mono r _ cl h p (List.mem_cons_of_mem _ hp)
      · cases h
    · exact clos_mono r acc cl h p hp
theorem clos_has {cs : List (Str × Addr)} : ∀ (names : List (Str × NameKind)) (acc cl : List (Str × Addr)), clos names cs acc = some cl → ∀ n, (n, NameKind.free) ∈ names → ∃ c, (n, c) ∈ cl
  | (n0, k) :: r, acc, cl, h, n, hn => by
    unfold clos at h
    rcases List.mem_cons.mp hn with e | hn
    · cases e
      simp only [beq_self_eq_true, if_true] at h
      split at h
      · rename_i c0 hc
        exact ⟨c0, clos_mono r _ cl h _ List.mem_cons_self⟩
      · cases h
    · split at h
      · split at h
        · exact clos_has r _ cl h n hn
        · cases h
      · exact clos_has r acc cl h n hn
theorem lookup_of_mem {β : Type} : ∀ {l : List (Str × β)} {n : Str} {c : β}, (n, c) ∈ l → ∃ c', l.lookup n = some c'
  | (m, d) :: r, n, c, h => by
    rw [List.lookup_cons]
    cases e : n == m with
    | true => exact ⟨d, rfl⟩
    | false =>
      rcases List.mem_cons.mp h with q | q
      · cases q; simp at e
      · exact lookup_of_mem q
theorem clos_lookup {cs cl : List (Str × Addr)} {names : List (Str × NameKind)} (h : clos names cs [] = some cl) {x : Str} {c : Addr} (q : cl.lookup x = some c) : cs.lookup x = some c :=
  clos_sub names [] cl h (fun _ _ z => absurd z (by simp)) x c (PySem.mem_of_lookup q)
theorem relabel_free {env : Env} : ∀ {names : List (Str × NameKind)} {x : Str}, (∀ y ∈ names, y.2 ≠ NameKind.cell) →
    ((names.map fun (n, k) => if (k == NameKind.free && env.scope.kind == .function && env.kindOf n == some .cell) then (n, NameKind.cell) else (n, k)).lookup x = some .cell ∨
     (names.map fun (n, k) => if (k == NameKind.free && env.scope.kind == .function && env.kindOf n == some .cell) then (n, NameKind.cell) else (n, k)).lookup x = some .free) → (x, NameKind.free) ∈ names
  | [], x, _, h => by simp at h
  | (n, k) :: r, x, hc, h => by
    have ih := @relabel_free env r x (fun y hy => hc y (List.mem_cons_of_mem _ hy))
    rw [List.map_cons] at h
    cases hx : x == n with
    | true =>
      have e : x = n := by simpa using hx
      subst e
      by_cases hk : k = NameKind.free
      · subst hk; exact List.mem_cons_self
      · have hb : (k == NameKind.free) = false := by simpa using hk
        simp only [hb, Bool.false_and, Bool.false_eq_true, if_false, List.lookup_cons, beq_self_eq_true] at h
        rcases h with h | h
        · exact absurd (Option.some.inj h) (hc (x, k) List.mem_cons_self)
        · exact absurd (Option.some.inj h) hk
    | false =>
      refine List.mem_cons_of_mem _ (ih ?_)
      by_cases hcnd : (k == NameKind.free && env.scope.kind == .function && env.kindOf n == some .cell) = true
      · simp only [hcnd, if_true, List.lookup_cons, hx] at h; exact h
      · simp only [hcnd, if_false, List.lookup_cons, hx, Bool.false_eq_true] at h; exact h
theorem relabel_free' {sc : Scope} {env : Env} {x : Str} (hc : ∀ y ∈ sc.names, y.2 ≠ NameKind.cell) (h : (relabel sc env).names.lookup x = some .cell ∨ (relabel sc env).names.lookup x = some .free) : (x, NameKind.free) ∈ sc.names := relabel_free hc h
def cxc (X : Cx) (N : List Str) (sc : Scope) (cl : List (Str × Addr)) (s : Shared) (H : Hp) (ex : List Addr) : Cx where
  prog := X.prog
  w := X.w
  K := X.K
  mg := X.mg
  base := X.base
  A := X.A
  N := N
  s₀ := s
  H₀ := H
  env := compEnvC sc cl s.heap.objs.size X.env
  outer := X.stack
  stack := X.stack
  ex := ex
  fn := fun _ => false
  calm := X.calm
  pn := []
  xe := fun _ _ => False
def frS (fr : List (Option Nat)) (σ : St) : St := fr.map fun o => o.bind fun j => (σ[j]?).bind id
def PIfs (X : Cx) (ifs : List Expr) (t : TT) : Prop :=
  ∀ (pins : List (Addr × Obj)) (s : Shared) (σ : St) (H : Hp) (Q : Bool → Hp → Prop), Inv X pins σ H s → t σ H Q →
    wpAny (model X.prog X.w) X.A (forIn ifs true fun c r => if r = true then do let ok ← isTrue c X.env (eval c X.env); pure (ForInStep.yield ok) else pure (ForInStep.yield r)) (TP X pins σ Q) X.xe s
def tTrue : TT := fun _ H Q => Q true H
theorem pif_nil {X : Cx} : PIfs X [] tTrue := fun _ _ _ _ _ I h => wpAny_tests_nil ⟨_, I, h⟩
theorem pif_one {X : Cx} {c : Expr} {t : TT} (h : PT X c t) : PIfs X [c] t := fun pins s σ H Q I q => wpAny_tests_one (h pins s σ H Q I q)
abbrev TB := St → Hp → (St → Hp → Prop) → Prop
def PB (X : Cx) (body : Sem Unit) (t : TB) : Prop :=
  ∀ (pins : List (Addr × Obj)) (s : Shared) (σ : St) (H : Hp) (N : St → Hp → Prop), Inv X pins σ H s → t σ H N →
    wpAny (model X.prog X.w) X.A body (fun _ s' => ∃ σ' H', Inv X pins σ' H' s' ∧ N σ' H') X.xe s
def tEmit (p : Addr) (te : TE) : TB := fun σ H N => te σ H fun y H1 => ∃ ys, H1 p = some (.lst ys) ∧ ys.length < sizeLine ∧ N σ (upd H1 p (.lst (ys ++ [y])))
theorem pb_emit {X : Cx} {elt : Expr} {te : TE} {p : Addr} (h : PE X elt te) : PB X (do let _ ← call (.builtin "list.append") [.ref p, ← eval elt X.env]) (tEmit p te) := by
  intro pins s σ H N I q
  refine wpAny_bind (thn (h pins s σ H _ I q) fun u s1 ⟨y, H1, I1, r, ys, hp, hz, n⟩ => ?_)
  refine wpAny_bind (thn (mt_append (X := X) pins s1 σ H1 (.ref p) [y] (.ref p) [u] (fun _ H2 => N σ H2) I1 rfl (.cons r .nil) ⟨p, ys, y, rfl, rfl, hp, hz, n⟩) fun _ s2 ⟨_, H2, I2, _, n2⟩ => wpAny_pure ⟨σ, H2, I2, n2⟩)
def tCL (J : It) (g : TG) (tc : TT) (tb : TB) : (St → Hp → Prop) → St → Hp → Prop := fun D σ H => ∃ W : Nat → Nat → St → Hp → Prop, (∃ m, W 0 m σ H) ∧ ∀ i m σ H, W i m σ H →
  (J.stop i H ∧ D σ H) ∨ (J.go i H ∧ ∃ N : St → Hp → Prop, (∀ σ' H', N σ' H' → ∃ m', m' < m ∧ W (i + 1) m' σ' H') ∧ ∀ x H', J.yld i H x H' → g x σ H' fun σ2 H2 => tc σ2 H2 fun b H3 => if b = true then tb σ2 H3 N else N σ2 H3)
theorem comp_loop {X : Cx} {e tg : Expr} {d : Nat} {ip : Pos} {ifs : List Expr} {body : Sem Unit} {acc : Value} {it : Addr} {fp : List Addr} {tn : Nat → Heap → Prop} {J : It} {g : TG} {tc : TT} {tb : TB} {D : St → Hp → Prop} {pins : List (Addr × Obj)} {σ : St} {H : Hp} {s : Shared}
    (hc : X.calm = true) (hx : X.xe = fun _ _ => False)
    (heq : compTurn e d (.ref it) acc X.env = (do
      standAt ip
      match ← pyNext (.ref it) with
      | none => pure (.done .next)
      | some v =>
        letOwnedTupleGo tg (.ref it) v
        assign tg X.env v
        let mut ok := true
        for c in ifs do
          if ok then ok ← isTrue c X.env (eval c X.env)
        if ok then body
        again (.compLoop e d (.ref it) acc X.env)))
    (hfrm : (Code.compLoop e d (.ref it) acc X.env).isFrame = false) (hund : X.A.under (Code.compLoop e d (.ref it) acc X.env) = X.A) (hq : (Code.compLoop e d (.ref it) acc X.env).quiet = true)
    (T : Turn X.prog X.w X.K tg J fp it tn) (hg : PG X tg g) (hi : PIfs X ifs tc) (hb : PB X body tb)
    (I : Inv X pins σ H s) (st : tn 0 s.heap) (f : ∀ b ∈ fp, FpOk X pins H b) (h : tCL J g tc tb D σ H) :
    codeAny (model X.prog X.w) X.A (.compLoop e d (.ref it) acc X.env) (fun r s' => r = .ok .next ∧ ∃ σ' H', Inv X pins σ' H' s' ∧ D σ' H') s := by
  obtain ⟨W, ⟨m0, w0⟩, turn⟩ := h
  have stat : ∀ {H' : Hp}, (∀ b ∈ fp, H' b = none) → ∀ b ∈ fp, FpOk X pins H' b := fun hn b hb => ⟨hn b hb, (f b hb).2⟩
  refine codeAny_loop hq (fun n s' => ∃ i σ' H', Inv X pins σ' H' s' ∧ tn i s'.heap ∧ (∀ b ∈ fp, H' b = none) ∧ W i n σ' H') ?_ m0 ⟨0, σ, H, I, st, fun b hb => (f b hb).1, w0⟩
  rintro n s3 ⟨i, σ3, H3, I3, st3, fr3, w3⟩
  rw [hund]
  show wpAny _ X.A (if (Code.compLoop e d (.ref it) acc X.env).isFrame then _ else (compTurn e d (.ref it) acc X.env).onRaise (fun x => do noteFrame x X.env; theTreesLotGoes x)) _ _ s3
  rw [hfrm]
  show wpAny _ X.A ((compTurn e d (.ref it) acc X.env).onRaise (fun x => do noteFrame x X.env; theTreesLotGoes x)) _ _ s3
  refine wpAny_noted ?_
  rw [heq]
  have no : ∀ {α : Type} {t : Sem α} {Q : α → Shared → Prop} {E : Value → Shared → Prop} {s : Shared}, wpAny (model X.prog X.w) X.A t Q X.xe s → wpAny (model X.prog X.w) X.A t Q E s := fun h => wpAny_mono h (fun _ _ q => q) fun _ _ z => by rw [hx] at z; exact z.elim
  refine wpAny_bind (wpAny_standAt (wpAny_bind ?_))
  rcases turn i n σ3 H3 w3 with ⟨stop, qn⟩ | ⟨go, N, hN, step⟩
  · refine thn (T.done X rfl rfl rfl hc i pins s3 σ3 H3 _ I3 (stat fr3) st3 stop) fun r s4 ⟨hr, I4⟩ => ?_
    subst hr
    exact wpAny_pure ⟨rfl, σ3, H3, I4, qn⟩
  · refine thn (T.item X rfl rfl rfl hc i pins s3 σ3 H3 _ I3 (stat fr3) st3 go) fun r s4 ⟨u, hr, h4⟩ => ?_
    subst hr
    refine wpAny_bind (thn h4 fun _ s5 ⟨x, H5, I5, r5, y5, st5, fr5⟩ => ?_)
    have I5' := I5.pinned (stat fr5) (T.obj _ _ st5)
    have again : ∀ {s7 : Shared} {σ7 : St} {H7 : Hp}, Inv X (pins ++ pinsAt fp s5.heap) σ7 H7 s7 → N σ7 H7 → ∃ m, m < n ∧ ∃ i σ' H', Inv X pins σ' H' s7 ∧ tn i s7.heap ∧ (∀ b ∈ fp, H' b = none) ∧ W i m σ' H' := fun {s7 σ7 H7} I7 n7 => by
      obtain ⟨m', hm, w7⟩ := hN σ7 H7 n7
      refine ⟨m', hm, i + 1, σ7, H7, I7.unpinned, T.keep _ _ _ st5 fun b hb o e => (I7.pin (b, o) (List.mem_append_right _ (List.mem_append_right _ (mem_pinsAt hb e)))).1, fun b hb => ?_, w7⟩
      obtain ⟨o, e, d⟩ := T.obj _ _ st5 b hb
      exact (I7.pin (b, o) (List.mem_append_right _ (List.mem_append_right _ (mem_pinsAt hb e)))).2.1
    refine wpAny_bind (no (thn (hg _ s5 σ3 H5 x u _ I5' r5 (step x H5 y5)) fun _ s6 ⟨σ6, H6, I6, q6⟩ => ?_))
    refine wpAny_bind (no (thn (hi _ s6 σ6 H6 _ I6 q6) fun ok s7 ⟨H7, I7, q7⟩ => ?_))
    cases ok with
    | false => exact wpAny_pure ⟨rfl, again I7 q7⟩
    | true =>
      refine wpAny_bind (no (thn (hb _ s7 σ6 H7 _ I7 q7) fun _ s8 ⟨σ8, H8, I8, n8⟩ => ?_))
      exact wpAny_pure ⟨rfl, again I8 n8⟩
end L2
end
section
set_option Elab.async false
set_option linter.all false
set_option maxRecDepth 100000
namespace L2
open PySem PySem.Spec PyProof.Rows
theorem lookup_relabel_free {env : Env} : ∀ {names : List (Str × NameKind)} {x : Str}, names.lookup x = some .free →
    ((names.map fun (n, k) => if (k == NameKind.free && env.scope.kind == .function && env.kindOf n == some .cell) then (n, NameKind.cell) else (n, k)).lookup x = some .cell ∨
     (names.map fun (n, k) => if (k == NameKind.free && env.scope.kind == .function && env.kindOf n == some .cell) then (n, NameKind.cell) else (n, k)).lookup x = some .free)
  | [], _, h => by simp at h
  | (n, k) :: r, x, h => by
    have ih := @lookup_relabel_free env r x
    rw [List.map_cons]
    cases hx : x == n with
    | true =>
      simp only [List.lookup_cons, hx] at h
      cases h
      by_cases hc : (NameKind.free == NameKind.free && env.scope.kind == .function && env.kindOf n == some .cell) = true
      · left; simp only [hc, if_true, List.lookup_cons, hx]
      · right; simp only [hc, if_false, List.lookup_cons, hx, Bool.false_eq_true]
    | false =>
      simp only [List.lookup_cons, hx] at h
      by_cases hc : (k == NameKind.free && env.scope.kind == .function && env.kindOf n == some .cell) = true
      · simp only [hc, if_true, List.lookup_cons, hx]; exact ih h
      · simp only [hc, if_false, List.lookup_cons, hx, Bool.false_eq_true]; exact ih h
structure CScope (X : Cx) (N : List Str) (fr : List (Option Nat)) (sc : Scope) : Prop where
  kind : sc.kind = .function
  nocell : ∀ y ∈ sc.names, y.2 ≠ NameKind.cell
  loc : ∀ y ∈ sc.names, y.2 = .local → sc.names.lookup y.1 = some .local
  len : fr.length = N.length
  fr : ∀ (i j : Nat), fr[i]? = some (some j) → ∃ x, N[i]? = some x ∧ X.N[j]? = some x ∧ sc.names.lookup x = some .free ∧ (X.env.kindOf x = some .cell ∨ X.env.kindOf x = some .free)
def okFr (XN : List Str) (XS names : List (Str × NameKind)) : List Str → List (Option Nat) → Bool
  | [], [] => true
  | x :: N, o :: fr => (match o with
    | none => true
    | some j => XN[j]? == some x && names.lookup x == some .free && (XS.lookup x == some .cell || XS.lookup x == some .free)) && okFr XN XS names N fr
  | _, _ => false
theorem okFr_len {XN : List Str} {XS names : List (Str × NameKind)} : ∀ {N : List Str} {fr : List (Option Nat)}, okFr XN XS names N fr = true → fr.length = N.length
  | [], [], _ => rfl
  | x :: N, o :: fr, h => by
    unfold okFr at h
    rw [Bool.and_eq_true] at h
    rw [List.length_cons, List.length_cons, okFr_len h.2]
  | [], _ :: _, h => by cases h
  | _ :: _, [], h => by cases h
theorem okFr_get {XN : List Str} {XS names : List (Str × NameKind)} : ∀ {N : List Str} {fr : List (Option Nat)} {i j : Nat}, okFr XN XS names N fr = true → fr[i]? = some (some j) → ∃ x, N[i]? = some x ∧ XN[j]? = some x ∧ names.lookup x = some .free ∧ (XS.lookup x = some .cell ∨ XS.lookup x = some .free)
  | [], [], _, _, _, e => by simp at e
  | x :: N, o :: fr, 0, j, h, e => by
    unfold okFr at h
    rw [Bool.and_eq_true] at h
    simp at e
    subst e
    have h1 := h.1
    simp only [Bool.and_eq_true, Bool.or_eq_true, beq_iff_eq] at h1
    exact ⟨x, rfl, h1.1.1, h1.1.2, h1.2⟩
  | x :: N, o :: fr, i + 1, j, h, e => by
    unfold okFr at h
    rw [Bool.and_eq_true] at h
    obtain ⟨y, q⟩ := okFr_get (i := i) (j := j) h.2 (by simpa using e)
    exact ⟨y, by simpa using q.1, q.2⟩
  | [], _ :: _, _, _, h, _ => by cases h
  | _ :: _, [], _, _, h, _ => by cases h
def okLoc (names : List (Str × NameKind)) : Bool := names.all fun y => !(y.2 == .cell) && (!(y.2 == .local) || names.lookup y.1 == some .local)
theorem CScope.of {X : Cx} {N : List Str} {fr : List (Option Nat)} {sc : Scope} (h1 : sc.kind = .function) (h2 : okLoc sc.names = true) (h3 : okFr X.N X.env.scope.names sc.names N fr = true) : CScope X N fr sc := by
  have h2' := List.all_eq_true.mp h2
  refine ⟨h1, fun y hy e => ?_, fun y hy e => ?_, okFr_len h3, fun i j e => okFr_get h3 e⟩
  · have q := h2' y hy
    rw [e] at q
    simp at q
  · have q := h2' y hy
    rw [e] at q
    simpa using q
theorem frS_get {fr : List (Option Nat)} {σ : St} {i : Nat} {v : V} (h : (frS fr σ)[i]? = some (some v)) : ∃ j, fr[i]? = some (some j) ∧ σ[j]? = some (some v) := by
  unfold frS at h
  rw [List.getElem?_map] at h
  cases e : fr[i]? with
  | none => rw [e] at h; cases h
  | some o =>
    rw [e] at h
    cases o with
    | none => cases h
    | some j =>
      refine ⟨j, rfl, ?_⟩
      have h' : (σ[j]?).bind id = some v := Option.some.inj h
      cases q : σ[j]? with
      | none => rw [q] at h'; cases h'
      | some o => rw [q] at h'; exact congrArg some h'
section
variable {X : Cx} {pins : List (Addr × Obj)} {σ : St} {H H' : Hp} {s : Shared}
theorem Inv.block {N : List Str} {fr : List (Option Nat)} {sc : Scope} {cl : List (Str × Addr)} {ex : List Addr} {h1 : Heap} {tk : Nat} (I : Inv X pins σ H s) (S : CScope X N fr sc) (hcl : clos sc.names X.env.cells [] = some cl)
    (hex : ∀ b ∈ ex, FpOk X pins H b ∧ b < s.heap.objs.size) (hns : h1.Ns s.heap.objs.size (fun _ => none)) (hk : ∀ b u, s.heap.get? b = some u → h1.get? b = some u) :
    Inv (cxc X N sc cl s H ex) [] (frS fr σ) H { s with heap := h1, toks := tk } := by
  have hfree : H s.heap.objs.size = none := I.hok.fresh (Nat.le_refl _)
  have cne : ∀ x c, cl.lookup x = some c → c ≠ s.heap.objs.size := fun x c e z => by
    obtain ⟨v, q⟩ := I.cell x c (clos_lookup hcl e)
    exact absurd q.lt (by rw [z]; exact Nat.lt_irrefl _)
  refine ⟨⟨I.ok.mod, S.kind, I.ok.glob, I.ok.blt, Nat.le_refl _, fun x y c h1 h2 => I.ok.inj x y c (clos_lookup hcl h1) (clos_lookup hcl h2), fun x hx => ?_, fun x c z => absurd (show false = true from z) (by decide), I.ok.hd, I.ok.frames, Or.inl rfl, fun b hb => ?_, I.bs, Nat.le_trans I.ok.bsz I.sz, fun b o e hb => ?_, fun b hb hf => ?_, I.stack, I.stkFree⟩,
    rfl, I.bare, Un.kept hk, ⟨_, hns, fun i x v h1 h2 h3 => ?_⟩, fun x c e => ?_, hfree, fun x c e => I.freeC x c (clos_lookup hcl e), fun p hp => absurd (show p ∈ ([] : List (Addr × Obj)) from hp) (by simp), I.hok.kept hk, ?_⟩
  · have hx' : (relabel sc X.env).names.lookup x = some .cell ∨ (relabel sc X.env).names.lookup x = some .free := hx
    obtain ⟨c, hc⟩ := clos_has sc.names [] cl hcl x (relabel_free' S.nocell hx')
    exact lookup_of_mem hc
  · obtain ⟨⟨f0, f1, f2, f3, f4, f5⟩, lt⟩ := hex b hb
    exact ⟨Nat.ne_of_lt lt, fun x c e => f4 x c (clos_lookup hcl e)⟩
  · obtain ⟨⟨f0, f1, f2, f3, f4, f5⟩, lt⟩ := hex b hb
    rcases f3 with f3 | f3
    · exact I.ok.noex b o e f3
    · exact absurd (Nat.lt_of_lt_of_le (Heap.lt_size e) I.ok.bsz) (Nat.not_lt.mpr f3)
  · obtain ⟨⟨f0, f1, f2, f3, f4, f5⟩, lt⟩ := hex b hb
    rcases List.mem_cons.mp (I.stkSub b hf) with e | e
    · exact f1 e
    · exact f2 e
  · obtain ⟨j, hj, hv⟩ := frS_get h2
    obtain ⟨x', e1, e2, e3, e4⟩ := S.fr i j hj
    have hN : N[i]? = some x := h1
    rw [hN] at e1
    cases e1
    obtain ⟨c, hc⟩ := clos_has sc.names [] cl hcl x (PySem.mem_of_lookup e3)
    obtain ⟨c', hc'⟩ := lookup_of_mem hc
    have hcX := clos_lookup hcl hc'
    obtain ⟨m, hn, hl⟩ := I.loc
    have kc : (relabel sc X.env).names.lookup x = some .cell ∨ (relabel sc X.env).names.lookup x = some .free := lookup_relabel_free e3
    have vis : Vis X.env.scope x ∧ (X.env.kindOf x ≠ some .local) := by
      rcases e4 with q | q
      · exact ⟨.inr (.inl q), by rw [q]; decide⟩
      · exact ⟨.inr (.inr q), by rw [q]; decide⟩
    obtain ⟨u, r, l⟩ := hl j x v e2 hv vis.1
    refine ⟨u, r, .inr ⟨kc, c', hc', ?_⟩⟩
    rcases l with ⟨q, _⟩ | ⟨_, d, hd, hcell⟩
    · exact absurd q vis.2
    · rw [hcX] at hd
      cases hd
      exact hcell.keeps hk
  · obtain ⟨v, q⟩ := I.cell x c (clos_lookup hcl e)
    exact ⟨v, q.keeps hk⟩
  · show (frS fr σ).length = N.length
    unfold frS
    rw [List.length_map]; exact S.len
end
end L2
end
section
set_option Elab.async false
set_option linter.all false
set_option maxRecDepth 100000
namespace L2
open PySem PySem.Spec PyProof.Rows
section
variable {X : Cx} {pins : List (Addr × Obj)} {σ : St} {H H' : Hp} {s : Shared}
theorem Inv.unblock {N : List Str} {sc : Scope} {cl : List (Str × Addr)} {ex : List Addr} {pins' : List (Addr × Obj)} {σ' : St} {s' : Shared} {h' : Heap} (I : Inv X pins σ H s) (J : Inv (cxc X N sc cl s H ex) pins' σ' H' s')
    (hex : ∀ b ∈ ex, FpOk X pins H b) (sb : Heap.SameBut s.heap.objs.size s'.heap h') : Inv X pins σ H' { s' with heap := h' } := by
  have free : H' s.heap.objs.size = none := J.free
  have eq : ∀ b, b ≠ s.heap.objs.size → h'.get? b = s'.heap.get? b := sb.2
  have ne : ∀ b o, s.heap.get? b = some o → b ≠ s.heap.objs.size := fun b o e => Nat.ne_of_lt (Heap.lt_size e)
  have B : Un (frs X.stack) ex H H' s.heap s'.heap := J.base
  refine I.call' (s' := { s' with heap := h' }) (ch := ex) J.os ⟨fun b o q n hb hx => (eq b (ne b o q)).trans (B.keep b o q n hb hx), fun b o q n hb hx => ?_, B.free, fun b o q hx => ?_, B.tups, B.frzs, B.tbls⟩ (fun a o e => ?_) J.bare (fun b hb => ?_)
  · obtain ⟨sl, e⟩ := B.slot b o q n hb hx
    exact ⟨sl, (eq b (ne b o q)).trans e⟩
  · obtain ⟨o', e⟩ := B.there b o q hx
    exact ⟨o', (eq b (ne b o q)).trans e⟩
  · refine (J.hok a o e).stay (fun b u hb q => ?_) (fun _ q => q) fun _ _ q => q
    refine (eq b ?_).trans q
    rcases hb with rfl | hb
    · exact ne_of_none e free
    · exact ne_of_none hb free
  · obtain ⟨f0, f1, f2, f3, f4, f5⟩ := hex b hb
    exact ⟨f3, f1, f4, f5⟩
end
section
variable {X : Cx}
def tLC (fr : List (Option Nat)) (wi : TI) (g : TG) (tc : TT) (te : TE) : TE := fun σ H Q => wi σ H fun J H1 => ∀ p, H1 p = none → tCL J g tc (tEmit p te) (fun _ H2 => Q (.ref p) H2) (frS fr σ) (upd H1 p (.lst []))
theorem lc_entry {N : List Str} {fr : List (Option Nat)} {e tg iter : Expr} {ifs : List Expr} {gs : List Comprehension} {sc : Scope} {ip : Pos} {cl : List (Str × Addr)} {wi : TI} {D : It → Addr → St → Hp → Prop} {pins : List (Addr × Obj)} {σ : St} {H : Hp} {s : Shared} {Q : VK}
    (he : clausesOf e = ⟨tg, iter, ifs, 0⟩ :: gs) (hi : PI X tg iter wi) (S : CScope X N fr sc) (hcl : clos sc.names X.env.cells [] = some cl) (I : Inv X pins σ H s)
    (h : wi σ H fun J H1 => ∀ p, H1 p = none → D J p (frS fr σ) (upd H1 p (.lst [])))
    (loop : ∀ (it p : Addr) (fp : List Addr) (tn : Nat → Heap → Prop) (J : It) (s1 s2 : Shared) (H1 : Hp) (σ1 : St), Turn X.prog X.w X.K tg J fp it tn → Inv (cxc X N sc cl s1 H1 fp) [] σ1 H1 s2 → tn 0 s2.heap → (∀ b ∈ fp, FpOk (cxc X N sc cl s1 H1 fp) [] H1 b) → D J p σ1 H1 →
      codeAny (model X.prog X.w) X.A (.compStart e 0 (.ref it) (.ref p) (compEnvC sc cl s1.heap.objs.size X.env)) (fun r s' => r = .ok .next ∧ ∃ σ' H', Inv (cxc X N sc cl s1 H1 fp) [] σ' H' s' ∧ Q (.ref p) H') s2)
    (hs : ∀ x, foldedSetIterable iter X.env x = pure x) :
    wpAny (model X.prog X.w) X.A (comprehension e sc X.env ip (newList []) false (eval iter X.env)) (EP X pins σ Q) X.xe s := by
  refine wpAny_comprehension_free (use := none) he hs (closureFor_clos hcl) S.kind S.loc ?_
  refine thn (hi pins s σ H _ I h) fun v s1 h1 => thn h1 fun itv s2 ⟨it, fp, tn, J, H2, e2, I2, T, st2, f2, q⟩ => ?_
  subst e2
  refine wpAny_newObj_type ?_
  have hp : H2 s2.heap.objs.size = none := I2.hok.fresh (Nat.le_refl _)
  have I3 : Inv X pins σ (upd H2 s2.heap.objs.size (.lst [])) { s2 with heap := s2.heap.push { cls := .type "list", data := .seq ([] : List Value).toArray }, toks := s2.toks } := I2.lnew (its := []) (ys := []) .nil (Nat.zero_le _)
  have lt2 : ∀ b ∈ fp, b < s2.heap.objs.size := fun b hb => let ⟨o, e, _⟩ := T.obj 0 _ st2 b hb; Heap.lt_size e
  have f3 : ∀ b ∈ fp, FpOk X pins (upd H2 s2.heap.objs.size (.lst [])) b := fun b hb => ⟨by rw [upd_ne (Nat.ne_of_lt (lt2 b hb))]; exact (f2 b hb).1, (f2 b hb).2⟩
  have st3 : tn 0 (s2.heap.push { cls := .type "list", data := .seq ([] : List Value).toArray }) := T.keep _ _ _ st2 fun b _ o e => Heap.get?_push_of_some _ e
  refine wpAny_newFunctionEnv S.nocell (by intro y hy; simp at hy) (fun h₁ hns₁ hsb₁ => ?_) S.kind
  generalize hs3 : ({ s2 with heap := s2.heap.push { cls := .type "list", data := .seq ([] : List Value).toArray } } : Shared) = s3 at hns₁ hsb₁ ⊢
  have I3' : Inv X pins σ (upd H2 s2.heap.objs.size (.lst [])) s3 := by rw [← hs3]; exact I3
  have st3' : tn 0 s3.heap := by rw [← hs3]; exact st3
  have lt3 : ∀ b ∈ fp, b < s3.heap.objs.size := fun b hb => let ⟨o, e, _⟩ := T.obj 0 _ st3' b hb; Heap.lt_size e
  have hk : ∀ b u, s3.heap.get? b = some u → h₁.get? b = some u := fun b u e => hsb₁.extBut b u (Nat.ne_of_lt (Heap.lt_size e)) (Heap.get?_push_of_some _ e)
  have hns : h₁.Ns s3.heap.objs.size (fun _ => none) := by simpa using hns₁
  have B := I3'.block (N := N) (fr := fr) (sc := sc) (cl := cl) (ex := fp) (h1 := h₁) (tk := s3.toks + ([] : List (Str × Value)).length) S hcl (fun b hb => ⟨f3 b hb, lt3 b hb⟩) hns hk
  have stB : tn 0 h₁ := T.keep _ _ _ st3' fun b _ o e => hk b o e
  refine codeAny_mono (loop it s2.heap.objs.size fp tn J s3 _ (upd H2 s2.heap.objs.size (.lst [])) (frS fr σ) T B stB (fun b hb => ?_) (q _ hp)) fun r s' hr => ?_
  · obtain ⟨f0, f1, f2', f3', f4, f5⟩ := f3 b hb
    refine ⟨f0, Nat.ne_of_lt (lt3 b hb), fun z => ?_, .inl hb, fun x c e => f4 x c (clos_lookup hcl e), fun p hp' => absurd (show p ∈ ([] : List (Addr × Obj)) from hp') (by simp)⟩
    rcases List.mem_cons.mp (I3'.stkSub b z) with e | e
    · exact f1 e
    · exact f2' e
  · obtain ⟨rfl, σ', H', J', q'⟩ := hr
    obtain ⟨m, hn, _⟩ := J'.loc
    exact ⟨m, hn, fun h' sb => ⟨.ref s2.heap.objs.size, H', I3'.unblock J' f3 sb, rfl, q'⟩⟩
theorem pe_lc {N : List Str} {fr : List (Option Nat)} {tg iter elt : Expr} {ifs : List Expr} {sc : Scope} {pos : Pos} {cl : List (Str × Addr)} {wi : TI} {g : TG} {tc : TT} {te : TE} (hc : X.calm = true) (hi : PI X tg iter wi) (S : CScope X N fr sc) (hcl : clos sc.names X.env.cells [] = some cl)
    (hb : ∀ s H ex, PG (cxc X N sc cl s H ex) tg g ∧ PIfs (cxc X N sc cl s H ex) ifs tc ∧ PE (cxc X N sc cl s H ex) elt te) (hs : ∀ x, foldedSetIterable iter X.env x = pure x := by intro _; rfl) :
    PE X (.ListComp elt [⟨tg, iter, ifs, 0⟩] sc pos) (tLC fr wi g tc te) := by
  intro pins s σ H Q I h
  rw [eval_ListComp]
  refine lc_entry (D := fun J p σ H => tCL J g tc (tEmit p te) (fun _ H2 => Q (.ref p) H2) σ H) rfl hi S hcl I h (fun it p fp tn J s1 s2 H1 σ1 T B st f d => ?_) hs
  obtain ⟨hg, hifs, helt⟩ := hb s1 H1 fp
  have L := comp_loop (X := cxc X N sc cl s1 H1 fp) (e := .ListComp elt [⟨tg, iter, ifs, 0⟩] sc pos) (d := 0) (acc := .ref p) (D := fun _ H2 => Q (.ref p) H2) (s := s2) hc rfl (compTurn_list elt tg iter ifs sc pos (.ref it) (.ref p) _) rfl rfl rfl T hg hifs (pb_emit helt) B st f d
  exact codeAny_compStart_list L (T.self X.A 0 s2 _ _ st L)
end
end L2
end
section
set_option Elab.async false
set_option linter.all false
set_option maxRecDepth 100000
namespace L2
open PySem PySem.Spec PyProof.Rows
def sq (H : Hp) (a : Addr) : Option (List V) := match H a with
  | some (.lst xs) => some xs
  | some (.tup xs) => some xs
  | some (.frz _ (.lst xs)) => some xs
  | some (.frz _ (.tup xs)) => some xs
  | _ => none
theorem sq_lst {H : Hp} {a : Addr} {xs : List V} (h : H a = some (.lst xs)) : sq H a = some xs := by unfold sq; rw [h]
theorem sq_tup {H : Hp} {a : Addr} {xs : List V} (h : H a = some (.tup xs)) : sq H a = some xs := by unfold sq; rw [h]
theorem sq_updL {H : Hp} {a : Addr} {xs : List V} : sq (upd H a (.lst xs)) a = some xs := sq_lst upd_same
theorem sq_updT {H : Hp} {a : Addr} {xs : List V} : sq (upd H a (.tup xs)) a = some xs := sq_tup upd_same
theorem sq_rd {H : Hp} {a : Addr} {xs : List V} (h : sq H a = some xs) : Rd H a (.lst xs) ∨ Rd H a (.tup xs) := by
  unfold sq at h
  cases e : H a with
  | none => rw [e] at h; cases h
  | some o =>
    rw [e] at h
    cases o with
    | lst ys => cases h; exact .inl (.inl e)
    | tup ys => cases h; exact .inr (.inl e)
    | frz ob u =>
      cases u with
      | lst ys => cases h; exact .inl (.inr ⟨ob, e⟩)
      | tup ys => cases h; exact .inr (.inr ⟨ob, e⟩)
      | _ => cases h
    | _ => cases h
theorem sq_seq {K : PySem.W.Frag} {H : Hp} {a : Addr} {xs : List V} (h : sq H a = some xs) : SqL K H a xs ∨ SqT K H a xs := by
  rcases sq_rd h with h | h
  · exact .inl (.inl h)
  · exact .inr (.inl h)
section
variable {X : Cx}
def rIx0 : R2 := fun x y H Q => ∃ p xs i v, x = .ref p ∧ y = .int i ∧ sq H p = some xs ∧ atI xs i = some v ∧ Q v H
theorem ix0 : IxR X rIx0 := by
  intro value slice pins s σ H x y v u Q I rx ry h hs
  obtain ⟨p, xs, i, z, e1, e2, hq, ha, q⟩ := h
  rcases sq_seq (K := X.K) hq with k | k
  · exact ix_list value slice pins s σ H x y v u Q I rx ry ⟨p, xs, i, z, e1, e2, k, ha, q⟩ hs
  · exact ix_tup value slice pins s σ H x y v u Q I rx ry ⟨p, xs, i, z, e1, e2, k, ha, q⟩ hs
theorem len0 : CallR X (.builtin "len") (fun xs H Q => ∃ p ys, xs = [.ref p] ∧ sq H p = some ys ∧ Q (.int ys.length) H) := by
  intro pins s σ H xs us Q I r h
  obtain ⟨p, ys, e, hq, q⟩ := h
  exact call_len_seq pins s σ H xs us Q I r ⟨p, ys, e, sq_seq hq, q⟩
theorem tupL0 : CallR X (.type "tuple") (fun xs H Q => ∃ p ys, xs = [.ref p] ∧ H p = some (.lst ys) ∧ ∀ l, H l = none → Q (.ref l) (upd H l (.tup ys))) := by
  intro pins s σ H xs us Q I r h
  obtain ⟨p, ys, e, hq, q⟩ := h
  exact call_tuple_of pins s σ H xs us Q I r ⟨p, ys, e, .inl ⟨SqL.of hq, q⟩⟩
def rIn0 (neg : Bool) : R2 := fun x y H Q => ∃ p xs, y = .ref p ∧ sq H p = some xs ∧ flatV x = true ∧ xs.all flatV = true ∧ Q (.bl (if neg then !inV x xs else inV x xs)) H
def gTup0 (n : Nat) (t : TGs) : TG := fun v σ H Q => ∃ a xs, v = .ref a ∧ H a = some (.tup xs) ∧ xs.length = n ∧ t xs σ H Q
theorem pg_tup0 {es : List Expr} {k : Nat} {t : TGs} {n : Nat} {pos : Pos} (hc : X.calm = true) (h : PGs X es t)
    (hn : (assignEach es X.env).length = n := by rfl) (hst : (assignEach es X.env).findIdx? (·.1) = none := by rfl) : PG X (.Tuple es k pos) (gTup0 n t) := by
  intro pins s σ H v u Q I r hw
  obtain ⟨a, xs, e1, hq, hl, hw⟩ := hw
  exact pg_tup hc h hn hst pins s σ H v u Q I r ⟨a, xs, e1, SqT.of hq, hl, hw⟩
theorem PG.mono {tg : Expr} {g g' : TG} (h : PG X tg g) (m : ∀ v σ H Q, g' v σ H Q → g v σ H Q) : PG X tg g' := fun pins s σ H v u Q I r q => h pins s σ H v u Q I r (m _ _ _ _ q)
def ItS (f : Hp → Prop) (xs : List V) : It := ⟨fun i H => f H ∧ i < xs.length, fun i H x H' => H' = H ∧ xs[i]? = some x, fun i H => f H ∧ xs.length ≤ i⟩
theorem Turn.weak {P : Program} {w : World} {K : PySem.W.Frag} {tg : Expr} {J J' : It} {fp : List Addr} {it : Addr} {tn : Nat → Heap → Prop} (T : Turn P w K tg J fp it tn) (hg : ∀ i H, J'.go i H → J.go i H) (hs : ∀ i H, J'.stop i H → J.stop i H)
    (hy : ∀ i H x H', J'.go i H → J.yld i H x H' → J'.yld i H x H') : Turn P w K tg J' fp it tn where
  mem := T.mem
  obj := T.obj
  keep := T.keep
  item := fun X h1 h2 h3 hc i pins s σ H E I f st go => thn (T.item X h1 h2 h3 hc i pins s σ H E I f st (hg i H go)) fun r s1 ⟨u, e, q⟩ => ⟨u, e, thn q fun _ s2 ⟨x, H', I2, r2, y, t, n⟩ => ⟨x, H', I2, r2, hy i H x H' go y, t, n⟩⟩
  done := fun X h1 h2 h3 hc i pins s σ H E I f st go => T.done X h1 h2 h3 hc i pins s σ H E I f st (hs i H go)
  self := T.self
theorem PI.weak {tg iter : Expr} {wi wi' : TI} (h : PI X tg iter wi) (m : ∀ σ H R, wi' σ H R → wi σ H fun J H1 => ∃ J', R J' H1 ∧ (∀ i H, J'.go i H → J.go i H) ∧ (∀ i H, J'.stop i H → J.stop i H) ∧ (∀ i H x H', J'.go i H → J.yld i H x H' → J'.yld i H x H')) : PI X tg iter wi' := by
  intro pins s σ H R I q
  refine thn (h pins s σ H _ I (m σ H R q)) fun v s1 h1 => thn h1 fun itv s2 ⟨it, fp, tn, J, H', e, I2, T, st, f, J', r, a, b, c⟩ => ?_
  exact ⟨it, fp, tn, J', H', e, I2, T.weak a b c, st, f, r⟩
def iT0 (tl : TE) : TI := fun σ H R => tl σ H fun x H1 => ∃ a xs, x = .ref a ∧ H1 a = some (.tup xs) ∧ R (ItS (fun H => H a = some (.tup xs)) xs) H1
def iL0 (tl : TE) : TI := fun σ H R => tl σ H fun x H1 => ∃ a xs, x = .ref a ∧ H1 a = some (.lst xs) ∧ R (ItS (fun H => H a = some (.lst xs)) xs) H1
theorem getlen {xs : List V} {i : Nat} (h : i < xs.length) : ∃ x, xs[i]? = some x := ⟨xs[i], by simp [h]⟩
theorem pi_t0 {tg l : Expr} {tl : TE} (hl : PE X l tl) : PI X tg l (iT0 tl) := by
  intro pins s σ H R I h
  refine thn (hl pins s σ H _ I h) fun v s1 ⟨x, H1, I1, r1, q1⟩ => ?_
  obtain ⟨a, xs, e, hq, q⟩ := q1
  subst e
  cases r1
  obtain ⟨its, rv, p, hz⟩ := I1.tuple (SqT.of hq)
  refine wpAny_pyIter_tuple (show s1.heap.IsTuple a its.toArray from p) ?_
  refine ⟨s1.heap.objs.size, [s1.heap.objs.size], _, _, H1, rfl, I1.kept (t' := s1.toks) fun b o e => Heap.get?_push_of_some _ e, (turn_tuple a _).weak (J' := ItS (fun H => H a = some (.tup xs)) xs) (fun i H ⟨k, hi⟩ => ?_) (fun i H ⟨k, hi⟩ => ⟨xs, SqT.of k, hi⟩) (fun i H x H' ⟨k, hi⟩ ⟨y1, y2⟩ => ⟨y1, y2 xs (SqT.of k)⟩), ⟨_, Heap.get?_push_size _ rfl, rfl, rfl⟩, fun b hb => ?_, q⟩
  · obtain ⟨x, hx⟩ := getlen hi
    exact ⟨xs, x, SqT.of k, hx⟩
  · have e : b = s1.heap.objs.size := by simpa using hb
    subst e
    exact I1.fpOk (Nat.le_refl _) (I1.hok.fresh (Nat.le_refl _))
theorem pi_l0 {tg l : Expr} {tl : TE} (hl : PE X l tl) : PI X tg l (iL0 tl) := by
  intro pins s σ H R I h
  refine thn (hl pins s σ H _ I h) fun v s1 ⟨x, H1, I1, r1, q1⟩ => ?_
  obtain ⟨a, xs, e, hq, q⟩ := q1
  subst e
  cases r1
  obtain ⟨its, rv, p, hz⟩ := I1.list (SqL.of hq)
  refine wpAny_pyIter_list p.isList ?_
  refine ⟨s1.heap.objs.size, [s1.heap.objs.size], _, _, H1, rfl, I1.kept (t' := s1.toks) fun b o e => Heap.get?_push_of_some _ e, (turn_list a _).weak (J' := ItS (fun H => H a = some (.lst xs)) xs) (fun i H ⟨k, hi⟩ => ?_) (fun i H ⟨k, hi⟩ => ⟨xs, SqL.of k, hi⟩) (fun i H x H' ⟨k, hi⟩ ⟨y1, y2⟩ => ⟨y1, y2 xs (SqL.of k)⟩), ⟨_, Heap.get?_push_size _ rfl, rfl, rfl⟩, fun b hb => ?_, q⟩
  · obtain ⟨x, hx⟩ := getlen hi
    exact ⟨xs, x, SqL.of k, hx⟩
  · have e : b = s1.heap.objs.size := by simpa using hb
    subst e
    exact I1.fpOk (Nat.le_refl _) (I1.hok.fresh (Nat.le_refl _))
def Cal (P : Program) (w : World) (K : PySem.W.Frag) (mg : Str → Option Value) (base : Heap) (x : Str) (ps : List Str) (k : Nat) (sp : Sp) : Prop :=
  ∃ f fd, FnOk P w K mg base CX0 k f fd ps sp ∧ mg x = some (.ref f) ∧ PySem.W.keepIn K (.ref f) = true ∧ Binds K fd ps []
theorem Cal.imp {P : Program} {w : World} {K : PySem.W.Frag} {mg : Str → Option Value} {base : Heap} {x : Str} {ps : List Str} {k : Nat} {sp sp' : Sp} (c : Cal P w K mg base x ps k sp) (h : ∀ vs H Q E, sp' vs H Q E → sp vs H Q E) : Cal P w K mg base x ps k sp' :=
  let ⟨f, fd, F, r⟩ := c; ⟨f, fd, F.imp h, r⟩
theorem Cal.mono {P : Program} {w : World} {K : PySem.W.Frag} {mg : Str → Option Value} {base : Heap} {x : Str} {ps : List Str} {j k : Nat} {sp : Sp} (c : Cal P w K mg base x ps j sp) (h : j ≤ k) : Cal P w K mg base x ps k sp :=
  let ⟨f, fd, F, r⟩ := c; ⟨f, fd, F.mono h, r⟩
def tCal (sp : Sp) (t : TA) : TE := fun σ H Q => t σ H fun vs H1 => sp vs H1 Q E0
theorem pe_cal {k j : Nat} {x : Str} {ps : List Str} {sp : Sp} {t : TA} {e : Expr} {es : List Expr} {p pos : Pos} (c : Cal X.prog X.w X.K X.mg X.base x ps k sp) (hr : Room j X.A) (ha : PA X (e :: es) t) (hg : Gl X x := by rfl) (hk : k ≤ j := by decide)
    (hdb : (x == ("__debug__" : Str)) = false := by decide) (he : starEach (e :: es) X.env = (false, eval e X.env) :: starEach es X.env := by rfl) (hpl : (backTo pos (starEach es X.env)).any (·.1) = false := by rfl) :
    PE X (.Call (.Name x p) (e :: es) [] pos) (tCal sp t) := by
  obtain ⟨f, fd, F, hm, kp, hb⟩ := c
  intro pins s σ H Q I h
  refine pe_call (E := E0) (dvs := []) F (hr.mono hk) hg hm kp hb .nil pass0 ha hdb he hpl pins s σ H Q I ?_
  show t σ H fun vs H1 => sp (vs ++ []) H1 Q E0
  have h' : t σ H fun vs H1 => sp vs H1 Q E0 := h
  simpa using h'
theorem cal_of {P : Program} {w : World} {K : PySem.W.Frag} {mg : Str → Option Value} {base : Heap} {x : Str} {st : Stmt} {f : Addr} {fd : FuncData} {N ps : List Str} {k : Nat} {sp : Sp} (F : Fun K x x st f fd) (hm : mg x = some (.ref f)) (hb : Binds K fd ps [])
    (S : FnScope N ps (defScope st)) (len : ∀ vs H Q E, sp vs H Q E → vs.length = ps.length)
    (hbody : ∀ (cdv : Value) (A : Around) (outer : List Env) (s : Shared) (H : Hp) (vs : List V) (Q : VK) (E : XK), Room k (A.deeper (envOfC x (defScope st) s.heap.objs.size f cdv)) → sp vs H Q E →
      ∃ t, PSs (cxOf CX0 P w K mg base N x (defScope st) f cdv A outer s H E).nox (defBody st) t ∧ t { nx := fun _ H' => Q .non H', rt := Q } (start N vs) H) : Cal P w K mg base x ps (k + 1) sp :=
  ⟨f, fd, F.ok S len hbody, hm, F.kp, hb⟩
def tBits (to : TE) : TE := fun σ H Q => to σ H fun x H1 => ∃ i, x = .int i ∧ Q (.int (Builtin.Int.intBits i : Nat)) H1
section
variable {pins : List (Addr × Obj)} {σ : St} {H : Hp} {s : Shared}
theorem Inv.walk {p : Addr} {xs : List V} {E : Value → Shared → Prop} {R : Value → Shared → Prop} (I : Inv X pins σ H s) (hc : X.calm = true) (hq : sq H p = some xs)
    (h : ∀ (it : Addr) (its : List Value) (s2 : Shared) (St : Nat → Heap → Prop) (fp : List Addr), Vals xs its → Walks X.prog X.w X.A.in1 it fp [it] its.length (fun i v => its[i]? = some v) St → St 0 s2.heap → (∀ b ∈ fp, b < s2.heap.objs.size) → s2.heap.objs.size = it + 1 →
      (∀ h' tk, (∀ b o, b ∉ [it] → s2.heap.get? b = some o → h'.get? b = some o) → Inv X pins σ H { s2 with heap := h', toks := tk }) → R (.ref it) s2) :
    wpAny (model X.prog X.w) X.A.in1 (pyIter (.ref p)) R E s := by
  have hd : X.A.in1.handled = none := I.ok.hd hc
  have key : ∀ (ob : Obj), Inv X pins σ H { s with heap := s.heap.push ob } ∧ ∀ h' tk, (∀ b o, b ∉ [s.heap.objs.size] → (s.heap.push ob).get? b = some o → h'.get? b = some o) → Inv X pins σ H { s with heap := h', toks := tk } := fun ob => by
    refine ⟨I.kept (t' := s.toks) fun b o e => Heap.get?_push_of_some _ e, fun h' tk k => I.kept fun b o e => k b o (fun z => ?_) (Heap.get?_push_of_some _ e)⟩
    have e' : b = s.heap.objs.size := by simpa using z
    exact Nat.lt_irrefl _ (e' ▸ Heap.lt_size e)
  rcases sq_seq (K := X.K) hq with k | k
  · obtain ⟨its, rv, pl, hz⟩ := I.list k
    have ne : p ≠ s.heap.objs.size := Nat.ne_of_lt (let ⟨_, e, _⟩ := pl.isList; Heap.lt_size e)
    refine wpAny_pyIter_list pl.isList ?_
    refine h s.heap.objs.size its _ (fun i h => h.IsListIter s.heap.objs.size p i ∧ h.IsList p its.toArray) [s.heap.objs.size, p] rv (by simpa using Walks.list hd s.heap.objs.size p ne its.toArray) ⟨⟨_, Heap.get?_push_size _ rfl, rfl, rfl⟩, pl.isList.at fun o e => Heap.get?_push_of_some _ e⟩ (fun b hb => ?_) (Heap.size_push ..) (key _).2
    rw [Heap.size_push]
    rcases List.mem_cons.mp hb with rfl | hb
    · exact Nat.lt_succ_self _
    · have e : b = p := by simpa using hb
      subst e
      exact Nat.lt_succ_of_lt (let ⟨_, e, _⟩ := pl.isList; Heap.lt_size e)
  · obtain ⟨its, rv, pl, hz⟩ := I.tuple k
    have lt : p < s.heap.objs.size := pl.lt
    have ne : p ≠ s.heap.objs.size := Nat.ne_of_lt lt
    refine wpAny_pyIter_tuple (show s.heap.IsTuple p its.toArray from pl) ?_
    refine h s.heap.objs.size its _ (fun i h => h.IsTupleIter s.heap.objs.size p i ∧ h.IsTuple p its.toArray) [s.heap.objs.size, p] rv (by simpa using Walks.tuple hd s.heap.objs.size p ne its.toArray) ⟨⟨_, Heap.get?_push_size _ rfl, rfl, rfl⟩, (show s.heap.IsTuple p its.toArray from pl).at fun o e => Heap.get?_push_of_some _ e⟩ (fun b hb => ?_) (Heap.size_push ..) (key _).2
    rw [Heap.size_push]
    rcases List.mem_cons.mp hb with rfl | hb
    · exact Nat.lt_succ_self _
    · have e : b = p := by simpa using hb
      subst e
      exact Nat.lt_succ_of_lt lt
end
theorem preSum_eq (ns : List Int) : ∀ n, n ≤ ns.length → preSum (fun i => ns.getD i 0) n = (ns.take n).sum
  | 0, _ => rfl
  | n + 1, h => by
    show preSum (fun i => ns.getD i 0) n + ns.getD n 0 = _
    rw [preSum_eq ns n (by omega), List.take_add_one, List.getElem?_eq_getElem (by omega), List.sum_append]
    simp [List.getD_eq_getElem?_getD, List.getElem?_eq_getElem (show n < ns.length by omega)]
theorem vals_int_get {ns : List Int} {its : List Value} (r : Vals (ns.map V.int) its) {i : Nat} {v : Value} (h : its[i]? = some v) : ∃ t, v = .int (ns.getD i 0) t := by
  have hl := r.length
  rw [List.length_map] at hl
  have hi : i < ns.length := by rw [hl]; exact (List.getElem?_eq_some_iff.mp h).1
  obtain ⟨u, hu, t, rfl⟩ := r.get (i := i) (x := V.int ns[i]) (by simp [hi])
  rw [h] at hu
  cases hu
  exact ⟨t, by simp [List.getD_eq_getElem?_getD, hi]⟩
def sumFits (ns : List Int) : Prop := (∀ n ∈ ns, -(2 ^ 62) ≤ n ∧ n < 2 ^ 62) ∧ ∀ j, j ≤ ns.length → InLong (ns.take j).sum
theorem sum0 (hc : X.calm = true) : CallR X (.builtin "sum") (fun xs H Q => ∃ (p : Addr) (ns : List Int), xs = [.ref p] ∧ sq H p = some (ns.map V.int) ∧ sumFits ns ∧ Q (.int ns.sum) H) := by
  intro pins s σ H xs us Q I r h
  obtain ⟨p, ns, rfl, hq, fit, q⟩ := h
  obtain ⟨u, rfl, ru⟩ := r.one
  cases ru
  refine call_sum_walk (I.walk hc hq fun it its s2 St fp rv W st hfp hsz J => ?_)
  have hl := rv.length
  rw [List.length_map] at hl
  refine ⟨it, fp, [it], its.length, _, St, fun i => ns.getD i 0, rfl, W, st, hfp, fun i v hv => vals_int_get rv hv, fun j hj => ⟨?_, ?_⟩, fun h' tk t' k => ⟨.int ns.sum, H, J h' tk k, ?_, q⟩⟩
  · have hj' : j < ns.length := by omega
    have e : ns.getD j 0 = ns[j] := by simp [List.getD_eq_getElem?_getD, hj']
    show InLong (ns.getD j 0)
    rw [e]
    obtain ⟨a, b⟩ := fit.1 ns[j] (List.getElem_mem hj')
    exact ⟨by omega, by omega⟩
  · rw [preSum_eq ns (j + 1) (by omega)]
    exact fit.2 (j + 1) (by omega)
  · rw [← hl, preSum_eq ns _ (Nat.le_refl _), List.take_length]
    exact ⟨_, rfl⟩
theorem vals_bl_get {bs : List Bool} {its : List Value} (r : Vals (bs.map V.bl) its) {i : Nat} {v : Value} (h : its[i]? = some v) : v = .bool (bs.getD i true) := by
  have hl := r.length
  rw [List.length_map] at hl
  have hi : i < bs.length := by rw [hl]; exact (List.getElem?_eq_some_iff.mp h).1
  obtain ⟨u, hu, e⟩ := r.get (i := i) (x := V.bl bs[i]) (by simp [hi])
  rw [h] at hu
  cases hu
  rw [show v = Value.bool bs[i] from e]
  simp [List.getD_eq_getElem?_getD, hi]
theorem truth_bl {bs : List Bool} {its : List Value} (r : Vals (bs.map V.bl) its) (A : Around) : TruthOf X.prog X.w A (fun i v => its[i]? = some v) (fun i => bs.getD i true) := fun i v s Q E h q => by
  rw [vals_bl_get r h]
  exact wpAny_truthy_bool q
theorem range_all (bs : List Bool) : (List.range bs.length).all (fun i => bs.getD i true) = bs.all id := by
  rw [Bool.eq_iff_iff, List.all_eq_true, List.all_eq_true]
  constructor
  · intro h b hb
    obtain ⟨i, hi, rfl⟩ := List.mem_iff_getElem.mp hb
    have := h i (List.mem_range.mpr hi)
    simpa [List.getD_eq_getElem?_getD, hi] using this
  · intro h i hi
    have hi' := List.mem_range.mp hi
    have := h bs[i] (List.getElem_mem hi')
    simpa [List.getD_eq_getElem?_getD, hi'] using this
theorem all0 (hc : X.calm = true) : CallR X (.builtin "all") (fun xs H Q => ∃ (p : Addr) (bs : List Bool), xs = [.ref p] ∧ sq H p = some (bs.map V.bl) ∧ Q (.bl (bs.all id)) H) := by
  intro pins s σ H xs us Q I r h
  obtain ⟨p, bs, rfl, hq, q⟩ := h
  obtain ⟨u, rfl, ru⟩ := r.one
  cases ru
  refine call_all_walk (I.walk hc hq fun it its s2 St fp rv W st hfp hsz J => ?_)
  have hl := rv.length
  rw [List.length_map] at hl
  refine ⟨it, fp, [it], its.length, _, St, fun i => bs.getD i true, rfl, W, st, truth_bl rv _, fun h' tk k => ⟨.bl (bs.all id), H, J h' tk k, ?_, q⟩⟩
  rw [← hl, range_all]
  exact rfl
def tyN (H : Hp) : V → Option String
  | .non => some "NoneType"
  | .bl _ => some "bool"
  | .int _ => some "int"
  | .str _ => some "str"
  | .ref a => match H a with
    | some (.lst _) => some "list"
    | some (.tup _) => some "tuple"
    | some (.dK _) => some "dict"
    | _ => none
  | _ => none
def subN (t T : String) : Bool := t == T || (t == "bool" && T == "int")
theorem tyN_of {K : PySem.W.Frag} {H : Hp} {x : V} {t : String} (h : tyN H x = some t) : TyOf K H x (.type t) ∧ (t = "NoneType" ∨ t = "bool" ∨ t = "int" ∨ t = "str" ∨ t = "list" ∨ t = "tuple" ∨ t = "dict") := by
  cases x with
  | non => cases h; exact ⟨.non, by simp⟩
  | bl b => cases h; exact ⟨.bl b, by simp⟩
  | int i => cases h; exact ⟨.int i, by simp⟩
  | str i => cases h; exact ⟨.str i, by simp⟩
  | ref a =>
    cases e : H a with
    | none => simp [tyN, e] at h
    | some o =>
      cases o with
      | lst xs => simp [tyN, e] at h; subst h; exact ⟨.lst e, by simp⟩
      | tup xs => simp [tyN, e] at h; subst h; exact ⟨.tup e, by simp⟩
      | dK xs => simp [tyN, e] at h; subst h; exact ⟨.dK e, by simp⟩
      | _ => simp [tyN, e] at h
  | _ => cases h
theorem kit_of {K : PySem.W.Frag} {t T : String} (h : t = "NoneType" ∨ t = "bool" ∨ t = "int" ∨ t = "str" ∨ t = "list" ∨ t = "tuple" ∨ t = "dict") (hT : T = "int" ∨ T = "bool" ∨ T = "tuple" ∨ T = "str" ∨ T = "list") : PySem.W.kitOne K (.type t) (.type T) = some (subN t T) := by
  rcases h with rfl | rfl | rfl | rfl | rfl | rfl | rfl <;> rcases hT with rfl | rfl | rfl | rfl | rfl <;> rfl
theorem isi0 : CallR X (.builtin "isinstance") (fun xs H Q => ∃ x T t, xs = [x, .ty T] ∧ tyN H x = some t ∧ (T = "int" ∨ T = "bool" ∨ T = "tuple" ∨ T = "str" ∨ T = "list") ∧ Q (.bl (subN t T)) H) := by
  intro pins s σ H xs us Q I r h
  obtain ⟨x, T, t, rfl, ht, hT, q⟩ := h
  obtain ⟨u, v, rfl, ru, rv⟩ := r.two
  cases (show v = Value.type T from rv)
  obtain ⟨ty, ht'⟩ := tyN_of (K := X.K) ht
  exact isinst_ok I ru ty (kit_of ht' hT) fun tk => ⟨.bl (subN t T), H, I.tok tk, rfl, q⟩
end
end L2
end
section
set_option Elab.async false
set_option linter.all false
set_option maxRecDepth 100000
namespace L2
open PySem PySem.Spec PyProof.Rows
theorem bt_len : bootBuiltins "len" = some (.builtin "len") := by decide +kernel
theorem bt_sum : bootBuiltins "sum" = some (.builtin "sum") := by decide +kernel
theorem bt_all : bootBuiltins "all" = some (.builtin "all") := by decide +kernel
theorem bt_isinstance : bootBuiltins "isinstance" = some (.builtin "isinstance") := by decide +kernel
theorem bt_abs : bootBuiltins "abs" = some (.builtin "abs") := by decide +kernel
theorem bt_min : bootBuiltins "min" = some (.builtin "min") := by decide +kernel
theorem bt_max : bootBuiltins "max" = some (.builtin "max") := by decide +kernel
theorem bt_tuple : bootBuiltins "tuple" = some (.type "tuple") := by decide +kernel
theorem bt_list : bootBuiltins "list" = some (.type "list") := by decide +kernel
theorem bt_int : bootBuiltins "int" = some (.type "int") := by decide +kernel
theorem bt_bool : bootBuiltins "bool" = some (.type "bool") := by decide +kernel
theorem for_seq {f : Hp → Prop} {xs : List V} {g : TG} {tb : TS} {D : Ends} {σ : St} {H : Hp} (Pv : Nat → St → Hp → Prop) (h0 : Pv 0 σ H) (hl : ∀ i σ H, i ≤ xs.length → Pv i σ H → f H)
    (hs : ∀ i x σ H, xs[i]? = some x → Pv i σ H → g x σ H fun σ2 H2 => tb { D with nx := Pv (i + 1), ct := Pv (i + 1), bk := D.nx } σ2 H2) (hd : ∀ σ H, Pv xs.length σ H → D.nx σ H) :
    ∃ W : Nat → Nat → St → Hp → Prop, (∃ m, W 0 m σ H) ∧ ∀ i m σ H, W i m σ H →
      ((ItS f xs).stop i H ∧ D.nx σ H) ∨ ((ItS f xs).go i H ∧ ∃ N : St → Hp → Prop, (∀ σ' H', N σ' H' → ∃ m', m' < m ∧ W (i + 1) m' σ' H') ∧ ∀ x H', (ItS f xs).yld i H x H' → g x σ H' fun σ2 H2 => tb { D with nx := N, ct := N, bk := D.nx } σ2 H2) := by
  refine ⟨fun i m σ H => m = xs.length - i ∧ i ≤ xs.length ∧ Pv i σ H, ⟨xs.length, by simp, Nat.zero_le _, h0⟩, ?_⟩
  rintro i m σ H ⟨rfl, hi, p⟩
  have q := hl i σ H hi p
  by_cases hlt : i < xs.length
  · refine .inr ⟨⟨q, hlt⟩, Pv (i + 1), fun σ' H' p' => ⟨xs.length - (i + 1), by omega, rfl, hlt, p'⟩, fun x H' y => ?_⟩
    obtain ⟨e, y⟩ := y
    subst e
    exact hs i x σ _ y p
  · have e : i = xs.length := by omega
    subst e
    exact .inl ⟨⟨q, Nat.le_refl _⟩, hd σ H p⟩
theorem cl_seq {f : Hp → Prop} {xs : List V} {g : TG} {tc : TT} {tb : TB} {D : St → Hp → Prop} {σ : St} {H : Hp} (Pv : Nat → St → Hp → Prop) (h0 : Pv 0 σ H) (hl : ∀ i σ H, i ≤ xs.length → Pv i σ H → f H)
    (hs : ∀ i x σ H, xs[i]? = some x → Pv i σ H → g x σ H fun σ2 H2 => tc σ2 H2 fun b H3 => if b = true then tb σ2 H3 (Pv (i + 1)) else Pv (i + 1) σ2 H3) (hd : ∀ σ H, Pv xs.length σ H → D σ H) : tCL (ItS f xs) g tc tb D σ H := by
  refine ⟨fun i m σ H => m = xs.length - i ∧ i ≤ xs.length ∧ Pv i σ H, ⟨xs.length, by simp, Nat.zero_le _, h0⟩, ?_⟩
  rintro i m σ H ⟨rfl, hi, p⟩
  have q := hl i σ H hi p
  by_cases hlt : i < xs.length
  · refine .inr ⟨⟨q, hlt⟩, Pv (i + 1), fun σ' H' p' => ⟨xs.length - (i + 1), by omega, rfl, hlt, p'⟩, fun x H' y => ?_⟩
    obtain ⟨e, y⟩ := y
    subst e
    exact hs i x σ _ y p
  · have e : i = xs.length := by omega
    subst e
    exact .inl ⟨⟨q, Nat.le_refl _⟩, hd σ H p⟩
theorem cl_range {lo : Int} {n : Nat} {g : TG} {tc : TT} {tb : TB} {D : St → Hp → Prop} {σ : St} {H : Hp} (Pv : Nat → St → Hp → Prop) (h0 : Pv 0 σ H)
    (hs : ∀ i σ H, i < n → Pv i σ H → g (.int (lo + i)) σ H fun σ2 H2 => tc σ2 H2 fun b H3 => if b = true then tb σ2 H3 (Pv (i + 1)) else Pv (i + 1) σ2 H3) (hd : ∀ σ H, Pv n σ H → D σ H) : tCL (Itr lo n) g tc tb D σ H := by
  refine ⟨fun i m σ H => m = n - i ∧ i ≤ n ∧ Pv i σ H, ⟨n, by simp, Nat.zero_le _, h0⟩, ?_⟩
  rintro i m σ H ⟨rfl, hi, p⟩
  by_cases hlt : i < n
  · refine .inr ⟨hlt, Pv (i + 1), fun σ' H' p' => ⟨n - (i + 1), by omega, rfl, hlt, p'⟩, fun x H' y => ?_⟩
    obtain ⟨e, y⟩ := y
    subst e y
    exact hs i σ _ hlt p
  · have e : i = n := by omega
    subst e
    exact .inl ⟨Nat.le_refl _, hd σ H p⟩
def Box (H : Hp) (p : Addr) : Prop := ∃ g m c : Int, H p = some (.lst [.int g, .int m, .int c])
def But (p : Addr) (H H' : Hp) : Prop := ∀ b, b ≠ p → H' b = H b
theorem But.refl {p : Addr} {H : Hp} : But p H H := fun _ _ => rfl
theorem But.trans {p : Addr} {H H1 H2 : Hp} (a : But p H H1) (b : But p H1 H2) : But p H H2 := fun c h => (b c h).trans (a c h)
theorem But.upd {p : Addr} {H : Hp} {o : HO} : But p H (upd H p o) := fun _ h => upd_ne h
theorem But.sq {p a : Addr} {H H' : Hp} (h : But p H H') (n : a ≠ p) : sq H' a = sq H a := by unfold L2.sq; rw [h a n]
def spTake : Sp := fun vs H Q _ => ∃ (p : Addr) (many : Int), vs = [.ref p, .int many] ∧ Box H p ∧ 0 < many ∧ many < 1073741824 ∧ ∀ (r : Int) (H' : Hp), 0 ≤ r → r < many → Box H' p → But p H H' → Q (.int r) H'
def Scr (K : PySem.W.Frag) (a : Addr) (ns : List Int) (H : Hp) : Prop := SqL K H a (ns.map V.int)
def spBox (K : PySem.W.Frag) : Sp := fun vs H Q _ => ∃ (a : Addr) (k : Nat) (ns : List Int), vs = [.ref a, .int (k : Int)] ∧ Scr K a ns H ∧ k ≤ 100 ∧ ∀ (p : Addr) (H' : Hp), H p = none → Box H' p → But p H H' → Q (.ref p) H'
theorem same_upd {H : Hp} {p : Addr} {o : HO} (n : H p = none) : Same H (upd H p o) := fun b u e => by rw [upd_ne (ne_of_none e n)]; exact e
section
variable {X : Cx}
def tTupA (t : TA) : TE := fun σ H Q => t σ H fun xs H1 => xs.length ≤ sizeLine ∧ ∀ (p : Addr) (H2 : Hp), H1 p = none → Same H1 H2 → H2 p = some (.tup xs) → Q (.ref p) H2
theorem pe_tupA {es : List Expr} {t : TA} {x1} {pos : Pos} (h : PA X es t) : PE X (.Tuple es x1 pos) (tTupA t) := by
  intro pins s σ H Q I hq
  refine Tuple_ (thn (h pos pins s σ H _ I hq) fun us s1 ⟨xs, H1, I1, r, z, q⟩ => ?_)
  have hf : H1 s1.heap.objs.size = none := I1.hok.fresh (Nat.le_refl _)
  refine wpAny_newObj_type ?_ (by show us.toArray.size ≤ sizeLine; rw [List.size_toArray, ← r.length]; exact z)
  refine ⟨.ref s1.heap.objs.size, upd H1 s1.heap.objs.size (.tup xs), I1.laid (t' := s1.toks) (fun b u e => Heap.get?_push_of_some _ e) (Nat.le_refl _) ?_, rfl, q _ _ hf (same_upd hf) upd_same⟩
  exact ⟨z, us, r, IsTup.new s1.heap _⟩
theorem tupA0 : CallR X (.type "tuple") (fun xs H Q => ∃ p ys, xs = [.ref p] ∧ H p = some (.lst ys) ∧ ∀ (l : Addr) (H2 : Hp), H l = none → Same H H2 → H2 l = some (.tup ys) → Q (.ref l) H2) := by
  intro pins s σ H xs us Q I r h
  obtain ⟨p, ys, e, hq, q⟩ := h
  exact tupL0 pins s σ H xs us Q I r ⟨p, ys, e, hq, fun l n => q l _ n (same_upd n) upd_same⟩
theorem a_tTupA {t : TA} {σ : St} {H : Hp} {Q : VK} : tTupA t σ H Q = t σ H fun xs H1 => xs.length ≤ sizeLine ∧ ∀ (p : Addr) (H2 : Hp), H1 p = none → Same H1 H2 → H2 p = some (.tup xs) → Q (.ref p) H2 := rfl
end
section
variable {D : Ends} {σ : St} {H : Hp} {Q : VK} {QB : Bool → Hp → Prop} {QA : List V → Hp → Prop} {QG : St → Hp → Prop} {R : It → Hp → Prop}
theorem a_tSeq {t u : TS} : tSeq t u D σ H = t { D with nx := u D } σ H := rfl
theorem a_tRet {te : TE} : tRet te D σ H = te σ H D.rt := rfl
theorem a_tRetN : tRetN D σ H = D.rt .non H := rfl
theorem a_tNext : tNext D σ H = D.nx σ H := rfl
theorem a_tDrop {te : TE} : tDrop te D σ H = te σ H fun _ H1 => D.nx σ H1 := rfl
theorem a_tAsg {te : TE} {g : TG} : tAsg te g D σ H = te σ H fun x H1 => g x σ H1 D.nx := rfl
theorem a_tIfS {c : TT} {t u : TS} : tIfS c t u D σ H = c σ H fun b H1 => if b = true then t D σ H1 else u D σ H1 := rfl
theorem a_tPar {i j : Nat} {ta : TA} : tPar i j ta D σ H = ta σ H fun vs H1 => ∃ v w, vs = [v, w] ∧ D.nx ((σ.set i (some v)).set j (some w)) H1 := rfl
theorem a_gName {i : Nat} {v : V} : gName i v σ H QG = QG (σ.set i (some v)) H := rfl
theorem a_gNil {vs : List V} : gNil vs σ H QG = (vs = [] ∧ QG σ H) := rfl
theorem a_gCons {t : TG} {u : TGs} {vs : List V} : gCons t u vs σ H QG = ∃ v r, vs = v :: r ∧ t v σ H fun σ' H' => u r σ' H' QG := rfl
theorem a_gTup0 {n : Nat} {t : TGs} {v : V} : gTup0 n t v σ H QG = ∃ a xs, v = .ref a ∧ H a = some (.tup xs) ∧ xs.length = n ∧ t xs σ H QG := rfl
theorem a_gSub {to ti : TE} {t : TSet} {v : V} : gSub to ti t v σ H QG = to σ H fun o H1 => ti σ H1 fun i H2 => t o i v H2 fun H3 => QG σ H3 := rfl
theorem a_rSetL {o i v : V} {q : Hp → Prop} : rSetL o i v H q = ∃ p xs k j, o = .ref p ∧ i = .int k ∧ H p = some (.lst xs) ∧ ixN xs.length k = some j ∧ q (upd H p (.lst (xs.set j v))) := rfl
theorem a_tAnd {t u : TT} : tAnd t u σ H QB = t σ H fun c H1 => if c = true then u σ H1 QB else QB false H1 := rfl
theorem a_tOr {t u : TT} : tOr t u σ H QB = t σ H fun c H1 => if c = true then QB true H1 else u σ H1 QB := rfl
theorem a_tNot {t : TT} : tNot t σ H QB = t σ H fun c H1 => QB (!c) H1 := rfl
theorem a_tTest {t : TE} : tTest t σ H QB = t σ H fun x H' => ∃ k, x = .bl k ∧ QB k H' := rfl
theorem a_tB {t : TE} : tB t σ H QB = t σ H fun x H1 => ∃ c, x = .bl c ∧ QB c H1 := rfl
theorem a_tTrue : tTrue σ H QB = QB true H := rfl
theorem a_tIf {t : TT} {ta tb : TE} : tIf t ta tb σ H Q = t σ H fun c H1 => if c = true then ta σ H1 Q else tb σ H1 Q := rfl
theorem a_tAndV {ta tb : TE} : tAndV ta tb σ H Q = ta σ H fun x H1 => ∃ c, x = .bl c ∧ if c = true then tb σ H1 Q else Q (.bl false) H1 := rfl
theorem a_tOrV {ta tb : TE} : tOrV ta tb σ H Q = ta σ H fun x H1 => ∃ c, x = .bl c ∧ if c = true then Q (.bl true) H1 else tb σ H1 Q := rfl
theorem a_tNotV {ta : TE} : tNotV ta σ H Q = ta σ H fun x H1 => ∃ c, x = .bl c ∧ Q (.bl (!c)) H1 := rfl
theorem a_tOp {r : R2} {ta tb : TE} : tOp r ta tb σ H Q = ta σ H fun x H1 => tb σ H1 fun y H2 => r x y H2 Q := rfl
theorem a_tUn {r : V → Hp → VK → Prop} {ta : TE} : tUn r ta σ H Q = ta σ H fun x H1 => r x H1 Q := rfl
theorem a_rU {g : Int → V} {x : V} : rU g x H Q = ∃ i, x = .int i ∧ Q (g i) H := rfl
theorem a_tVar {i : Nat} : tVar i σ H Q = ∃ v, σ[i]? = some (some v) ∧ Q v H := rfl
theorem a_tC {v : V} : tC v σ H Q = Q v H := rfl
theorem a_rI0 {g : Int → Int → V} {x y : V} : rI0 g x y H Q = ∃ i j, x = .int i ∧ y = .int j ∧ Q (g i j) H := rfl
theorem a_rI {C : Int → Int → Prop} {g : Int → Int → V} {x y : V} : rI C g x y H Q = ∃ i j, x = .int i ∧ y = .int j ∧ C i j ∧ Q (g i j) H := rfl
theorem a_rEq {x y : V} : rEq x y H Q = (scal x y = true ∧ Q (.bl (decide (x = y))) H) := rfl
theorem a_rNe {x y : V} : rNe x y H Q = (scal x y = true ∧ Q (.bl (!decide (x = y))) H) := rfl
theorem a_rIx0 {x y : V} : rIx0 x y H Q = ∃ p xs i v, x = .ref p ∧ y = .int i ∧ sq H p = some xs ∧ atI xs i = some v ∧ Q v H := rfl
theorem a_rIn0 {neg : Bool} {x y : V} : rIn0 neg x y H Q = ∃ p xs, y = .ref p ∧ sq H p = some xs ∧ flatV x = true ∧ xs.all flatV = true ∧ Q (.bl (if neg then !inV x xs else inV x xs)) H := rfl
theorem a_tCB {r : List V → Hp → VK → Prop} {t : TA} : tCB r t σ H Q = t σ H fun vs H1 => r vs H1 Q := rfl
theorem a_tCal {sp : Sp} {t : TA} : tCal sp t σ H Q = t σ H fun vs H1 => sp vs H1 Q E0 := rfl
theorem a_tCons {ta : TE} {tr : TA} : tCons ta tr σ H QA = ta σ H fun x H1 => tr σ H1 fun xs H2 => QA (x :: xs) H2 := rfl
theorem a_tNil : tNil σ H QA = QA [] H := rfl
theorem a_tLst {t : TA} : tLst t σ H Q = t σ H fun xs H1 => xs.length ≤ sizeLine ∧ ∀ p, H1 p = none → Q (.ref p) (upd H1 p (.lst xs)) := rfl
theorem a_tBits {to : TE} : tBits to σ H Q = to σ H fun x H1 => ∃ i, x = .int i ∧ Q (.int (Builtin.Int.intBits i : Nat)) H1 := rfl
theorem a_tLC {fr : List (Option Nat)} {wi : TI} {g : TG} {tc : TT} {te : TE} : tLC fr wi g tc te σ H Q = wi σ H fun J H1 => ∀ p, H1 p = none → tCL J g tc (tEmit p te) (fun _ H2 => Q (.ref p) H2) (frS fr σ) (upd H1 p (.lst [])) := rfl
theorem a_iRng1 {ta : TA} : iRng1 ta σ H R = ta σ H fun vs H1 => ∃ j : Int, vs = [.int j] ∧ -(2 ^ 62) ≤ j ∧ j < 2 ^ 62 ∧ R (Itr 0 j.toNat) H1 := rfl
theorem a_iRng2 {ta : TA} : iRng2 ta σ H R = ta σ H fun vs H1 => ∃ i j : Int, vs = [.int i, .int j] ∧ (-(2 ^ 62) ≤ i ∧ i < 2 ^ 62 ∧ -(2 ^ 62) ≤ j ∧ j < 2 ^ 62) ∧ R (Itr i (j - i).toNat) H1 := rfl
theorem a_iT0 {tl : TE} : iT0 tl σ H R = tl σ H fun x H1 => ∃ a xs, x = .ref a ∧ H1 a = some (.tup xs) ∧ R (ItS (fun H => H a = some (.tup xs)) xs) H1 := rfl
theorem a_iL0 {tl : TE} : iL0 tl σ H R = tl σ H fun x H1 => ∃ a xs, x = .ref a ∧ H1 a = some (.lst xs) ∧ R (ItS (fun H => H a = some (.lst xs)) xs) H1 := rfl
theorem a_tEmit {p : Addr} {te : TE} : tEmit p te σ H QG = te σ H fun y H1 => ∃ ys, H1 p = some (.lst ys) ∧ ys.length < sizeLine ∧ QG σ (upd H1 p (.lst (ys ++ [y]))) := rfl
end
def FL (J : It) (g : TG) (tb : TS) (D : Ends) (σ : St) (H1 : Hp) : Prop := ∃ W : Nat → Nat → St → Hp → Prop, (∃ m, W 0 m σ H1) ∧ ∀ i m σ H, W i m σ H →
  (J.stop i H ∧ D.nx σ H) ∨ (J.go i H ∧ ∃ N : St → Hp → Prop, (∀ σ' H', N σ' H' → ∃ m', m' < m ∧ W (i + 1) m' σ' H') ∧ ∀ x H', J.yld i H x H' → g x σ H' fun σ2 H2 => tb { D with nx := N, ct := N, bk := D.nx } σ2 H2)
theorem a_tFor {wi : TI} {g : TG} {tb : TS} {D : Ends} {σ : St} {H : Hp} : tFor wi g tb D σ H = wi σ H fun J H1 => FL J g tb D σ H1 := rfl
theorem fl_seq {f : Hp → Prop} {xs : List V} {g : TG} {tb : TS} {D : Ends} {σ : St} {H : Hp} (Pv : Nat → St → Hp → Prop) (h0 : Pv 0 σ H) (hl : ∀ i σ H, i ≤ xs.length → Pv i σ H → f H)
    (hs : ∀ i x σ H, xs[i]? = some x → Pv i σ H → g x σ H fun σ2 H2 => tb { D with nx := Pv (i + 1), ct := Pv (i + 1), bk := D.nx } σ2 H2) (hd : ∀ σ H, Pv xs.length σ H → D.nx σ H) : FL (ItS f xs) g tb D σ H := for_seq Pv h0 hl hs hd
theorem fl_range {lo : Int} {n : Nat} {g : TG} {tb : TS} {D : Ends} {σ : St} {H : Hp} (Pv : Nat → St → Hp → Prop) (h0 : Pv 0 σ H)
    (hs : ∀ i σ H, i < n → Pv i σ H → g (.int (lo + i)) σ H fun σ2 H2 => tb { D with nx := Pv (i + 1), ct := Pv (i + 1), bk := D.nx } σ2 H2) (hd : ∀ σ H, Pv n σ H → D.nx σ H) : FL (Itr lo n) g tb D σ H := for_range Pv h0 hs hd
def SameX (c : Addr) (H H' : Hp) : Prop := ∀ b o, b ≠ c → H b = some o → H' b = some o
theorem SameX.refl {c : Addr} {H : Hp} : SameX c H H := fun _ _ _ h => h
theorem SameX.trans {c : Addr} {H H1 H2 : Hp} (a : SameX c H H1) (b : SameX c H1 H2) : SameX c H H2 := fun d o n h => b d o n (a d o n h)
theorem SameX.upd {c : Addr} {H : Hp} {o : HO} : SameX c H (upd H c o) := fun b u n h => by rw [upd_ne n]; exact h
theorem Same.x {c : Addr} {H H' : Hp} (h : Same H H') : SameX c H H' := fun b o _ e => h b o e
theorem SameX.same {c : Addr} {H H' : Hp} (h : SameX c H H') (n : H c = none) : Same H H' := fun b o e => h b o (ne_of_none e n) e
theorem But.x {p : Addr} {H H' : Hp} (h : But p H H') : SameX p H H' := fun b o n e => by rw [h b n]; exact e
theorem Same.sq {H H' : Hp} (h : Same H H') {a : Addr} {xs : List V} (e : L2.sq H a = some xs) : L2.sq H' a = some xs := by
  unfold L2.sq at e ⊢
  cases q : H a with
  | none => rw [q] at e; cases e
  | some o => rw [q] at e; rw [h a o q]; exact e
theorem SameX.sq {c : Addr} {H H' : Hp} (h : SameX c H H') {a : Addr} {xs : List V} (n : a ≠ c) (e : L2.sq H a = some xs) : L2.sq H' a = some xs := by
  unfold L2.sq at e ⊢
  cases q : H a with
  | none => rw [q] at e; cases e
  | some o => rw [q] at e; rw [h a o n q]; exact e
theorem Scr.keep {K : PySem.W.Frag} {a p : Addr} {ns : List Int} {H H' : Hp} (h : Scr K a ns H) (n : H p = none) (s : SameX p H H') : Scr K a ns H' := Same.seq (s.same n) h
theorem a_rIxL {K : PySem.W.Frag} {x y : V} {H : Hp} {Q : VK} : rIxL K x y H Q = ∃ p xs i v, x = .ref p ∧ y = .int i ∧ SqL K H p xs ∧ atI xs i = some v ∧ Q v H := rfl
theorem sum_bound {b : Int} : ∀ {ns : List Int}, (∀ n ∈ ns, -b ≤ n ∧ n ≤ b) → -(b * (ns.length : Int)) ≤ ns.sum ∧ ns.sum ≤ b * (ns.length : Int)
  | [], _ => by simp
  | n :: ns, h => by
    have h1 := h n List.mem_cons_self
    have h2 := sum_bound (ns := ns) fun m hm => h m (List.mem_cons_of_mem _ hm)
    rw [List.sum_cons, List.length_cons, Int.natCast_add, Int.mul_add]
    simp only [Int.natCast_one, Int.mul_one]
    omega
theorem sumFits_of {ns : List Int} (h : ∀ n ∈ ns, -(2 ^ 40) ≤ n ∧ n ≤ 2 ^ 40) (hl : ns.length ≤ 1000) : sumFits ns := by
  refine ⟨fun n hn => ⟨by have := (h n hn).1; omega, by have := (h n hn).2; omega⟩, fun j hj => ?_⟩
  have q := sum_bound (b := 2 ^ 40) (ns := ns.take j) fun n hn => h n (List.mem_of_mem_take hn)
  have e : (ns.take j).length ≤ 1000 := by rw [List.length_take]; omega
  have e' : (2 : Int) ^ 40 * ((ns.take j).length : Int) ≤ 2 ^ 40 * 1000 := Int.mul_le_mul_of_nonneg_left (by omega) (by decide)
  constructor
  · have : (2 : Int) ^ 40 * 1000 < 2 ^ 63 := by decide
    omega
  · have : (2 : Int) ^ 40 * 1000 < 2 ^ 63 := by decide
    omega
theorem ixN30 : ixN 3 0 = some 0 := rfl
theorem ixN31 : ixN 3 1 = some 1 := rfl
theorem ixN32 : ixN 3 2 = some 2 := rfl
theorem atI0 {α : Type} (a : α) (l : List α) : atI (a :: l) 0 = some a := atI_nat (j := 0) (xs := a :: l) rfl
theorem atI1 {α : Type} (a b : α) (l : List α) : atI (a :: b :: l) 1 = some b := atI_nat (j := 1) (xs := a :: b :: l) rfl
theorem atI2 {α : Type} (a b c : α) (l : List α) : atI (a :: b :: c :: l) 2 = some c := atI_nat (j := 2) (xs := a :: b :: c :: l) rfl
end L2
end
section
set_option Elab.async false
set_option linter.all false
set_option maxRecDepth 100000
namespace L2
open PySem PySem.Spec PyProof.Rows
def SeqOf (h : Heap) (c : String) (l : Addr) (xs : Array Value) : Prop := (c = "list_iterator" ∧ h.IsList l xs) ∨ (c = "tuple_iterator" ∧ h.IsTuple l xs)
def Src (h : Heap) (c : String) (it l : Addr) (xs : Array Value) (k : Nat) : Prop := (c = "list_iterator" ∧ h.IsListIter it l k ∧ h.IsList l xs) ∨ (c = "tuple_iterator" ∧ h.IsTupleIter it l k ∧ h.IsTuple l xs)
theorem SeqOf.at {h h' : Heap} {c : String} {l : Addr} {xs : Array Value} (x : SeqOf h c l xs) (k : ∀ o, h.get? l = some o → h'.get? l = some o) : SeqOf h' c l xs := by
  rcases x with ⟨e, x⟩ | ⟨e, x⟩
  · exact .inl ⟨e, x.at k⟩
  · exact .inr ⟨e, x.at k⟩
theorem SeqOf.lt {h : Heap} {c : String} {l : Addr} {xs : Array Value} (x : SeqOf h c l xs) : l < h.objs.size := by
  rcases x with ⟨_, o, e, _⟩ | ⟨_, o, e, _⟩ <;> exact Heap.lt_size e
theorem Src.at {h h' : Heap} {c : String} {it l : Addr} {xs : Array Value} {k : Nat} (x : Src h c it l xs k) (k1 : ∀ o, h.get? it = some o → h'.get? it = some o) (k2 : ∀ o, h.get? l = some o → h'.get? l = some o) : Src h' c it l xs k := by
  rcases x with ⟨e, ⟨o, a, r⟩, y⟩ | ⟨e, ⟨o, a, r⟩, y⟩
  · exact .inl ⟨e, ⟨o, k1 o a, r⟩, y.at k2⟩
  · exact .inr ⟨e, ⟨o, k1 o a, r⟩, y.at k2⟩
theorem Src.ext {h h' : Heap} {c : String} {it l b : Addr} {xs : Array Value} {k : Nat} (x : Src h c it l xs k) (hs : Heap.SameBut b h h') (n1 : it ≠ b) (n2 : l ≠ b) : Src h' c it l xs k :=
  x.at (fun o e => hs.extBut _ _ n1 e) fun o e => hs.extBut _ _ n2 e
section
variable {prog : Program} {w : World} {A : Around} {E : Value → Shared → Prop} {s : Shared}
theorem iter_any {c : String} {l : Addr} {xs : Array Value} {Q : Value → Shared → Prop} (x : SeqOf s.heap c l xs) (h : Q (.ref s.heap.objs.size) { s with heap := s.heap.push { cls := .type c, data := .fields #[.ref l, .int 0 0] } }) : wpAny (model prog w) A (pyIter (.ref l)) Q E s := by
  rcases x with ⟨rfl, x⟩ | ⟨rfl, x⟩
  · exact wpAny_pyIter_list x h
  · exact wpAny_pyIter_tuple x h
theorem nextOf_tup {it l : Addr} {i : Nat} {items : Array Value} {x : Value} {Q : Value → Shared → Prop} (hit : s.heap.IsTupleIter it l i) (ht : s.heap.IsTuple l items) (hx : items[i]? = some x)
    (hQ : ∀ h', h'.IsTupleIter it l (i + 1) → Heap.SameBut it s.heap h' → Q x { s with heap := h' }) : wpAny (model prog w) A (Builtin.SmallTypes.nextOf (.ref it)) Q E s := by
  obtain ⟨o, ho, hc, hd⟩ := id hit
  obtain ⟨ot, hot, _, nt, hdt⟩ := ht
  unfold Builtin.SmallTypes.nextOf
  refine wpAny_bind (wpAny_callSpecial?_slot (name := Str.ofString "__next__") hit.typeIs F.slot_tuple_iterator_next (wpAny_call_entry F.slot_tuple_iterator_next hit.typeIs F.entry_tuple_iterator_next ?_ (F.args_tuple_iterator_next_1 _)))
  refine wpAny_bind (m := field (.ref it) 0) (wpAny_field ho hd (x := .ref l) rfl ?_)
  rw [if_neg (show ¬ ((Value.ref l == Value.none) = true) from Bool.false_ne_true)]
  refine wpAny_bind (m := field (.ref it) 1) (wpAny_field ho hd (x := .int i 0) rfl ?_)
  refine wpAny_bind (m := seqItems? (.ref l)) (wpAny_seqItems hot hdt ?_)
  simp only [Int.toNat_natCast, hx]
  refine wpAny_bind (wpAny_setField ho hd (by simp) (wpAny_pure ⟨x, rfl, wpAny_pure (hQ _ ?_ (Heap.SameBut.update ..))⟩))
  refine ⟨_, Heap.get?_update_self _ ho (Obj.isFreed_of_fields (Obj.data_mapFields hd _)), (Obj.cls_mapFields ..).trans hc, ?_⟩
  rw [Obj.data_mapFields hd]; simp [rawInt]
theorem nx_item {c : String} {it l : Addr} {xs : Array Value} {k : Nat} {x : Value} {Q : Value → Shared → Prop} (S : Src s.heap c it l xs k) (ne : l ≠ it) (hx : xs[k]? = some x)
    (hQ : ∀ h', Src h' c it l xs (k + 1) → Heap.SameBut it s.heap h' → Q x { s with heap := h' }) : wpAny (model prog w) A (Builtin.SmallTypes.nextOf (.ref it)) Q E s := by
  rcases S with ⟨e, a, b⟩ | ⟨e, a, b⟩
  · exact wpAny_nextOf_list_item a b hx fun h' a' sb => hQ h' (.inl ⟨e, a', b.extBut sb.extBut ne⟩) sb
  · exact nextOf_tup a b hx fun h' a' sb => hQ h' (.inr ⟨e, a', b.at fun o q => sb.extBut _ _ ne q⟩) sb
theorem nextOf_tup_end {it l : Addr} {i : Nat} {items : Array Value} {Q : Value → Shared → Prop} (hh : A.handled = none) (hit : s.heap.IsTupleIter it l i) (ht : s.heap.IsTuple l items) (hx : items[i]? = none)
    (hE : ∀ h' e, Heap.ExtBut it s.heap h' → (∃ o, h'.get? e = some o ∧ o.cls = .type "StopIteration") → E (.ref e) { s with heap := h' }) : wpAny (model prog w) A (Builtin.SmallTypes.nextOf (.ref it)) Q E s := by
  obtain ⟨o, ho, hc, hd⟩ := id hit
  obtain ⟨ot, hot, _, nt, hdt⟩ := ht
  unfold Builtin.SmallTypes.nextOf
  refine wpAny_bind (wpAny_callSpecial?_slot (name := Str.ofString "__next__") hit.typeIs F.slot_tuple_iterator_next (wpAny_call_entry F.slot_tuple_iterator_next hit.typeIs F.entry_tuple_iterator_next ?_ (F.args_tuple_iterator_next_1 _)))
  refine wpAny_bind (m := field (.ref it) 0) (wpAny_field ho hd (x := .ref l) rfl ?_)
  rw [if_neg (show ¬ ((Value.ref l == Value.none) = true) from Bool.false_ne_true)]
  refine wpAny_bind (m := field (.ref it) 1) (wpAny_field ho hd (x := .int i 0) rfl ?_)
  refine wpAny_bind (m := seqItems? (.ref l)) (wpAny_seqItems hot hdt ?_)
  simp only [Int.toNat_natCast, hx]
  refine wpAny_bind (wpAny_rule (wpAny_bind (wpAny_setField ho hd (by simp) ?_)))
  refine wpAny_bind (m := newExc (.type "StopIteration") []) ?_
  simp only [newExc, newTuple]
  refine wpAny_bind (wpAny_newObj_type ?_ (by size_fits))
  refine wpAny_bind (m := firstArgMember _ _) (wpAny_of_eq (a := Value.none) (by first | rfl | (simp only [firstArgMember]; rfl)) ?_)
  refine wpAny_newObj_type ?_ (by size_fits)
  simp only [raiseNew]
  refine wpAny_bind (wpAny_handled ?_)
  first | rw [show A.in1.handled = none from hh] | rw [hh]
  refine wpAny_bind (wpAny_pure (wpAny_throw ?_))
  exact hE _ _ (((Heap.SameBut.update ..).extBut.push _).push _) ⟨_, Heap.get?_push_size _ rfl, rfl⟩
theorem nx_end {c : String} {it l : Addr} {xs : Array Value} {k : Nat} {Q : Value → Shared → Prop} (hh : A.handled = none) (S : Src s.heap c it l xs k) (hx : xs[k]? = none)
    (hE : ∀ h' e, Heap.ExtBut it s.heap h' → (∃ o, h'.get? e = some o ∧ o.cls = .type "StopIteration") → E (.ref e) { s with heap := h' }) : wpAny (model prog w) A (Builtin.SmallTypes.nextOf (.ref it)) Q E s := by
  rcases S with ⟨e, a, b⟩ | ⟨e, a, b⟩
  · exact wpAny_nextOf_list_end hh a b hx hE
  · exact nextOf_tup_end hh a b hx hE
structure Zs (h : Heap) (z TI TO i1 i2 : Addr) (c1 c2 : String) (l1 l2 : Addr) (xs ys : Array Value) (k : Nat) : Prop where
  zip : IsZip h z TI TO .none
  ti : IsPair h TI (.ref i1) (.ref i2)
  to : ∃ a b, IsPair h TO a b
  s1 : Src h c1 i1 l1 xs k
  s2 : Src h c2 i2 l2 ys k
theorem zs_item {z TI TO i1 i2 l1 l2 : Addr} {c1 c2 : String} {k : Nat} {xs ys : Array Value} {x y : Value} {Q : Option Value → Shared → Prop} (D : ZipApart z TI TO i1 i2 l1 l2) (Z : Zs s.heap z TI TO i1 i2 c1 c2 l1 l2 xs ys k) (hx : xs[k]? = some x) (hy : ys[k]? = some y)
    (hQ : ∀ h', IsZip h' z TI TO (rawInt s.heap.objs.size) → IsPair h' TI (.ref i1) (.ref i2) → IsPair h' TO x y → Src h' c1 i1 l1 xs (k + 1) → Src h' c2 i2 l2 ys (k + 1) → IsPair h' s.heap.objs.size x y → h'.objs.size = s.heap.objs.size + 1 →
      (∀ c o, c ∉ [z, TO, i1, i2] → s.heap.get? c = some o → h'.get? c = some o) → Q (some (.ref s.heap.objs.size)) { s with heap := h' }) : wpAny (model prog w) A (pyNext (.ref z)) Q E s := by
  obtain ⟨hz, hTI, ⟨a, b, hTO⟩, h1, h2⟩ := Z
  have hT : s.TypeIs (.ref z) "zip" := ⟨_, hz, rfl⟩
  unfold pyNext
  refine wpAny_bind (wpAny_attempt (wpAny_callSpecial?_slot (name := Str.ofString "__next__") hT F.slot_zip_next (wpAny_call_entry F.slot_zip_next hT F.entry_zip_next ?_ (F.args_zip_next_1 _))))
  refine wpAny_bind (m := field (.ref z) 2) (wpAny_field hz rfl (x := .bool false) rfl ?_)
  refine wpAny_bind (m := field (.ref z) 3) (wpAny_field hz rfl (x := .ref TI) rfl ?_)
  refine wpAny_bind (wpAny_seqItems hTI rfl ?_)
  refine wpAny_bind (m := Builtin.SmallTypes.ownedTupleIsFree (.ref z)) ?_
  unfold Builtin.SmallTypes.ownedTupleIsFree
  refine wpAny_bind (wpAny_field hz rfl (x := .none) rfl (wpAny_pure ?_))
  simp only [if_true]
  refine wpAny_bind (wpAny_rule ?_)
  refine wpAny_bind (wpAny_field hz rfl (x := .ref TO) rfl ?_)
  refine wpAny_bind (wpAny_setField_rec hz (by simp) fun ha hza hsa => ?_)
  replace hza : IsZip ha z TI TO .ellipsis := hza
  refine wpAny_bind ?_
  simp only [List.zipIdx_cons, List.zipIdx_nil, List.forIn_cons, List.forIn_nil]
  refine wpAny_bind (wpAny_bind (wpAny_onRaise ?_))
  refine wpAny_bind (m := Builtin.SmallTypes.nextOf (.ref i1)) (nx_item (s := { s with heap := ha }) (h1.ext hsa D.i1z D.l1z) D.l1i1 hx fun hb h1b hsb => wpAny_pure ?_)
  have hTOb : IsPair hb TO a b := hsb.extBut _ _ D.TOi1 (hsa.extBut _ _ D.TOz hTO)
  refine wpAny_bind (wpAny_seqItems hTOb rfl ?_)
  refine wpAny_bind (wpAny_updateSeq_pair hTOb fun hc hTOc hsc => ?_)
  replace hTOc : IsPair hc TO x b := hTOc
  refine wpAny_bind (wpAny_letGo (wpAny_pure ?_))
  refine wpAny_bind (wpAny_bind (wpAny_onRaise ?_))
  refine wpAny_bind (m := Builtin.SmallTypes.nextOf (.ref i2)) (nx_item (s := { s with heap := hc }) (((h2.ext hsa D.i2z D.l2z).ext hsb D.i12.symm D.l2i1).ext hsc D.TOi2.symm D.l2TO) D.l2i2 hy fun hd h2d hsd => wpAny_pure ?_)
  have hTOd : IsPair hd TO x b := hsd.extBut _ _ D.TOi2 hTOc
  refine wpAny_bind (wpAny_seqItems hTOd rfl ?_)
  refine wpAny_bind (wpAny_updateSeq_pair hTOd fun he hTOe hse => ?_)
  replace hTOe : IsPair he TO x y := hTOe
  refine wpAny_bind (wpAny_letGo (wpAny_pure (wpAny_pure ?_)))
  refine wpAny_bind (wpAny_seqItems hTOe rfl ?_)
  refine wpAny_bind (wpAny_newTuple ?_)
  have sz : he.objs.size = s.heap.objs.size := by rw [hse.1, hsd.1, hsc.1, hsb.1, hsa.1]
  have ze : IsZip he z TI TO .ellipsis := hse.extBut _ _ D.TOz.symm (hsd.extBut _ _ D.i2z.symm (hsc.extBut _ _ D.TOz.symm (hsb.extBut _ _ D.i1z.symm hza)))
  have ke : ∀ c o, c ≠ z → c ≠ TO → c ≠ i1 → c ≠ i2 → s.heap.get? c = some o → he.get? c = some o := fun c o n1 n2 n3 n4 e => hse.extBut _ _ n2 (hsd.extBut _ _ n4 (hsc.extBut _ _ n2 (hsb.extBut _ _ n3 (hsa.extBut _ _ n1 e))))
  have h1e : Src he c1 i1 l1 xs (k + 1) := ((h1b.ext hsc D.TOi1.symm D.l1TO).ext hsd D.i12 D.l1i2).ext hse D.TOi1.symm D.l1TO
  have h2e : Src he c2 i2 l2 ys (k + 1) := h2d.ext hse D.TOi2.symm D.l2TO
  have zlt : z < he.objs.size := Heap.lt_size ze
  refine wpAny_bind (m := Builtin.SmallTypes.ownedTupleHandOut (.ref z) (.ref he.objs.size)) ?_
  unfold Builtin.SmallTypes.ownedTupleHandOut
  refine wpAny_bind (wpAny_setField_rec (show IsZip (he.push { cls := .type "tuple", data := .seq #[x, y] }) z TI TO .ellipsis from Heap.get?_push_of_some _ ze) (by simp) fun hf hzf hsf => ?_)
  replace hzf : IsZip hf z TI TO (rawInt he.objs.size) := hzf
  refine wpAny_setField_rec hzf (by simp) fun hg hzg hsg => ?_
  replace hzg : IsZip hg z TI TO (rawInt he.objs.size) := hzg
  have up : ∀ c o, c ≠ z → he.get? c = some o → hg.get? c = some o := fun c o n e => hsg.extBut _ _ n (hsf.extBut _ _ n (Heap.get?_push_of_some _ e))
  have new : IsPair hg he.objs.size x y := hsg.extBut _ _ (Nat.ne_of_gt zlt) (hsf.extBut _ _ (Nat.ne_of_gt zlt) (Heap.get?_push_size _ rfl))
  have szg : hg.objs.size = he.objs.size + 1 := by rw [hsg.1, hsf.1, Heap.size_push]
  refine wpAny_pure ⟨_, rfl, wpAny_pure ?_⟩
  rw [sz] at hzg new szg ⊢
  refine hQ hg hzg (up _ _ D.TIz (ke _ _ D.TIz D.TITO D.TIi1 D.TIi2 hTI)) (up _ _ D.TOz hTOe) (h1e.at (fun o e => up _ o D.i1z e) fun o e => up _ o D.l1z e) (h2e.at (fun o e => up _ o D.i2z e) fun o e => up _ o D.l2z e) new szg fun c o hc' e => ?_
  have n1 : c ≠ z := fun q => hc' (by simp [q])
  exact up c o n1 (ke c o n1 (fun q => hc' (by simp [q])) (fun q => hc' (by simp [q])) (fun q => hc' (by simp [q])) e)
end
end L2
end
section
set_option Elab.async false
set_option linter.all false
set_option maxRecDepth 100000
namespace L2
open PySem PySem.Spec PyProof.Rows
section
variable {prog : Program} {w : World} {A : Around} {E : Value → Shared → Prop} {s : Shared}
theorem zs_end {z TI TO i1 i2 l1 l2 : Addr} {c1 c2 : String} {k : Nat} {xs ys : Array Value} {Q : Option Value → Shared → Prop} (hh : A.handled = none) (D : ZipApart z TI TO i1 i2 l1 l2) (Z : Zs s.heap z TI TO i1 i2 c1 c2 l1 l2 xs ys k) (hend : xs[k]? = none ∨ ys[k]? = none)
    (hQ : ∀ h', (∀ c o, c ∉ [z, TO, i1, i2] → s.heap.get? c = some o → h'.get? c = some o) → Q none { s with heap := h' }) : wpAny (model prog w) A (pyNext (.ref z)) Q E s := by
  obtain ⟨hz, hTI, ⟨a, b, hTO⟩, h1, h2⟩ := Z
  have hT : s.TypeIs (.ref z) "zip" := ⟨_, hz, rfl⟩
  unfold pyNext
  have fin : ∀ h' e, (∀ c o, c ≠ z → c ≠ TO → c ≠ i1 → c ≠ i2 → s.heap.get? c = some o → h'.get? c = some o) → (∃ o, h'.get? e = some o ∧ o.cls = .type "StopIteration") →
      wpAny (model prog w) A (isInstance (.ref e) (.type "StopIteration") >>= fun y => if y = true then pure none else throw (.ref e)) Q E { s with heap := h' } := fun h' e k ⟨o, ho, hc⟩ => by
    refine wpAny_bind (wpAny_isInstance (T := "StopIteration") (b := true) ⟨o, ho, hc⟩ isSubtype_stop ?_)
    exact wpAny_pure (hQ _ fun c o hc' x => k c o (fun q => hc' (by simp [q])) (fun q => hc' (by simp [q])) (fun q => hc' (by simp [q])) (fun q => hc' (by simp [q])) x)
  refine wpAny_bind (wpAny_attempt (wpAny_callSpecial?_slot (name := Str.ofString "__next__") hT F.slot_zip_next (wpAny_call_entry F.slot_zip_next hT F.entry_zip_next ?_ (F.args_zip_next_1 _))))
  refine wpAny_bind (m := field (.ref z) 2) (wpAny_field hz rfl (x := .bool false) rfl ?_)
  refine wpAny_bind (m := field (.ref z) 3) (wpAny_field hz rfl (x := .ref TI) rfl ?_)
  refine wpAny_bind (wpAny_seqItems hTI rfl ?_)
  refine wpAny_bind (m := Builtin.SmallTypes.ownedTupleIsFree (.ref z)) ?_
  unfold Builtin.SmallTypes.ownedTupleIsFree
  refine wpAny_bind (wpAny_field hz rfl (x := .none) rfl (wpAny_pure ?_))
  simp only [if_true]
  refine wpAny_bind (wpAny_rule ?_)
  refine wpAny_bind (wpAny_field hz rfl (x := .ref TO) rfl ?_)
  refine wpAny_bind (wpAny_setField_rec hz (by simp) fun ha hza hsa => ?_)
  replace hza : IsZip ha z TI TO .ellipsis := hza
  refine wpAny_bind ?_
  simp only [List.zipIdx_cons, List.zipIdx_nil, List.forIn_cons, List.forIn_nil]
  refine wpAny_bind (wpAny_bind (wpAny_onRaise ?_))
  cases hx : xs[k]? with
  | none =>
    refine wpAny_bind (m := Builtin.SmallTypes.nextOf (.ref i1)) (nx_end (s := { s with heap := ha }) hh (h1.ext hsa D.i1z D.l1z) hx fun hb e hsb he => ?_)
    obtain ⟨oe, hoe, hce⟩ := he
    have hzb : IsZip hb z TI TO .ellipsis := hsb _ _ D.i1z.symm hza
    have hez : e ≠ z := fun q => by subst q; rw [hzb] at hoe; cases hoe; simp at hce
    refine wpAny_setField_rec hzb (by simp) fun hc _ hsc => fin hc e (fun c o n1 _ n3 _ q => hsc.extBut _ _ n1 (hsb _ _ n3 (hsa.extBut _ _ n1 q))) ⟨oe, hsc.extBut _ _ hez hoe, hce⟩
  | some x =>
    have hy : ys[k]? = none := by rcases hend with h | h; rw [hx] at h; cases h; exact h
    refine wpAny_bind (m := Builtin.SmallTypes.nextOf (.ref i1)) (nx_item (s := { s with heap := ha }) (h1.ext hsa D.i1z D.l1z) D.l1i1 hx fun hb h1b hsb => wpAny_pure ?_)
    have hTOb : IsPair hb TO a b := hsb.extBut _ _ D.TOi1 (hsa.extBut _ _ D.TOz hTO)
    refine wpAny_bind (wpAny_seqItems hTOb rfl ?_)
    refine wpAny_bind (wpAny_updateSeq_pair hTOb fun hc hTOc hsc => ?_)
    refine wpAny_bind (wpAny_letGo (wpAny_pure ?_))
    refine wpAny_bind (wpAny_bind (wpAny_onRaise ?_))
    refine wpAny_bind (m := Builtin.SmallTypes.nextOf (.ref i2)) (nx_end (s := { s with heap := hc }) hh (((h2.ext hsa D.i2z D.l2z).ext hsb D.i12.symm D.l2i1).ext hsc D.TOi2.symm D.l2TO) hy fun hd e hsd he => ?_)
    obtain ⟨oe, hoe, hce⟩ := he
    have hzd : IsZip hd z TI TO .ellipsis := hsd _ _ D.i2z.symm (hsc.extBut _ _ D.TOz.symm (hsb.extBut _ _ D.i1z.symm hza))
    have hez : e ≠ z := fun q => by subst q; rw [hzd] at hoe; cases hoe; simp at hce
    refine wpAny_setField_rec hzd (by simp) fun he _ hse => fin he e (fun c o n1 n2 n3 n4 q => hse.extBut _ _ n1 (hsd _ _ n4 (hsc.extBut _ _ n2 (hsb.extBut _ _ n3 (hsa.extBut _ _ n1 q))))) ⟨oe, hse.extBut _ _ hez hoe, hce⟩
abbrev zH1 (h : Heap) (c1 : String) (l1 : Addr) : Heap := h.push { cls := .type c1, data := .fields #[.ref l1, .int 0 0] }
abbrev zH2 (h : Heap) (c1 c2 : String) (l1 l2 : Addr) : Heap := (zH1 h c1 l1).push { cls := .type c2, data := .fields #[.ref l2, .int 0 0] }
abbrev zH3 (h : Heap) (c1 c2 : String) (l1 l2 : Addr) : Heap := (zH2 h c1 c2 l1 l2).push { cls := .type "tuple", data := .seq #[.ref h.objs.size, .ref (zH1 h c1 l1).objs.size] }
abbrev zH4 (h : Heap) (c1 c2 : String) (l1 l2 : Addr) : Heap := (zH3 h c1 c2 l1 l2).push { cls := .type "tuple", data := .seq #[.none, .none] }
abbrev zH5 (h : Heap) (c1 c2 : String) (l1 l2 : Addr) : Heap := (zH4 h c1 c2 l1 l2).push { cls := .type "zip", data := .fields #[.none, .bool false, .bool false, .ref (zH2 h c1 c2 l1 l2).objs.size, .ref (zH3 h c1 c2 l1 l2).objs.size] }
theorem meets_zip (c1 c2 : String) (l1 l2 : Addr) (xs ys : Array Value) :
    Meets (Builtin.«zip.__new__» ⟨[.type "zip", .ref l1, .ref l2], []⟩) (fun _ R s => SeqOf s.heap c1 l1 xs ∧ SeqOf s.heap c2 l2 ys ∧ R (.ok (.ret (.ref (zH4 s.heap c1 c2 l1 l2).objs.size))) { s with heap := zH5 s.heap c1 c2 l1 l2 }) :=
  .of_wp fun prog w A R s h => by
    obtain ⟨hp, g, d, tk, os⟩ := s
    obtain ⟨hl1, hl2, h⟩ := h
    have hsub := PySem.sub_zip
    have hL1 : SeqOf (Shared.heap ⟨hp, g, d, tk, os⟩) c1 l1 xs := hl1
    have hL2 : SeqOf (Shared.heap ⟨hp.push { cls := .type c1, data := .fields #[.ref l1, .int 0 0] }, g, d, tk, os⟩) c2 l2 ys := hl2.at fun o e => Heap.get?_push_of_some _ e
    wp_walk using iter_any hL1, iter_any hL2
    exact ⟨_, rfl, h⟩
theorem call_zip {c1 c2 : String} {l1 l2 : Addr} {xs ys : Array Value} {Q : Value → Shared → Prop} (hl1 : SeqOf s.heap c1 l1 xs) (hl2 : SeqOf s.heap c2 l2 ys)
    (h : ∀ h', Zs h' (s.heap.objs.size + 4) (s.heap.objs.size + 2) (s.heap.objs.size + 3) s.heap.objs.size (s.heap.objs.size + 1) c1 c2 l1 l2 xs ys 0 → h'.objs.size = s.heap.objs.size + 5 →
      (∀ c o, s.heap.get? c = some o → h'.get? c = some o) → Q (.ref (s.heap.objs.size + 4)) { s with heap := h' }) : wpAny (model prog w) A (call (.type "zip") [.ref l1, .ref l2]) Q E s := by
  refine callType_new F.called_zip (by decide) (F.typeCall_zip_2 _ _) (F.newCall_zip_2 _ _) (fun obj => F.args_object_init_3 obj _ _) F.entry_zip_new (meets_zip c1 c2 l1 l2 xs ys) ⟨hl1, hl2, ?_⟩
  have z1 : (zH1 s.heap c1 l1).objs.size = s.heap.objs.size + 1 := Heap.size_push ..
  have z2 : (zH2 s.heap c1 c2 l1 l2).objs.size = s.heap.objs.size + 2 := by rw [Heap.size_push, z1]
  have z3 : (zH3 s.heap c1 c2 l1 l2).objs.size = s.heap.objs.size + 3 := by rw [Heap.size_push, z2]
  have z4 : (zH4 s.heap c1 c2 l1 l2).objs.size = s.heap.objs.size + 4 := by rw [Heap.size_push, z3]
  have z5 : (zH5 s.heap c1 c2 l1 l2).objs.size = s.heap.objs.size + 5 := by rw [Heap.size_push, z4]
  have g5 : (zH5 s.heap c1 c2 l1 l2).get? (zH4 s.heap c1 c2 l1 l2).objs.size = some _ := Heap.get?_push_size _ rfl
  have g4 : (zH5 s.heap c1 c2 l1 l2).get? (zH3 s.heap c1 c2 l1 l2).objs.size = some _ := Heap.get?_push_of_some _ (Heap.get?_push_size _ rfl)
  have g3 : (zH5 s.heap c1 c2 l1 l2).get? (zH2 s.heap c1 c2 l1 l2).objs.size = some _ := Heap.get?_push_of_some _ (Heap.get?_push_of_some _ (Heap.get?_push_size _ rfl))
  have g2 : (zH5 s.heap c1 c2 l1 l2).get? (zH1 s.heap c1 l1).objs.size = some _ := Heap.get?_push_of_some _ (Heap.get?_push_of_some _ (Heap.get?_push_of_some _ (Heap.get?_push_size _ rfl)))
  have g1 : (zH5 s.heap c1 c2 l1 l2).get? s.heap.objs.size = some _ := Heap.get?_push_of_some _ (Heap.get?_push_of_some _ (Heap.get?_push_of_some _ (Heap.get?_push_of_some _ (Heap.get?_push_size _ rfl))))
  show _ ∧ _
  rw [z2, z3, z4] at g5
  rw [z1, z2] at g3
  rw [z3] at g4
  rw [z1] at g2
  rw [z4]
  have old : ∀ c o, s.heap.get? c = some o → (zH5 s.heap c1 c2 l1 l2).get? c = some o := fun c o x => Heap.get?_push_of_some _ (Heap.get?_push_of_some _ (Heap.get?_push_of_some _ (Heap.get?_push_of_some _ (Heap.get?_push_of_some _ x))))
  refine ⟨⟨_, g5, rfl⟩, h _ ⟨g5, g3, ⟨_, _, g4⟩, ?_, ?_⟩ z5 old⟩
  · rcases hl1 with ⟨rfl, x⟩ | ⟨rfl, x⟩
    · exact .inl ⟨rfl, ⟨_, g1, rfl, rfl⟩, x.at fun o e => old _ o e⟩
    · exact .inr ⟨rfl, ⟨_, g1, rfl, rfl⟩, x.at fun o e => old _ o e⟩
  · rcases hl2 with ⟨rfl, x⟩ | ⟨rfl, x⟩
    · exact .inl ⟨rfl, ⟨_, g2, rfl, rfl⟩, x.at fun o e => old _ o e⟩
    · exact .inr ⟨rfl, ⟨_, g2, rfl, rfl⟩, x.at fun o e => old _ o e⟩
end
end L2
end
section
set_option Elab.async false
set_option linter.all false
set_option maxRecDepth 100000
namespace L2
open PySem PySem.Spec PyProof.Rows
theorem Inv.turnedT {X : Cx} {pins : List (Addr × Obj)} {σ : St} {H : Hp} {s : Shared} {fp : List Addr} {h' : Heap} {T : Addr} {xs : List V} {us : List Value} {t' : Nat} (I : Inv X pins σ H s) (f : ∀ b ∈ fp, FpOk X pins H b)
    (k : ∀ c o, c ∉ fp → s.heap.get? c = some o → h'.get? c = some o) (hT : s.heap.objs.size ≤ T) (hz : xs.length ≤ sizeLine) (r : Vals xs us) (hp : IsTup h' T us.toArray) (hTf : T ∉ fp) :
    Inv X pins σ (upd H T (.tup xs)) { s with heap := h', toks := t' } := by
  have hn : H T = none := I.hok.fresh hT
  have nfp : ∀ a o, H a = some o → a ∉ fp := fun a o e hb => by have := (f a hb).1; rw [e] at this; cases this
  have hTn : ∀ b o, s.heap.get? b = some o → b ≠ T := fun b o e => Nat.ne_of_lt (Nat.lt_of_lt_of_le (Heap.lt_size e) hT)
  refine I.call' (s' := { s with heap := h', toks := t' }) (ch := fp) rfl ⟨fun b o q n _ hx => k b o hx q, fun b o q n _ hx => ⟨o.slots, k b o hx q⟩, fun b o q n _ => by rw [upd_ne (hTn b o q)]; exact n, fun b o q hx => ⟨o, k b o hx q⟩,
    fun b ys q => by rw [upd_ne (ne_of_none q hn)]; exact q, fun b o ys q => by rw [upd_ne (ne_of_none q hn)]; exact q, fun b ps q => ⟨#[], by rw [upd_ne (ne_of_none q hn), q]; simp⟩⟩ (fun a o e => ?_) I.bare (fun b hb => ?_)
  · by_cases ha : a = T
    · subst ha
      rw [upd_same] at e
      cases e
      exact ⟨hz, us, r, hp⟩
    · rw [upd_ne ha] at e
      refine (I.hok a o e).stay (fun b u hb q => k b u ?_ q) (fun b q => by rw [upd_ne (ne_of_none q hn)]; exact q) fun b ys q => by rw [upd_ne (ne_of_none q hn)]; exact q
      rcases hb with rfl | hb
      · exact nfp b o e
      · exact nfp b _ hb
  · obtain ⟨f0, f1, f2, f3, f4, f5⟩ := f b hb
    exact ⟨f3, f1, f4, f5⟩
theorem Inv.turnedN {X : Cx} {pins : List (Addr × Obj)} {σ : St} {H : Hp} {s : Shared} {fp : List Addr} {h' : Heap} {t' : Nat} (I : Inv X pins σ H s) (f : ∀ b ∈ fp, FpOk X pins H b)
    (k : ∀ c o, c ∉ fp → s.heap.get? c = some o → h'.get? c = some o) : Inv X pins σ H { s with heap := h', toks := t' } := by
  have nfp : ∀ a o, H a = some o → a ∉ fp := fun a o e hb => by have := (f a hb).1; rw [e] at this; cases this
  refine I.call' (s' := { s with heap := h', toks := t' }) (ch := fp) rfl ⟨fun b o q n _ hx => k b o hx q, fun b o q n _ hx => ⟨o.slots, k b o hx q⟩, fun b o q n _ => n, fun b o q hx => ⟨o, k b o hx q⟩, fun b ys q => q, fun b o ys q => q, fun b ps q => ⟨#[], by rw [q]; simp⟩⟩ (fun a o e => ?_) I.bare (fun b hb => ?_)
  · refine (I.hok a o e).stay (fun b u hb q => k b u ?_ q) (fun b q => q) fun b ys q => q
    rcases hb with rfl | hb
    · exact nfp b o e
    · exact nfp b _ hb
  · obtain ⟨f0, f1, f2, f3, f4, f5⟩ := f b hb
    exact ⟨f3, f1, f4, f5⟩
def SqC (H : Hp) (c : String) (a : Addr) (xs : List V) : Prop := (c = "list_iterator" ∧ H a = some (.lst xs)) ∨ (c = "tuple_iterator" ∧ H a = some (.tup xs))
theorem Inv.seqOf {X : Cx} {pins : List (Addr × Obj)} {σ : St} {H : Hp} {s : Shared} {c : String} {a : Addr} {xs : List V} (I : Inv X pins σ H s) (h : SqC H c a xs) : ∃ its : List Value, Vals xs its ∧ SeqOf s.heap c a its.toArray := by
  rcases h with ⟨rfl, h⟩ | ⟨rfl, h⟩
  · obtain ⟨its, r, p, _⟩ := I.list (SqL.of h)
    exact ⟨its, r, .inl ⟨rfl, p.isList⟩⟩
  · obtain ⟨its, r, p, _⟩ := I.tuple (SqT.of h)
    exact ⟨its, r, .inr ⟨rfl, p⟩⟩
def Itz (c1 c2 : String) (a b : Addr) (xs ys : List V) : It :=
  ⟨fun i H => SqC H c1 a xs ∧ SqC H c2 b ys ∧ i < xs.length ∧ i < ys.length, fun i H x H' => ∃ T u v, x = .ref T ∧ H T = none ∧ H' = upd H T (.tup [u, v]) ∧ xs[i]? = some u ∧ ys[i]? = some v, fun i H => SqC H c1 a xs ∧ SqC H c2 b ys ∧ (xs.length ≤ i ∨ ys.length ≤ i)⟩
structure Zt (h : Heap) (z TI TO i1 i2 : Addr) (c1 c2 : String) (l1 l2 : Addr) (k : Nat) : Prop where
  zip : IsZip h z TI TO .none
  ti : IsPair h TI (.ref i1) (.ref i2)
  to : ∃ a b, IsPair h TO a b
  s1 : (c1 = "list_iterator" ∧ h.IsListIter i1 l1 k) ∨ (c1 = "tuple_iterator" ∧ h.IsTupleIter i1 l1 k)
  s2 : (c2 = "list_iterator" ∧ h.IsListIter i2 l2 k) ∨ (c2 = "tuple_iterator" ∧ h.IsTupleIter i2 l2 k)
theorem src_of {h : Heap} {c : String} {it l : Addr} {xs : Array Value} {k : Nat} (a : (c = "list_iterator" ∧ h.IsListIter it l k) ∨ (c = "tuple_iterator" ∧ h.IsTupleIter it l k)) (b : SeqOf h c l xs) : Src h c it l xs k := by
  rcases a with ⟨rfl, a⟩ | ⟨rfl, a⟩ <;> rcases b with ⟨e, b⟩ | ⟨e, b⟩
  · exact .inl ⟨rfl, a, b⟩
  · exact absurd e (by decide)
  · exact absurd e (by decide)
  · exact .inr ⟨rfl, a, b⟩
theorem of_src {h : Heap} {c : String} {it l : Addr} {xs : Array Value} {k : Nat} (a : Src h c it l xs k) : (c = "list_iterator" ∧ h.IsListIter it l k) ∨ (c = "tuple_iterator" ∧ h.IsTupleIter it l k) := by
  rcases a with ⟨e, a, _⟩ | ⟨e, a, _⟩
  · exact .inl ⟨e, a⟩
  · exact .inr ⟨e, a⟩
theorem it_at {h h' : Heap} {c : String} {it l : Addr} {k : Nat} (a : (c = "list_iterator" ∧ h.IsListIter it l k) ∨ (c = "tuple_iterator" ∧ h.IsTupleIter it l k)) (q : ∀ o, h.get? it = some o → h'.get? it = some o) : (c = "list_iterator" ∧ h'.IsListIter it l k) ∨ (c = "tuple_iterator" ∧ h'.IsTupleIter it l k) := by
  rcases a with ⟨e, o, a, r⟩ | ⟨e, o, a, r⟩
  · exact .inl ⟨e, o, q o a, r⟩
  · exact .inr ⟨e, o, q o a, r⟩
theorem it_obj {h : Heap} {c : String} {it l : Addr} {k : Nat} (a : (c = "list_iterator" ∧ h.IsListIter it l k) ∨ (c = "tuple_iterator" ∧ h.IsTupleIter it l k)) : ∃ o, h.get? it = some o ∧ ∀ v, o.data ≠ .cell v := by
  rcases a with ⟨_, o, e, _, d⟩ | ⟨_, o, e, _, d⟩ <;> exact ⟨o, e, fun v z => by rw [d] at z; cases z⟩
theorem turn_zip {P : Program} {w : World} {K : PySem.W.Frag} {es : List Expr} {tk : _} {tp : Pos} (z TI TO i1 i2 l1 l2 : Addr) (c1 c2 : String) (xs ys : List V) (D : ZipApart z TI TO i1 i2 l1 l2) :
    Turn P w K (.Tuple es tk tp) (Itz c1 c2 l1 l2 xs ys) [z, TI, TO, i1, i2] z (fun i h => Zt h z TI TO i1 i2 c1 c2 l1 l2 i) where
  mem := by simp
  obj := fun i h st b hb => by
    obtain ⟨hz, hti, ⟨a, c, hto⟩, h1, h2⟩ := st
    simp only [List.mem_cons, List.not_mem_nil, or_false] at hb
    rcases hb with rfl | rfl | rfl | rfl | rfl
    · exact ⟨_, hz, fun v q => by cases (show Data.fields _ = Data.cell v from q)⟩
    · exact ⟨_, hti, fun v q => by cases (show Data.seq _ _ = Data.cell v from q)⟩
    · exact ⟨_, hto, fun v q => by cases (show Data.seq _ _ = Data.cell v from q)⟩
    · exact it_obj h1
    · exact it_obj h2
  keep := fun i h h' st k => by
    obtain ⟨hz, hti, ⟨a, c, hto⟩, h1, h2⟩ := st
    exact ⟨k z (by simp) _ hz, k TI (by simp) _ hti, ⟨a, c, k TO (by simp) _ hto⟩, it_at h1 fun o e => k i1 (by simp) o e, it_at h2 fun o e => k i2 (by simp) o e⟩
  item := by
    intro X hP hw hK hc i pins s σ H E I hf st hg
    subst hP hw hK
    obtain ⟨q1, q2, hi1, hi2⟩ := hg
    obtain ⟨its1, r1, e1⟩ := I.seqOf q1
    obtain ⟨its2, r2, e2⟩ := I.seqOf q2
    obtain ⟨x, hx⟩ := getlen hi1
    obtain ⟨y, hy⟩ := getlen hi2
    obtain ⟨u, hu, ru⟩ := r1.get hx
    obtain ⟨v, hv, rv⟩ := r2.get hy
    obtain ⟨hz, hti, hto, h1, h2⟩ := id st
    refine zs_item D ⟨hz, hti, hto, src_of h1 e1, src_of h2 e2⟩ (by simpa using hu) (by simpa using hv) fun h' z' ti' to' s1' s2' new szn k => ?_
    have kk : ∀ c o, c ∉ [z, TI, TO, i1, i2] → s.heap.get? c = some o → h'.get? c = some o := fun c o hc e => k c o (fun q => hc (by simp only [List.mem_cons, List.not_mem_nil, or_false] at q ⊢; rcases q with q | q | q | q <;> simp [q])) e
    have lt : ∀ b ∈ [z, TI, TO, i1, i2], b < s.heap.objs.size := fun b hb => by
      have st' : Zt s.heap z TI TO i1 i2 c1 c2 l1 l2 i := st
      simp only [List.mem_cons, List.not_mem_nil, or_false] at hb
      rcases hb with rfl | rfl | rfl | rfl | rfl
      · exact Heap.lt_size hz
      · exact Heap.lt_size hti
      · obtain ⟨_, _, q⟩ := hto; exact Heap.lt_size q
      · obtain ⟨o, q, _⟩ := it_obj h1; exact Heap.lt_size q
      · obtain ⟨o, q, _⟩ := it_obj h2; exact Heap.lt_size q
    refine ⟨_, rfl, wpAny_letOwnedTupleGo_zip z' fun h'' z'' sb => ?_⟩
    have nT : s.heap.objs.size ∉ [z, TI, TO, i1, i2] := fun hb => Nat.lt_irrefl _ (lt _ hb)
    have nTz : s.heap.objs.size ≠ z := fun q => nT (by simp [q])
    have J := I.turnedT (fp := [z, TI, TO, i1, i2]) (h' := h'') (T := s.heap.objs.size) (xs := [x, y]) (us := [u, v]) (t' := s.toks) hf (fun c o hc e => sb.extBut _ _ (fun q => hc (by simp [q])) (kk c o hc e)) (Nat.le_refl _) (by show 2 ≤ sizeLine; decide) (.cons ru (.cons rv .nil))
      ⟨_, sb.extBut _ _ nTz new, rfl, _, rfl⟩ nT
    refine ⟨.ref s.heap.objs.size, _, J, rfl, ⟨_, x, y, rfl, I.hok.fresh (Nat.le_refl _), rfl, hx, hy⟩, ⟨z'', sb.extBut _ _ D.TIz ti', ⟨_, _, sb.extBut _ _ D.TOz to'⟩, it_at (of_src s1') fun o e => sb.extBut _ _ D.i1z e, it_at (of_src s2') fun o e => sb.extBut _ _ D.i2z e⟩, fun b hb => ?_⟩
    rw [upd_ne (Nat.ne_of_lt (lt b hb))]
    exact (hf b hb).1
  done := by
    intro X hP hw hK hc i pins s σ H E I hf st hg
    subst hP hw hK
    obtain ⟨q1, q2, hend⟩ := hg
    obtain ⟨its1, r1, e1⟩ := I.seqOf q1
    obtain ⟨its2, r2, e2⟩ := I.seqOf q2
    obtain ⟨hz, hti, hto, h1, h2⟩ := id st
    have l1' := r1.length
    have l2' := r2.length
    refine zs_end (I.ok.hd hc) D ⟨hz, hti, hto, src_of h1 e1, src_of h2 e2⟩ (hend.imp (fun q => by simp; omega) fun q => by simp; omega) fun h' k => ?_
    exact ⟨rfl, I.turnedN (fp := [z, TI, TO, i1, i2]) hf fun c o hc e => k c o (fun q => hc (by simp only [List.mem_cons, List.not_mem_nil, or_false] at q ⊢; rcases q with q | q | q | q <;> simp [q])) e⟩
  self := fun A i s Q E st h => wpAny_pyIter_zip st.zip h
end L2
end
section
set_option Elab.async false
set_option linter.all false
set_option maxRecDepth 100000
namespace L2
open PySem PySem.Spec PyProof.Rows
theorem bt_zip : bootBuiltins "zip" = some (.type "zip") := by decide +kernel
section
variable {X : Cx}
def iZip (ta : TA) : TI := fun σ H R => ta σ H fun vs H1 => ∃ a b c1 c2 xs ys, vs = [.ref a, .ref b] ∧ SqC H1 c1 a xs ∧ SqC H1 c2 b ys ∧ R (Itz c1 c2 a b xs ys) H1
theorem pi_zip {es : List Expr} {kk : _} {tp : Pos} {a b : Expr} {ta : TA} {p pos : Pos} (hg : Gl X "zip") (hm : X.mg "zip" = none) (ha : PA X [a, b] ta) (hs : starEach [a, b] X.env = [(false, eval a X.env), (false, eval b X.env)] := by rfl) (hs2 : starEach [b] X.env = [(false, eval b X.env)] := by rfl) :
    PI X (.Tuple es kk tp) (.Call (.Name "zip" p) [a, b] [] pos) (iZip ta) := by
  intro pins s σ H R I h
  refine Call_ (ld_blt I hg hm bt_zip (PyProof.Rows.callWith_type1 (thn (ha pos pins s σ H _ I h) fun us s1 ⟨vs, H1, I1, r1, q1⟩ => ?_) (by rw [hs, hs2]) (by rw [hs2]; rfl)))
  obtain ⟨l1, l2, c1, c2, xs, ys, e, k1, k2, q⟩ := q1
  subst e
  obtain ⟨u1, u2, rfl, e1, e2⟩ := r1.two
  cases e1
  cases e2
  obtain ⟨its1, v1, o1⟩ := I1.seqOf k1
  obtain ⟨its2, v2, o2⟩ := I1.seqOf k2
  have lt1 : (l1 : Nat) < (s1.heap.objs.size : Nat) := o1.lt
  have lt2 : (l2 : Nat) < (s1.heap.objs.size : Nat) := o2.lt
  refine call_zip o1 o2 fun h' Z sz old => wpAny_pyIter_zip Z.zip ?_
  have D : ZipApart (s1.heap.objs.size + 4) (s1.heap.objs.size + 2) (s1.heap.objs.size + 3) s1.heap.objs.size (s1.heap.objs.size + 1) l1 l2 := PySem.W.ktu_apart _ _ _ o1.lt o2.lt
  have J : Inv X pins σ H1 { s1 with heap := h' } := I1.kept (t' := s1.toks) old
  refine ⟨s1.heap.objs.size + 4, _, _, _, H1, rfl, J, turn_zip _ _ _ _ _ l1 l2 c1 c2 xs ys D, ⟨Z.zip, Z.ti, Z.to, of_src Z.s1, of_src Z.s2⟩, fun b hb => ?_, q⟩
  have hb' : s1.heap.objs.size ≤ b := by
    simp only [List.mem_cons, List.not_mem_nil, or_false] at hb
    rcases hb with rfl | rfl | rfl | rfl | rfl <;> omega
  exact I1.fpOk hb' (I1.hok.fresh hb')
theorem a_iZip {ta : TA} {σ : St} {H : Hp} {R : It → Hp → Prop} : iZip ta σ H R = ta σ H fun vs H1 => ∃ a b c1 c2 xs ys, vs = [.ref a, .ref b] ∧ SqC H1 c1 a xs ∧ SqC H1 c2 b ys ∧ R (Itz c1 c2 a b xs ys) H1 := rfl
end
theorem cl_zip {c1 c2 : String} {a b : Addr} {xs ys : List V} {g : TG} {tc : TT} {tb : TB} {D : St → Hp → Prop} {σ : St} {H : Hp} (Pv : Nat → St → Hp → Prop) (h0 : Pv 0 σ H) (hl : ∀ i σ H, Pv i σ H → SqC H c1 a xs ∧ SqC H c2 b ys)
    (hs : ∀ (i : Nat) u v (T : Addr) σ H H', xs[i]? = some u → ys[i]? = some v → Pv i σ H → H T = none → Same H H' → H' T = some (.tup [u, v]) → g (.ref T) σ H' fun σ2 H2 => tc σ2 H2 fun b H3 => if b = true then tb σ2 H3 (Pv (i + 1)) else Pv (i + 1) σ2 H3)
    (hd : ∀ σ H, Pv (min xs.length ys.length) σ H → D σ H) : tCL (Itz c1 c2 a b xs ys) g tc tb D σ H := by
  refine ⟨fun i m σ H => m = min xs.length ys.length - i ∧ i ≤ min xs.length ys.length ∧ Pv i σ H, ⟨min xs.length ys.length, by simp, Nat.zero_le _, h0⟩, ?_⟩
  rintro i m σ H ⟨rfl, hi, p⟩
  obtain ⟨q1, q2⟩ := hl i σ H p
  by_cases hlt : i < min xs.length ys.length
  · refine .inr ⟨⟨q1, q2, by omega, by omega⟩, Pv (i + 1), fun σ' H' p' => ⟨min xs.length ys.length - (i + 1), by omega, rfl, hlt, p'⟩, fun x H' y => ?_⟩
    obtain ⟨T, u, v, rfl, n, rfl, e1, e2⟩ := y
    exact hs i u v T σ H _ e1 e2 p n (same_upd n) upd_same
  · have e : i = min xs.length ys.length := by omega
    subst e
    exact .inl ⟨⟨q1, q2, by omega⟩, hd σ H p⟩
section
variable {X : Cx}
def tSortR (ta : TA) (tk : TA) : TE := fun σ H Q => ta σ H fun vs H1 => tk σ H1 fun zs H2 => ∃ (p : Addr) (ns : List Int) (b : Bool), vs = [.ref p] ∧ zs = [.bl b] ∧ H2 p = some (.lst (ns.map V.int)) ∧ ns.length < 64 ∧
  ∀ (l : Addr) (ms : List Int), H2 l = none → ms.Perm ns → Ordered b ms → Q (.ref l) (upd H2 l (.lst (ms.map V.int)))
theorem a_tSortR {ta tk : TA} {σ : St} {H : Hp} {Q : VK} : tSortR ta tk σ H Q = ta σ H fun vs H1 => tk σ H1 fun zs H2 => ∃ (p : Addr) (ns : List Int) (b : Bool), vs = [.ref p] ∧ zs = [.bl b] ∧ H2 p = some (.lst (ns.map V.int)) ∧ ns.length < 64 ∧
  ∀ (l : Addr) (ms : List Int), H2 l = none → ms.Perm ns → Ordered b ms → Q (.ref l) (upd H2 l (.lst (ms.map V.int))) := rfl
def rSlL0 : V → Option Int → Option Int → Hp → VK → Prop := fun x lo hi H Q => ∃ a xs, x = .ref a ∧ H a = some (.lst xs) ∧ ∀ p, H p = none → Q (.ref p) (upd H p (.lst (cutV xs lo hi)))
theorem a_tSl {r : V → Option Int → Option Int → Hp → VK → Prop} {te : TE} {tl th : TO} {σ : St} {H : Hp} {Q : VK} : tSl r te tl th σ H Q = te σ H fun x H1 => tl σ H1 fun l H2 => th σ H2 fun u H3 => r x l u H3 Q := rfl
theorem a_rSlL0 {x : V} {lo hi : Option Int} {H : Hp} {Q : VK} : rSlL0 x lo hi H Q = ∃ a xs, x = .ref a ∧ H a = some (.lst xs) ∧ ∀ p, H p = none → Q (.ref p) (upd H p (.lst (cutV xs lo hi))) := rfl
theorem a_tNoPart {σ : St} {H : Hp} {q : Option Int → Hp → Prop} : tNoPart σ H q = q none H := rfl
theorem a_tPart {t : TE} {σ : St} {H : Hp} {q : Option Int → Hp → Prop} : tPart t σ H q = t σ H fun x H1 => ∃ i, x = .int i ∧ q (some i) H1 := rfl
def tApp (to : TE) (t : TA) : TE := fun σ H Q => to σ H fun x H1 => ∃ l xs0, x = .ref l ∧ H1 l = some (.lst xs0) ∧ t σ H1 fun vs H2 => ∃ xs y, vs = [y] ∧ H2 l = some (.lst xs) ∧ xs.length < sizeLine ∧ Q .non (upd H2 l (.lst (xs ++ [y])))
theorem a_tApp {to : TE} {t : TA} {σ : St} {H : Hp} {Q : VK} : tApp to t σ H Q = to σ H fun x H1 => ∃ l xs0, x = .ref l ∧ H1 l = some (.lst xs0) ∧ t σ H1 fun vs H2 => ∃ xs y, vs = [y] ∧ H2 l = some (.lst xs) ∧ xs.length < sizeLine ∧ Q .non (upd H2 l (.lst (xs ++ [y]))) := rfl
end
end L2
end
section
set_option Elab.async false
set_option linter.all false
set_option maxRecDepth 100000
namespace L2
open PySem PySem.Spec PyProof.Rows
section
variable {X : Cx}
def insV (xs : List V) (i : Nat) (y : V) : List V := xs.take i ++ y :: xs.drop i
theorem insV_len (xs : List V) (i : Nat) (y : V) : (insV xs i y).length = xs.length + 1 := by
  unfold insV
  rw [List.length_append, List.length_cons, List.length_take, List.length_drop]
  omega
def rIns : V → List V → Hp → VK → Prop := fun x vs H Q => ∃ l xs y, ∃ i : Nat, x = .ref l ∧ vs = [.int (i : Int), y] ∧ H l = some (.lst xs) ∧ i ≤ xs.length ∧ xs.length < sizeLine ∧ Q .non (upd H l (.lst (insV xs i y)))
theorem ins_arr (its : List Value) (i : Nat) (u : Value) (hi : i ≤ its.length) :
    (fun xs : Array Value => have k := if ((i : Int)) < 0 then ((i : Int) + ((xs.size : Nat) : Int)).toNat else min (i : Int).toNat xs.size; (xs.extract 0 k).push u ++ xs.extract k) its.toArray = (its.take i ++ u :: its.drop i).toArray := by
  have e : (if ((i : Int)) < 0 then ((i : Int) + ((its.toArray.size : Nat) : Int)).toNat else min (i : Int).toNat its.toArray.size) = i := by
    rw [if_neg (by omega), Int.toNat_natCast, List.size_toArray]
    omega
  show (its.toArray.extract 0 (if ((i : Int)) < 0 then ((i : Int) + ((its.toArray.size : Nat) : Int)).toNat else min (i : Int).toNat its.toArray.size)).push u ++ its.toArray.extract (if ((i : Int)) < 0 then ((i : Int) + ((its.toArray.size : Nat) : Int)).toNat else min (i : Int).toNat its.toArray.size) = _
  rw [e]
  apply Array.toList_inj.mp
  simp
  rw [List.take_of_length_le]
  rw [List.length_drop]
  omega
theorem mt_ins : MtM X "list.insert" rIns := by
  intro pins s σ H x vs v us Q I rx rv h
  obtain ⟨l, xs, y, i, rfl, rfl, hH, hi, hz, q⟩ := h
  cases rx
  obtain ⟨a, b, rfl, ra, rb⟩ := rv.two
  obtain ⟨t, rfl⟩ := ra
  obtain ⟨z, its, n, r, hl, e⟩ := I.lstM hH
  have hlt : (i : Int) < 2 ^ 63 := by
    have : (sizeLine : Nat) < 2 ^ 62 := by rw [sizeLine_eq]; decide
    omega
  have h0 : -2 ^ 63 ≤ (i : Int) := by
    have : (0 : Int) ≤ i := Int.natCast_nonneg i
    omega
  have hfit : Builtin.List.listFitsIndex (i : Int) = true := fitsIndex_both h0 hlt
  have ia := ins_arr its i b (by omega)
  generalize (i : Int) = x at hfit ia ⊢
  have hf : ¬ (!Builtin.List.listFitsIndex x) = true := by rw [hfit]; exact Bool.false_ne_true
  refine call_meets F.slot_list_insert ⟨_, e, rfl⟩ F.entry_list_insert (F.args_list_insert_3 _ _ _) (AutoSeq1.list_insert_list_int_val_1 l its.toArray n x t b hf (by rw [List.size_toArray]; omega)) ⟨e, ?_⟩
  refine ⟨.non, _, I.lset (its' := its.take i ++ b :: its.drop i) (ys := insV xs i y) hH e ia ((r.take i).append (.cons rb (r.drop i))) ?_, rfl, q⟩
  rw [insV_len]
  omega
def tIns (to : TE) (t : TA) : TE := fun σ H Q => to σ H fun x H1 => ∃ l xs0, x = .ref l ∧ H1 l = some (.lst xs0) ∧ t σ H1 fun vs H2 => ∃ xs y, ∃ i : Nat, vs = [.int (i : Int), y] ∧ H2 l = some (.lst xs) ∧ i ≤ xs.length ∧ xs.length < sizeLine ∧ Q .non (upd H2 l (.lst (insV xs i y)))
theorem pe_insert {o e e' : Expr} {to : TE} {t : TA} {apos cpos : Pos} (ho : PE X o to) (ha : PA X [e, e'] t) (hbase : attributeBase o "insert" X.env (eval o X.env) = eval o X.env := by rfl)
    (hfew : ((backTo cpos (starEach [e, e'] X.env)).all (fun x => !x.1) && (backToKw cpos (keywordEach [] X.env)).all (fun x => x.1.isSome) && decide ([e, e'].length + ([] : List Keyword).length + (if ([] : List Keyword).isEmpty then 0 else 1) < 30)) = true := by rfl)
    (hline : (apos.endLine == cpos.line) = true := by rfl) (hs : starEach [e, e'] X.env = (false, eval e X.env) :: starEach [e'] X.env := by rfl) (hp : (backTo cpos (starEach [e'] X.env)).any (·.1) = false := by rfl) : PE X (.Call (.Attribute o "insert" apos) [e, e'] [] cpos) (tIns to t) := by
  intro pins s σ H Q I h
  refine wpAny_Call_method_late hbase hfew hline rfl (thn (ho pins s σ H _ I h) fun v s1 ⟨x, H1, I1, r1, q1⟩ => ?_)
  obtain ⟨l, xs0, rfl, hl, q1⟩ := q1
  have ty : tyV X.K "list" (.ref l) H1 := .inl ⟨rfl, _, SqL.of hl⟩
  obtain ⟨h1, h2⟩ := tyV_is I1 r1 ty
  refine ⟨"list", "list.insert", PySem.F.plainAttrs_list, PySem.F.slot_list_insert, PySem.F.type_list_insert, h1, h2, ?_⟩
  have hA := ha cpos pins s1 σ H1 _ I1 q1
  rw [hs] at hA ⊢
  refine Calls.callWith_builtin (by show (false || (backTo cpos (starEach [e'] X.env)).any (·.1)) = false; rw [hp]; rfl) (Calls.evalArgs_plain ?_)
  exact thn hA fun us s2 ⟨vs, H2, I2, r2, xs, y, i, e, k, hi, z, q⟩ => mt_ins pins s2 σ H2 (.ref l) vs v us Q I2 r1 r2 ⟨l, xs, y, i, rfl, e, k, hi, z, q⟩
theorem a_tIns {to : TE} {t : TA} {σ : St} {H : Hp} {Q : VK} : tIns to t σ H Q = to σ H fun x H1 => ∃ l xs0, x = .ref l ∧ H1 l = some (.lst xs0) ∧ t σ H1 fun vs H2 => ∃ xs y, ∃ i : Nat, vs = [.int (i : Int), y] ∧ H2 l = some (.lst xs) ∧ i ≤ xs.length ∧ xs.length < sizeLine ∧ Q .non (upd H2 l (.lst (insV xs i y))) := rfl
theorem max_gen (hc : X.calm = true) {pins : List (Addr × Obj)} {σ : St} {H : Hp} {s : Shared} {p : Addr} {ns : List Int} {Q : VK} (I : Inv X pins σ H s) (hq : sq H p = some (ns.map V.int)) (hne : ns ≠ [])
    (q : ∀ m, m ∈ ns → (∀ x ∈ ns, x ≤ m) → Q (.int m) H) : wpAny (model X.prog X.w) X.A (call (.builtin "max") [.ref p]) (EP X pins σ Q) X.xe s := by
  have hp : 0 < ns.length := List.length_pos_iff.mpr hne
  refine call_max_walk (I.walk hc hq fun it its s2 St fp rv W st hfp hsz J => ?_)
  have hl := rv.length
  rw [List.length_map] at hl
  refine ⟨it, fp, [it], its.length, _, St, _, rfl, W, st, hfp, by omega, CmpOf.ints_gt (fun i => ns.getD i 0) fun i v hv => vals_int_get rv hv, fun v h' tk hv k => ?_⟩
  obtain ⟨a1, a2⟩ := argBest_gt (fun i => ns.getD i 0) (its.length - 1)
  obtain ⟨t, rfl⟩ := vals_int_get rv hv
  generalize argBest (fun i j => decide (ns.getD i 0 > ns.getD j 0)) (its.length - 1) = j at a1 a2 hv ⊢
  have hj : j < ns.length := by omega
  have e : ns.getD j 0 = ns[j] := by simp [List.getD_eq_getElem?_getD, hj]
  refine ⟨.int ns[j], H, J h' tk k, ⟨t, by rw [e]⟩, q _ (List.getElem_mem hj) fun x hx => ?_⟩
  obtain ⟨i, hi, rfl⟩ := List.mem_iff_getElem.mp hx
  have := a2 i (by omega)
  simp only [List.getD_eq_getElem?_getD, List.getElem?_eq_getElem hi, List.getElem?_eq_getElem hj, Option.getD_some] at this
  exact this
theorem max0 (hc : X.calm = true) : CallR X (.builtin "max") (fun xs H Q => ∃ (p : Addr) (ns : List Int), xs = [.ref p] ∧ sq H p = some (ns.map V.int) ∧ ns ≠ [] ∧ ∀ m, m ∈ ns → (∀ x ∈ ns, x ≤ m) → Q (.int m) H) := by
  intro pins s σ H xs us Q I r h
  obtain ⟨p, ns, rfl, hq, hne, q⟩ := h
  obtain ⟨u, rfl, ru⟩ := r.one
  cases ru
  exact max_gen hc I hq hne q
def rCatA : R2 := fun x y H Q => ∃ a b xs ys, x = .ref a ∧ y = .ref b ∧ H a = some (.tup xs) ∧ H b = some (.tup ys) ∧ xs.length + ys.length ≤ sizeLine ∧ ∀ (p : Addr) (H' : Hp), Same H H' → H' p = some (.tup (xs ++ ys)) → Q (.ref p) H'
theorem a_rCatA {x y : V} {H : Hp} {Q : VK} : rCatA x y H Q = ∃ a b xs ys, x = .ref a ∧ y = .ref b ∧ H a = some (.tup xs) ∧ H b = some (.tup ys) ∧ xs.length + ys.length ≤ sizeLine ∧ ∀ (p : Addr) (H' : Hp), Same H H' → H' p = some (.tup (xs ++ ys)) → Q (.ref p) H' := rfl
def rCatL : R2 := fun x y H Q => ∃ l b xs zs, x = .ref l ∧ y = .ref b ∧ H l = some (.lst xs) ∧ H b = some (.lst zs) ∧ xs.length + zs.length ≤ sizeLine ∧ ∀ (p : Addr) (H' : Hp), H p = none → Same H H' → H' p = some (.lst (xs ++ zs)) → Q (.ref p) H'
theorem a_rCatL {x y : V} {H : Hp} {Q : VK} : rCatL x y H Q = ∃ l b xs zs, x = .ref l ∧ y = .ref b ∧ H l = some (.lst xs) ∧ H b = some (.lst zs) ∧ xs.length + zs.length ≤ sizeLine ∧ ∀ (p : Addr) (H' : Hp), H p = none → Same H H' → H' p = some (.lst (xs ++ zs)) → Q (.ref p) H' := rfl
end
end L2
end
section
set_option Elab.async false
set_option linter.all false
set_option maxRecDepth 100000
namespace L2
open PySem PySem.Spec PyProof.Rows
section
variable {prog : Program} {w : World} {A : Around} {E : Value → Shared → Prop} {s : Shared}
theorem rev_pick (xs : Array Value) : ((List.range xs.size).filterMap fun (k : Nat) => xs[(((xs.size : Int) - 1) + (k : Int) * (-1)).toNat]?) = xs.toList.reverse := by
  have e : ∀ k ∈ List.range xs.size, xs[(((xs.size : Int) - 1) + (k : Int) * (-1)).toNat]? = xs[xs.size - 1 - k]? := fun k hk => by
    have := List.mem_range.mp hk
    congr 1
    omega
  have cg : ∀ (l : List Nat), (∀ k ∈ l, k < xs.size) → l.filterMap (fun (k : Nat) => xs[(((xs.size : Int) - 1) + (k : Int) * (-1)).toNat]?) = l.filterMap fun k => xs[xs.size - 1 - k]? := fun l => by
    induction l with
    | nil => intro _; rfl
    | cons a r ih =>
      intro hl
      rw [List.filterMap_cons, List.filterMap_cons, e a (List.mem_range.mpr (hl a List.mem_cons_self)), ih fun k hk => hl k (List.mem_cons_of_mem _ hk)]
  rw [cg _ fun k hk => List.mem_range.mp hk]
  have e2 : (fun k => xs[xs.size - 1 - k]?) = (fun x => xs[x]?) ∘ fun k => xs.size - 1 - k := rfl
  rw [e2, ← List.filterMap_map, PySem.W.krv_range, List.filterMap_reverse, PySem.W.krv_all]
theorem tup_rev {t sl : Addr} {items : Array Value} {tk : Tok} {Q : Value → Shared → Prop} (ht : IsTup s.heap t items) (hs : s.heap.IsSliceOf sl .none .none (.int (-1) tk))
    (h : Q (.ref s.heap.objs.size) { s with heap := s.heap.push { cls := .type "tuple", data := .seq items.toList.reverse.toArray } }) (hsz : items.size ≤ sizeLine) : wpAny (model prog w) A (getItem (.ref t) (.ref sl)) Q E s := by
  have fits : sizeOk (.seq items.toList.reverse.toArray) := by
    show items.toList.reverse.toArray.size ≤ sizeLine
    rw [List.size_toArray, List.length_reverse, Array.length_toList]
    exact hsz
  obtain ⟨os, hos, hcs, hds⟩ := id hs
  have kind : s.TypeIs (.ref sl) "slice" := ⟨os, hos, hcs⟩
  unfold getItem
  try with_reducible refine wpAny_holding ?_
  first | refine wpAny_bind (wpAny_pure ?_) | skip
  refine wpAny_bind (wpAny_sequenceKey ht.typeIs (by decide) ?_)
  refine wpAny_bind (wpAny_callSpecial?_slot (name := Str.ofString "__getitem__") ht.typeIs slot_tuple_getitem (wpAny_call_entry slot_tuple_getitem ht.typeIs entry_tuple_getitem ?_ (args_tuple_getitem _ _)))
  show wpAny _ _ (Builtin.Tuple.tupleItemsOf (.ref t) >>= _) _ _ s
  refine wpAny_bind (tupleItemsOf_ ht (wpAny_bind (wpAny_typeOf kind ?_)))
  rw [if_pos (by decide)]
  refine wpAny_bind ?_
  unfold Builtin.Slice.sliceApplied Builtin.Slice.sliceFields
  refine wpAny_bind (wpAny_bind (wpAny_field hos hds (x := .none) rfl (wpAny_bind (wpAny_field hos hds (x := .none) rfl (wpAny_bind (wpAny_field hos hds (x := .int (-1) tk) rfl (wpAny_pure ?_)))))))
  refine wpAny_bind (slicePart_int ?_)
  show wpAny _ _ (if ((-1 : Int) == 0) = true then _ else _) _ _ s
  rw [if_neg (by decide)]
  refine wpAny_bind (slicePart_none (wpAny_bind (slicePart_none (wpAny_bind (wpAny_pure ?_)))))
  have adj : Builtin.Slice.sliceAdjust none none (-1) (items.size : Int) = ((items.size : Int) - 1, -1) := rfl
  have plc : Builtin.Slice.slicePlaces ((items.size : Int) - 1) (-1) (-1) = items.size := by
    unfold Builtin.Slice.slicePlaces
    rw [if_neg (by decide)]
    split
    · rw [show (- -1 : Int) = 1 by decide, Int.ediv_one]; omega
    · omega
  show wpAny _ _ (match Builtin.Slice.sliceAdjust none none (-1) (items.size : Int) with | (lo, hi) => pure (lo, (-1 : Int), Builtin.Slice.slicePlaces lo hi (-1))) _ _ s
  rw [adj]
  show wpAny _ _ (pure (((items.size : Int) - 1), (-1 : Int), Builtin.Slice.slicePlaces ((items.size : Int) - 1) (-1) (-1))) _ _ s
  rw [plc]
  refine wpAny_pure ?_
  show wpAny _ _ (if ((((items.size : Int) - 1) == 0 && (-1 : Int) == 1 && items.size == items.size) = true) then _ else _) _ _ s
  rw [if_neg (by simp), rev_pick]
  first
    | exact wpAny_bind (m := Builtin.Tuple.tupleExact _) (wpAny_newObj_type (wpAny_pure ⟨_, rfl, wpAny_pure h⟩) fits)
    | exact wpAny_bind (wpAny_bind (m := Builtin.Tuple.tupleExact _) (wpAny_newObj_type (wpAny_pure ⟨_, rfl, wpAny_pure h⟩) fits))
end
section
variable {X : Cx}
def rSlA : V → Option Int → Option Int → Hp → VK → Prop := fun x lo hi H Q => ∃ a xs, x = .ref a ∧ H a = some (.tup xs) ∧ ∀ (p : Addr) (H' : Hp), Same H H' → H' p = some (.tup (cutV xs lo hi)) → Q (.ref p) H'
theorem a_rSlA {x : V} {lo hi : Option Int} {H : Hp} {Q : VK} : rSlA x lo hi H Q = ∃ a xs, x = .ref a ∧ H a = some (.tup xs) ∧ ∀ (p : Addr) (H' : Hp), Same H H' → H' p = some (.tup (cutV xs lo hi)) → Q (.ref p) H' := rfl
def tRev (te : TE) : TE := fun σ H Q => te σ H fun x H1 => ∃ a xs, x = .ref a ∧ H1 a = some (.tup xs) ∧ ∀ (p : Addr) (H' : Hp), H1 p = none → Same H1 H' → H' p = some (.tup xs.reverse) → Q (.ref p) H'
theorem pe_rev {e m : Expr} {te tm : TE} {pos p2 : Pos} (he : PE X e te) (hm : PE X m tm) (hv : ∀ σ H (Q : VK), Q (.int (-1)) H → tm σ H Q) : PE X (.Subscript e (.Slice none none (some m) p2) pos) (tRev te) := by
  intro pins s σ H Q I h
  refine Subscript_ (thn (he pins s σ H _ I h) fun v s1 ⟨x, H1, I1, r1, q1⟩ => ?_)
  refine wpAny_Slice ?_
  rw [evalPart_none]
  refine wpAny_pure (wpAny_pure ?_)
  rw [evalPart_some]
  refine thn (hm pins s1 σ H1 (fun x H2 => x = .int (-1) ∧ H2 = H1) I1 (hv _ _ _ ⟨rfl, rfl⟩)) fun vu s3 ⟨y, H3, I3, r3, e3, e4⟩ => ?_
  subst e3 e4
  obtain ⟨tk, rfl⟩ := r3
  obtain ⟨a, xs, rfl, hx, q⟩ := q1
  cases r1
  have I4 : Inv X pins σ H3 { s3 with heap := s3.heap.push { cls := .type "slice", data := .fields #[.none, .none, .int (-1) tk] } } := I3.kept (t' := s3.toks) fun b ob q => Heap.get?_push_of_some _ q
  obtain ⟨its, r, ht, hz⟩ := I4.tuple (SqT.of hx)
  have hlen : its.toArray.size = xs.length := by rw [List.size_toArray]; exact r.length.symm
  show wpAny (model X.prog X.w) X.A (subscriptTail e (.Slice none none (some m) p2) (.ref a) (.ref s3.heap.objs.size)) (EP X pins σ Q) X.xe { s3 with heap := s3.heap.push { cls := .type "slice", data := .fields #[.none, .none, .int (-1) tk] } }
  refine tail_any (ops := [.ref a, .ref s3.heap.objs.size]) ht.typeIs slot_tuple_getitem.lookup (tup_rev ht (Heap.IsSliceOf.new ..) ?_ (by rw [hlen]; exact hz)) (by with_unfolding_all rfl)
  have hf := I4.hok.fresh (Nat.le_refl _)
  refine ⟨.ref _, _, I4.laid (t' := s3.toks) (o := .tup xs.reverse) (fun b ob q => Heap.get?_push_of_some _ q) (Nat.le_refl _) ?_, rfl, q _ _ hf (same_upd hf) upd_same⟩
  exact ⟨by rw [List.length_reverse]; exact hz, _, r.reverse, IsTup.new _ _⟩
theorem a_tRev {te : TE} {σ : St} {H : Hp} {Q : VK} : tRev te σ H Q = te σ H fun x H1 => ∃ a xs, x = .ref a ∧ H1 a = some (.tup xs) ∧ ∀ (p : Addr) (H' : Hp), H1 p = none → Same H1 H' → H' p = some (.tup xs.reverse) → Q (.ref p) H' := rfl
end
end L2
end
section
set_option Elab.async false
set_option linter.all false
set_option maxRecDepth 100000
namespace L2
open PySem PySem.Spec PyProof.Rows
theorem range_drop {n i : Nat} (h : i < n) : (List.range n).drop i = i :: (List.range n).drop (i + 1) := by simp [List.drop_eq_getElem_cons, h]
theorem tuple_neAt (l b : Addr) (items items2 : Array Value) (n n2 : Nat) (dd dd2 : Option Addr) (sl sl2 : Array (Option Value)) (e : Nat → Bool) :
    Meets (Builtin.«tuple.__ne__» ⟨[.ref l, .ref b], []⟩) (fun A R s => s.heap.get? l = some { cls := .type "tuple", dict := dd, data := .seq items n, slots := sl } ∧ s.heap.get? b = some { cls := .type "tuple", dict := dd2, data := .seq items2 n2, slots := sl2 } ∧
        (∀ j (h1 : j < items.size) (h2 : j < items2.size), SeqAt.EqAt A.in1 s items[j] items2[j] (e j)) ∧ R (.ok (.ret (.bool (!((List.range (min items.size items2.size)).all e && items.size == items2.size))))) s) :=
  .of_wp fun prog w A R s h => by
    obtain ⟨hp, g, d, tk, os⟩ := s; obtain ⟨hl, hb, he, h⟩ := h
    have f2 := AutoSeq1.sub_tuple_tuple
    have zl : (items.toList.zip items2.toList).length = min items.size items2.size := by simp
    wp_walk using wpAny_loadPart' hl, wpAny_loadPart' hb, wpAny_forIn_list _ (fun rest b s' => b.1 = none ∧ s' = ⟨hp, g, d, tk, os⟩ ∧ ∃ i, rest = (items.toList.zip items2.toList).drop i ∧ R (.ok (.ret (.bool (!(((List.range (min items.size items2.size)).drop i).all e && items.size == items2.size))))) ⟨hp, g, d, tk, os⟩) _
    case turn =>
      rintro ⟨y, x⟩ rest b s' ⟨hb', rfl, i, hz, hR⟩
      have lt : i < (items.toList.zip items2.toList).length := by
        rcases Nat.lt_or_ge i (items.toList.zip items2.toList).length with q | q
        · exact q
        · rw [List.drop_of_length_le q] at hz; cases hz
      have lm : i < min items.size items2.size := zl ▸ lt
      have l1 : i < items.size := by omega
      have l2 : i < items2.size := by omega
      rw [List.drop_eq_getElem_cons lt] at hz
      injection hz with z1 z2
      have hy : y = items[i] := by have := congrArg Prod.fst z1; simpa using this
      have hx : x = items2[i] := by have := congrArg Prod.snd z1; simpa using this
      subst hy hx
      have dr := range_drop lm
      refine wpAny_bind (he i l1 l2 prog w _ _ ?_)
      cases hc : e i with
      | true =>
        rw [dr, List.all_cons, hc, Bool.true_and] at hR
        exact wpAny_pure ⟨rfl, rfl, i + 1, z2, hR⟩
      | false =>
        rw [dr, List.all_cons, hc, Bool.false_and, Bool.false_and, Bool.not_false] at hR
        wp_walk
        exact ⟨_, rfl, hR⟩
    case fin =>
      rintro ⟨b1, b2⟩ s' ⟨hb', rfl, i, hz, hR⟩
      cases (show b1 = none from hb')
      have ge : min items.size items2.size ≤ i := by
        rcases Nat.lt_or_ge i (items.toList.zip items2.toList).length with q | q
        · rw [List.drop_eq_getElem_cons q] at hz; cases hz
        · exact zl ▸ q
      rw [List.drop_of_length_le (by simpa using ge), List.all_nil, Bool.true_and] at hR
      wp_walk
      exact ⟨_, rfl, hR⟩
    case h => exact ⟨rfl, rfl, 0, rfl, by rw [List.drop_zero]; exact h⟩
theorem ints_all : ∀ (ns ms : List Int), ((List.range (min ns.length ms.length)).all (fun j => decide (ns.getD j 0 = ms.getD j 0)) && ns.length == ms.length) = decide (ns = ms) := fun ns ms => by
  rw [Bool.eq_iff_iff, Bool.and_eq_true, List.all_eq_true, decide_eq_true_eq, beq_iff_eq]
  constructor
  · rintro ⟨h1, h2⟩
    apply List.ext_getElem h2
    intro i q1 q2
    have := h1 i (List.mem_range.mpr (by omega))
    simpa [List.getD_eq_getElem?_getD, q1, q2] using this
  · rintro rfl
    exact ⟨fun j _ => by simp, rfl⟩
section
variable {X : Cx}
theorem tup_eqs {pins : List (Addr × Obj)} {σ : St} {H : Hp} {s : Shared} {a b : Addr} {ns ms : List Int} (I : Inv X pins σ H s) (ha : H a = some (.tup (ns.map V.int))) (hb : H b = some (.tup (ms.map V.int))) :
    ∃ its its2 : List Value, IsTup s.heap a its.toArray ∧ IsTup s.heap b its2.toArray ∧ its.length = ns.length ∧ its2.length = ms.length ∧ ∀ (A : Around) (j : Nat) (h1 : j < its.toArray.size) (h2 : j < its2.toArray.size), SeqAt.EqAt A s its.toArray[j] its2.toArray[j] (decide (ns.getD j 0 = ms.getD j 0)) := by
  obtain ⟨its, r1, p1, _⟩ := I.tuple (SqT.of ha)
  obtain ⟨its2, r2, p2, _⟩ := I.tuple (SqT.of hb)
  have l1 := r1.length
  have l2 := r2.length
  rw [List.length_map] at l1 l2
  refine ⟨its, its2, p1, p2, l1.symm, l2.symm, fun A j h1 h2 => ?_⟩
  have h1' : j < its.length := by simpa using h1
  have h2' : j < its2.length := by simpa using h2
  obtain ⟨t, e1⟩ := vals_int_get r1 (i := j) (v := its[j]) (by simp [h1'])
  obtain ⟨u, e2⟩ := vals_int_get r2 (i := j) (v := its2[j]) (by simp [h2'])
  have key : SeqAt.EqAt A s its[j] its2[j] (eqV (.int (ns.getD j 0)) (.int (ms.getD j 0))) := eqAt_V ⟨t, e1⟩ ⟨u, e2⟩ rfl rfl
  have e : eqV (.int (ns.getD j 0)) (.int (ms.getD j 0)) = decide (ns.getD j 0 = ms.getD j 0) := by
    show (ns.getD j 0 == ms.getD j 0) = _
    rfl
  rw [e] at key
  simpa using key
def rEqT (neg : Bool) : R2 := fun x y H Q => ∃ (a b : Addr) (ns ms : List Int), x = .ref a ∧ y = .ref b ∧ H a = some (.tup (ns.map V.int)) ∧ H b = some (.tup (ms.map V.int)) ∧ Q (.bl (if neg then !decide (ns = ms) else decide (ns = ms))) H
theorem neT0 (hu : X.A.units < cLine) : OpR X (compareOp .NotEq) (rEqT true) := by
  intro pins s σ H x y v u Q I rx ry h
  obtain ⟨a, b, ns, ms, rfl, rfl, ha, hb, q⟩ := h
  cases rx
  cases ry
  obtain ⟨its, its2, p1, p2, l1, l2, he⟩ := tup_eqs I ha hb
  obtain ⟨⟨c1, d1, da1, sl1⟩, o1, k1, n1, g1⟩ := id p1
  obtain ⟨⟨c2, d2, da2, sl2⟩, o2, k2, n2, g2⟩ := id p2
  simp only at k1 g1 k2 g2
  subst k1 g1 k2 g2
  refine richCompare_meets_room (op := .NotEq) ⟨_, o1, rfl⟩ ⟨_, o2, rfl⟩ F.slot_tuple_ne F.entry_tuple_ne (F.args_tuple_ne_2 _ _) (tuple_neAt a b its.toArray its2.toArray n1 n2 d1 d2 sl1 sl2 fun j => decide (ns.getD j 0 = ms.getD j 0)) ⟨o1, o2, fun j h1 h2 => he _ j h1 h2, ?_⟩ hu
  refine ⟨(fun z => nomatch z), ⟨.bl (!decide (ns = ms)), H, I, ?_, q⟩⟩
  rw [List.size_toArray, List.size_toArray, l1, l2, ints_all]
  rfl
theorem a_rEqT {neg : Bool} {x y : V} {H : Hp} {Q : VK} : rEqT neg x y H Q = ∃ (a b : Addr) (ns ms : List Int), x = .ref a ∧ y = .ref b ∧ H a = some (.tup (ns.map V.int)) ∧ H b = some (.tup (ms.map V.int)) ∧ Q (.bl (if neg then !decide (ns = ms) else decide (ns = ms))) H := rfl
end
end L2
end
section
set_option Elab.async false
set_option linter.all false
set_option maxRecDepth 100000
namespace L2
open PySem PySem.Spec PyProof.Rows
theorem rmul_tup (a : Int) (t : Tok) (l : Addr) (items : Array Value) (n : Nat) (dd : Option Addr) (sl : Array (Option Value)) :
    Meets (Builtin.«int.__rmul__» ⟨[.int a t, .ref l], []⟩) (fun _ R s => s.heap.get? l = some { cls := .type "tuple", dict := dd, data := .seq items n, slots := sl } ∧ R (.ok (.ret Value.notImplemented)) s) :=
  .of_wp fun prog w A R s h => by
    obtain ⟨hp, g, d, tk, os⟩ := s
    obtain ⟨hl, h⟩ := h
    wp_walk
    exact ⟨_, rfl, h⟩
theorem noFill_tup_mul : fillsNumberSlot (.type "tuple") "mul" = pure false :=
  PySem.fillsNumberSlot_seq (id := "tuple.__mul__") (r := some (.builtin "tuple.__rmul__")) F.slot_tuple_mul.lookup (by decide +kernel) F.slot_tuple_rmul.lookup (by decide +kernel)
theorem repeat_tup : seqRepeat? (.type "tuple") = pure (some (.builtin "tuple.__mul__")) := by
  unfold seqRepeat?
  rw [PySem.seqSlot_of (T := "tuple") (name := "__mul__") (id := "tuple.__mul__") F.slot_tuple_mul.lookup (by decide +kernel), PySem.seqSlot_of (T := "tuple") (name := "__rmul__") (id := "tuple.__rmul__") F.slot_tuple_rmul.lookup (by decide +kernel)]
  rfl
theorem mul_one (t : Addr) (items : Array Value) (n : Nat) (dd : Option Addr) (sl : Array (Option Value)) (k : Int) (u : Tok) (h1 : ¬ (decide (k < -(2 ^ 63)) || decide (k ≥ 2 ^ 63)) = true) (hc : (items.isEmpty || k == 1) = true) :
    Meets (Builtin.«tuple.__mul__» ⟨[.ref t, .int k u], []⟩) (fun _ R s => s.heap.get? t = some { cls := .type "tuple", dict := dd, data := .seq items n, slots := sl } ∧ R (.ok (.ret (.ref t))) s) :=
  .of_wp fun prog w A R s h => by
    obtain ⟨hp, g, d, tk, os⟩ := s
    obtain ⟨hl, h⟩ := h
    wp_walk
    refine wpAny_ite_split (fun q => absurd q h1) fun _ => ?_
    wp_walk
    exact ⟨_, rfl, h⟩
theorem mul_nil (t : Addr) (items : Array Value) (n : Nat) (dd : Option Addr) (sl : Array (Option Value)) (k : Int) (u : Tok) (h1 : ¬ (decide (k < -(2 ^ 63)) || decide (k ≥ 2 ^ 63)) = true) (hc : ¬ (items.isEmpty || k == 1) = true) (hn : (decide (k ≤ 0) || items.isEmpty) = true) :
    Meets (Builtin.«tuple.__mul__» ⟨[.ref t, .int k u], []⟩) (fun _ R s => s.heap.get? t = some { cls := .type "tuple", dict := dd, data := .seq items n, slots := sl } ∧ R (.ok (.ret (.ref s.heap.objs.size))) { s with heap := s.heap.push { cls := .type "tuple", data := .seq #[] } }) :=
  .of_wp fun prog w A R s h => by
    obtain ⟨hp, g, d, tk, os⟩ := s
    obtain ⟨hl, h⟩ := h
    wp_walk
    refine wpAny_ite_split (fun q => absurd q h1) fun _ => ?_
    wp_walk
    exact ⟨_, rfl, h⟩
theorem mul_more (t : Addr) (items : Array Value) (n : Nat) (dd : Option Addr) (sl : Array (Option Value)) (k : Int) (u : Tok) (h1 : ¬ (decide (k < -(2 ^ 63)) || decide (k ≥ 2 ^ 63)) = true) (hc : ¬ (items.isEmpty || k == 1) = true) (hn : ¬ (decide (k ≤ 0) || items.isEmpty) = true)
    (hm : ¬ (items.size * k > (2 ^ 63 - 1) / 8)) (hl' : ¬ Builtin.Tuple.tupleTooMany (items.size * k) = true) (hsz : ((List.replicate k.toNat items).foldl (· ++ ·) #[]).size ≤ sizeLine) :
    Meets (Builtin.«tuple.__mul__» ⟨[.ref t, .int k u], []⟩) (fun _ R s => s.heap.get? t = some { cls := .type "tuple", dict := dd, data := .seq items n, slots := sl } ∧ R (.ok (.ret (.ref s.heap.objs.size))) { s with heap := s.heap.push { cls := .type "tuple", data := .seq ((List.replicate k.toNat items).foldl (· ++ ·) #[]) } }) :=
  .of_wp fun prog w A R s h => by
    obtain ⟨hp, g, d, tk, os⟩ := s
    obtain ⟨hl, h⟩ := h
    wp_walk
    refine wpAny_ite_split (fun q => absurd q h1) fun _ => ?_
    wp_walk
    refine wpAny_ite_split (fun q => absurd q hm) fun _ => ?_
    wp_walk
    exact ⟨_, rfl, h⟩
section
variable {X : Cx}
def rMulT : R2 := fun x y H Q => ∃ (a : Addr) (k : Nat) (xs : List V), x = .ref a ∧ y = .int (k : Int) ∧ H a = some (.tup xs) ∧ xs.length * k ≤ 1000 ∧ k ≤ 1000 ∧ ∀ (p : Addr) (H' : Hp), Same H H' → H' p = some (.tup (List.replicate k xs).flatten) → Q (.ref p) H'
theorem mulT0 : OpR X (binaryOp .Mult) rMulT := by
  intro pins s σ H x y v u Q I rx ry h
  obtain ⟨a, k, xs, rfl, rfl, ha, hz, hk, q⟩ := h
  cases rx
  obtain ⟨t, rfl⟩ := ry
  obtain ⟨its, r, p1, _⟩ := I.tuple (SqT.of ha)
  have hlen := r.length
  obtain ⟨⟨c1, d1, da1, sl1⟩, e, k1, n1, g1⟩ := id p1
  simp only at k1 g1
  subst k1 g1
  have h1 : ¬ (decide ((k : Int) < -(2 ^ 63)) || decide ((k : Int) ≥ 2 ^ 63)) = true := by
    rw [Bool.or_eq_true, decide_eq_true_eq, decide_eq_true_eq]
    omega
  refine wpAny_binaryOp_repeat_ref (T := "tuple") (U := "int") (by decide) ⟨_, e, rfl⟩ (fun s' => typeIs_int s' (k : Int) t) noFill_tup_mul F.fills_int_mul F.slot_int_rmul repeat_tup F.slot_int_index.lookup
    (call_meets F.slot_int_rmul (typeIs_int s (k : Int) t) F.entry_int_rmul (F.args_int_rmul_2 _ _) (rmul_tup (k : Int) t a its.toArray n1 d1 sl1) ⟨e, rfl, ⟨_, e, rfl⟩, ?_⟩)
  by_cases hc : (its.toArray.isEmpty || (k : Int) == 1) = true
  · refine call_meets F.slot_tuple_mul ⟨_, e, rfl⟩ F.entry_tuple_mul (F.args_tuple_mul_2 _ _) (mul_one a its.toArray n1 d1 sl1 (k : Int) t h1 hc) ⟨e, ⟨.ref a, H, I, rfl, q a H (Same.refl H) ?_⟩⟩
    rw [ha]
    congr 2
    rw [Bool.or_eq_true] at hc
    rcases hc with hc | hc
    · have : its = [] := by simpa using hc
      have : xs = [] := r.nil_iff.mp this
      subst this
      induction k with
      | zero => simp
      | succ k ih => simp
    · have : k = 1 := by have := eq_of_beq hc; omega
      subst this
      simp
  · have ne : ¬ its.toArray.isEmpty = true := fun z => hc (by rw [z]; rfl)
    by_cases hk0 : k = 0
    · subst hk0
      refine call_meets F.slot_tuple_mul ⟨_, e, rfl⟩ F.entry_tuple_mul (F.args_tuple_mul_2 _ _) (mul_nil a its.toArray n1 d1 sl1 ((0 : Nat) : Int) t h1 hc (by simp)) ⟨e, ?_⟩
      have hf := I.hok.fresh (Nat.le_refl s.heap.objs.size)
      refine ⟨.ref s.heap.objs.size, upd H s.heap.objs.size (.tup []), I.laid (t' := s.toks) (fun b o z => Heap.get?_push_of_some _ z) (Nat.le_refl _) ⟨Nat.zero_le _, [], .nil, IsTup.new _ _⟩, rfl, q _ _ (same_upd hf) ?_⟩
      rw [upd_same]
      simp
    · have fl : (List.replicate (k : Int).toNat its.toArray).foldl (· ++ ·) #[] = (List.replicate k its).flatten.toArray := by
        have := foldl_rep its k []
        rw [List.nil_append] at this
        rw [Int.toNat_natCast]
        exact this
      have lr : (List.replicate k its).flatten.length = k * its.length := len_rep its k
      have lx : (List.replicate k xs).flatten.length = k * xs.length := len_rep xs k
      have hsm : k * its.length ≤ 1000 := by rw [← hlen, Nat.mul_comm]; exact hz
      have cast : ((its.toArray.size : Nat) : Int) * (k : Int) = ((its.length * k : Nat) : Int) := by rw [List.size_toArray]; norm_cast
      have hsm2 : its.length * k ≤ 1000 := by rw [Nat.mul_comm]; exact hsm
      refine call_meets F.slot_tuple_mul ⟨_, e, rfl⟩ F.entry_tuple_mul (F.args_tuple_mul_2 _ _) (mul_more a its.toArray n1 d1 sl1 (k : Int) t h1 hc ?_ ?_ ?_ ?_) ⟨e, ?_⟩
      · rw [Bool.or_eq_true, decide_eq_true_eq]
        rintro (z | z)
        · omega
        · exact ne z
      · rw [cast]; omega
      · unfold Builtin.Tuple.tupleTooMany
        rw [cast, sizeLine_eq, decide_eq_true_eq]
        omega
      · rw [fl, List.size_toArray, lr, sizeLine_eq]
        omega
      · rw [fl]
        have hf := I.hok.fresh (Nat.le_refl s.heap.objs.size)
        refine ⟨.ref s.heap.objs.size, upd H s.heap.objs.size (.tup (List.replicate k xs).flatten), I.laid (t' := s.toks) (fun b o z => Heap.get?_push_of_some _ z) (Nat.le_refl _) ⟨?_, (List.replicate k its).flatten, ?_, IsTup.new _ _⟩, rfl, q _ _ (same_upd hf) upd_same⟩
        · rw [lx, hlen, sizeLine_eq]; omega
        · exact r.rep k
theorem a_rMulT {x y : V} {H : Hp} {Q : VK} : rMulT x y H Q = ∃ (a : Addr) (k : Nat) (xs : List V), x = .ref a ∧ y = .int (k : Int) ∧ H a = some (.tup xs) ∧ xs.length * k ≤ 1000 ∧ k ≤ 1000 ∧ ∀ (p : Addr) (H' : Hp), Same H H' → H' p = some (.tup (List.replicate k xs).flatten) → Q (.ref p) H' := rfl
end
end L2
end
section
set_option Elab.async false
set_option linter.all false
set_option maxRecDepth 100000
namespace L2
open PySem PySem.Spec PyProof.Rows
theorem Box.ne {H : Hp} {p c : Addr} (bx : Box H p) (n : H c = none) : p ≠ c := by
  rintro rfl
  obtain ⟨_, _, _, e⟩ := bx
  rw [n] at e
  cases e
theorem Box.upd {H : Hp} {p c : Addr} {o : HO} (bx : Box H p) (n : p ≠ c) : Box (L2.upd H c o) p := by
  obtain ⟨g, m, z, e⟩ := bx
  exact ⟨g, m, z, by rw [upd_ne n]; exact e⟩
theorem Box.same {H H' : Hp} {p : Addr} (bx : Box H p) (s : Same H H') : Box H' p := by
  obtain ⟨g, m, z, e⟩ := bx
  exact ⟨g, m, z, s _ _ e⟩
end L2
end
section
set_option Elab.async false
set_option linter.all false
set_option maxRecDepth 100000
namespace L2
open PySem PySem.Spec PyProof.Rows
section
variable {X : Cx}
def plainE : Expr → Bool
  | .Starred _ _ => false
  | _ => true
theorem star_cons {e : Expr} {es : List Expr} {env : Env} (h : plainE e = true) : starEach (e :: es) env = (false, eval e env) :: starEach es env := by
  cases e <;> first | rfl | cases h
theorem pa_cns {e : Expr} {es : List Expr} {te : TE} {t : TA} (ha : PE X e te) (hr : PA X es t) (hp : plainE e = true := by rfl) : PA X (e :: es) (tCons te t) := pa_cons ha hr (star_cons hp)
def tDict : TE := fun _ H Q => ∀ (p : Addr) (H' : Hp), H p = none → Same H H' → H' p = some (.dK []) → Q (.ref p) H'
theorem a_tChain {r r' : R2} {ta tb tc : TE} {σ : St} {H : Hp} {Q : VK} : tChain r r' ta tb tc σ H Q = ta σ H fun x H1 => tb σ H1 fun y H2 => r x y H2 fun z H3 => ∃ k, z = .bl k ∧ (if k = true then tc σ H3 fun w' H4 => r' y w' H4 Q else Q (.bl false) H3) := rfl
theorem a_tDict {σ : St} {H : Hp} {Q : VK} : tDict σ H Q = ∀ (p : Addr) (H' : Hp), H p = none → Same H H' → H' p = some (.dK []) → Q (.ref p) H' := rfl
def tLstA (t : TA) : TE := fun σ H Q => t σ H fun xs H1 => xs.length ≤ sizeLine ∧ ∀ (p : Addr) (H2 : Hp), H1 p = none → Same H1 H2 → H2 p = some (.lst xs) → Q (.ref p) H2
theorem a_tLstA {t : TA} {σ : St} {H : Hp} {Q : VK} : tLstA t σ H Q = t σ H fun xs H1 => xs.length ≤ sizeLine ∧ ∀ (p : Addr) (H2 : Hp), H1 p = none → Same H1 H2 → H2 p = some (.lst xs) → Q (.ref p) H2 := rfl
end
end L2
end
section
set_option Elab.async false
set_option linter.all false
set_option maxRecDepth 100000
namespace L2
open PySem PySem.Spec PyProof.Rows
def Later (f : St → Hp → Prop) : St → Hp → Prop := f
theorem a_later {f : St → Hp → Prop} {σ : St} {H : Hp} : Later f σ H = f σ H := rfl
def tSeqL (t u : TS) : TS := tSeq t u
theorem pss_consL {X : Cx} {st : Stmt} {sts : List Stmt} {t u : TS} (h : PS X st t) (hs : PSs X sts u) : PSs X (st :: sts) (tSeqL t u) := pss_cons h hs
theorem a_tSeqL {t u : TS} {D : Ends} {σ : St} {H : Hp} : tSeqL t u D σ H = t { D with nx := Later (u D) } σ H := rfl
end L2
end
section
set_option Elab.async false
set_option linter.all false
set_option maxRecDepth 100000
namespace L2
open PySem PySem.Spec PyProof.Rows
structure QE (X : Cx) (e : Expr) (t : TE) : Prop where
  get : PE X e t
structure QA (X : Cx) (es : List Expr) (t : TA) : Prop where
  get : PA X es t
structure QS (X : Cx) (st : Stmt) (t : TS) : Prop where
  get : PS X st t
structure QSs (X : Cx) (sts : List Stmt) (t : TS) : Prop where
  get : PSs X sts t
section
variable {X : Cx}
end
end L2
end
section
set_option Elab.async false
set_option linter.all false
set_option maxRecDepth 100000
namespace L2
open PySem PySem.Spec PyProof.Rows
section
variable {X : Cx}
end
end L2
end
section
set_option Elab.async false
set_option linter.all false
set_option maxRecDepth 100000
namespace L2
open PySem PySem.Spec PyProof.Rows
def tCalK (sp : Sp) (gV : List V → List V) (tk : TA) : TE := fun σ H Q => tk σ H fun zs H2 => sp (gV zs) H2 Q E0
section
variable {X : Cx}
theorem a_tCalK {sp : Sp} {gV : List V → List V} {tk : TA} {σ : St} {H : Hp} {Q : VK} : tCalK sp gV tk σ H Q = tk σ H fun zs H2 => sp (gV zs) H2 Q E0 := rfl
end
def g1 {α : Type} : List α → List α
  | [a] => [a]
  | _ => []
def g2 {α : Type} : List α → List α
  | [a, b] => [a, b]
  | _ => []
def g2r {α : Type} : List α → List α
  | [a, b] => [b, a]
  | _ => []
theorem cal_fn {P : Program} {w : World} {K : PySem.W.Frag} {mg : Str → Option Value} {base : Heap} {x : Str} {st : Stmt} {f : Addr} {fd : FuncData} {ps : List Str} {k : Nat} {sp : Sp} (F : Fun K x x st f fd) (ok : FnOk P w K mg base CX0 k f fd ps sp) (hm : mg x = some (.ref f)) (hb : Binds K fd ps []) : Cal P w K mg base x ps k sp := ⟨f, fd, ok, hm, F.kp, hb⟩
end L2
end
section
set_option Elab.async false
set_option linter.all false
set_option maxRecDepth 100000
namespace L2
open PySem PySem.Spec PyProof.Rows
section
variable {X : Cx}
def tPop0 (to : TE) (t : TA) : TE := fun σ H Q => to σ H fun x H1 => ∃ l xs0, x = .ref l ∧ H1 l = some (.lst xs0) ∧ t σ H1 fun vs H2 => ∃ (y : V) (ys : List V), vs = [.int 0] ∧ H2 l = some (.lst (y :: ys)) ∧ Q y (upd H2 l (.lst ys))
theorem a_tPop0 {to : TE} {t : TA} {σ : St} {H : Hp} {Q : VK} : tPop0 to t σ H Q = to σ H fun x H1 => ∃ l xs0, x = .ref l ∧ H1 l = some (.lst xs0) ∧ t σ H1 fun vs H2 => ∃ (y : V) (ys : List V), vs = [.int 0] ∧ H2 l = some (.lst (y :: ys)) ∧ Q y (upd H2 l (.lst ys)) := rfl
end
def g3r {α : Type} : List α → List α
  | [a, b, c] => [c, b, a]
  | _ => []
theorem g3r_is {α : Type} {a b c : α} : g3r [a, b, c] = [c, b, a] := rfl
theorem g2r_is {α : Type} {a b : α} : g2r [a, b] = [b, a] := rfl
theorem g2_is {α : Type} {a b : α} : g2 [a, b] = [a, b] := rfl
theorem g1_is {α : Type} {a : α} : g1 [a] = [a] := rfl
end L2
end
section
set_option Elab.async false
set_option linter.all false
set_option Elab.async false
set_option linter.all false
set_option maxRecDepth 100000
namespace L2
open PySem PySem.Spec PyProof.Rows
end L2
namespace L2
open PySem PySem.Spec PyProof.Rows
end L2
namespace L2
open PySem PySem.Spec PyProof.Rows
end L2
namespace L2
open PySem PySem.Spec PyProof.Rows
end L2
namespace L2
open PySem PySem.Spec PyProof.Rows
end L2
namespace L2
open PySem PySem.Spec PyProof.Rows
end L2
namespace L2
open PySem PySem.Spec PyProof.Rows
end L2
namespace L2
open PySem PySem.Spec PyProof.Rows
end L2
namespace L2
open PySem PySem.Spec PyProof.Rows
end L2
namespace L2
open PySem PySem.Spec PyProof.Rows
end L2
namespace L2
open PySem PySem.Spec PyProof.Rows
section
variable {κ : Type} [DecidableEq κ]
def valV (kvs : List (κ × V)) (k : κ) : Option V := (kvs.find? fun kv => decide (kv.1 = k)).map (·.2)
def putK (kvs : List (κ × V)) (k : κ) (v : V) : List (κ × V) :=
  if (kvs.any fun kv => decide (kv.1 = k)) = true then kvs.map (fun kv => if kv.1 = k then (kv.1, v) else kv) else kvs ++ [(k, v)]
def dropK (kvs : List (κ × V)) (k : κ) : List (κ × V) := kvs.filter fun kv => decide (kv.1 ≠ k)
theorem valV_pos {p : κ × V} {r : List (κ × V)} {k : κ} (e : p.1 = k) : valV (p :: r) k = some p.2 := by simp [valV, List.find?_cons, e]
theorem valV_neg {p : κ × V} {r : List (κ × V)} {k : κ} (e : ¬ p.1 = k) : valV (p :: r) k = valV r k := by simp [valV, List.find?_cons, e]
theorem valV_any (k : κ) : ∀ kvs : List (κ × V), (kvs.any fun kv => decide (kv.1 = k)) = (valV kvs k).isSome
  | [] => rfl
  | p :: r => by
    rw [List.any_cons]
    by_cases e : p.1 = k
    · simp only [valV_pos e, decide_eq_true e, Bool.true_or, Option.isSome_some]
    · rw [valV_neg e, decide_eq_false e, Bool.false_or]; exact valV_any k r
theorem valV_map (k j : κ) (y : V) : ∀ kvs : List (κ × V), valV (kvs.map fun kv => if kv.1 = k then (kv.1, y) else kv) j = (valV kvs j).map fun x => if j = k then y else x
  | [] => rfl
  | p :: r => by
    have ih := valV_map k j y r
    rw [List.map_cons]
    by_cases h : p.1 = k
    · rw [if_pos h]
      by_cases e : p.1 = j
      · rw [valV_pos (p := (p.1, y)) e, valV_pos e, Option.map_some, if_pos (e.symm.trans h)]
      · rw [valV_neg (p := (p.1, y)) e, valV_neg e, ih]
    · rw [if_neg h]
      by_cases e : p.1 = j
      · rw [valV_pos (p := p) e, valV_pos e, Option.map_some, if_neg (fun z => h (e.trans z))]
      · rw [valV_neg (p := p) e, valV_neg e, ih]
theorem valV_snoc (k j : κ) (y : V) : ∀ kvs : List (κ × V), valV kvs k = none → valV (kvs ++ [(k, y)]) j = if j = k then some y else valV kvs j
  | [], _ => by
    by_cases e : k = j
    · rw [if_pos e.symm]; exact valV_pos (p := (k, y)) e
    · rw [if_neg (fun z => e z.symm)]; exact valV_neg (p := (k, y)) e
  | p :: r, hn => by
    rw [List.cons_append]
    have hk : ¬ p.1 = k := fun z => by rw [valV_pos z] at hn; cases hn
    rw [valV_neg hk] at hn
    have ih := valV_snoc k j y r hn
    by_cases e : p.1 = j
    · rw [valV_pos e, valV_pos e, if_neg (fun z => hk (e.trans z))]
    · rw [valV_neg e, valV_neg e, ih]
theorem valV_put (kvs : List (κ × V)) (k j : κ) (y : V) : valV (putK kvs k y) j = if j = k then some y else valV kvs j := by
  unfold putK
  by_cases a : (kvs.any fun kv => decide (kv.1 = k)) = true
  · rw [if_pos a, valV_map]
    rw [valV_any] at a
    by_cases e : j = k
    · obtain ⟨x, hx⟩ := Option.isSome_iff_exists.mp a
      rw [if_pos e, e, hx, Option.map_some, if_pos rfl]
    · rw [if_neg e]
      cases valV kvs j with
      | none => rfl
      | some x => rw [Option.map_some, if_neg e]
  · rw [if_neg a]
    refine valV_snoc k j y kvs ?_
    rw [valV_any] at a
    cases q : valV kvs k with
    | none => rfl
    | some x => rw [q] at a; exact (a rfl).elim
theorem length_putK (kvs : List (κ × V)) (k : κ) (v : V) : (putK kvs k v).length ≤ kvs.length + 1 := by
  unfold putK
  split
  · rw [List.length_map]; omega
  · rw [List.length_append, List.length_cons, List.length_nil]; omega
theorem RelO.isSome_eq {o : Option V} {u : Option Value} (r : RelO o u) : o.isSome = u.isSome := by
  cases o with
  | none => cases u with
    | none => rfl
    | some _ => exact (show False from r).elim
  | some _ => cases u with
    | none => exact (show False from r).elim
    | some _ => rfl
theorem RelO.getD {o : Option V} {u : Option Value} {d : V} {d' : Value} (r : RelO o u) (rd : RelV d d') : RelV (o.getD d) (u.getD d') := by
  cases o with
  | none => cases u with
    | none => exact rd
    | some _ => exact (show False from r).elim
  | some _ => cases u with
    | none => exact (show False from r).elim
    | some _ => exact r
theorem KV.val {kvs : List (κ × V)} {vs : List (κ × Value)} (r : KV kvs vs) (k : κ) : RelO (valV kvs k) (valueAt vs k) := by
  unfold KV at r
  induction r with
  | nil => exact True.intro
  | @cons p q ps qs h t ih =>
    obtain ⟨h1, h2⟩ := h
    by_cases e : p.1 = k
    · have e' : q.1 = k := h1.symm.trans e
      have b : valueAt (q :: qs) k = some q.2 := by simp [valueAt, List.find?_cons, e']
      rw [valV_pos e, b]; exact h2
    · have e' : ¬ q.1 = k := fun z => e (h1.trans z)
      have b : valueAt (q :: qs) k = valueAt qs k := by simp [valueAt, List.find?_cons, e']
      rw [valV_neg e, b]; exact ih
theorem KV.any {kvs : List (κ × V)} {vs : List (κ × Value)} (r : KV kvs vs) (k : κ) : (kvs.any fun kv => decide (kv.1 = k)) = vs.any fun kv => decide (kv.1 = k) := by
  unfold KV at r
  induction r with
  | nil => rfl
  | cons h t ih => rw [List.any_cons, List.any_cons, ih, h.1]
theorem KV.repl {kvs : List (κ × V)} {vs : List (κ × Value)} (r : KV kvs vs) (k : κ) {y : V} {u : Value} (ry : RelV y u) :
    KV (kvs.map fun kv => if kv.1 = k then (kv.1, y) else kv) (vs.map fun kv => if kv.1 = k then (kv.1, u) else kv) := by
  unfold KV at r ⊢
  induction r with
  | nil => exact .nil
  | @cons p q ps qs h t ih =>
    rw [List.map_cons, List.map_cons]
    refine .cons ?_ ih
    obtain ⟨h1, h2⟩ := h
    by_cases e : p.1 = k
    · rw [if_pos e, if_pos (h1.symm.trans e)]; exact ⟨h1, ry⟩
    · rw [if_neg e, if_neg (fun z => e (h1.trans z))]; exact ⟨h1, h2⟩
theorem KV.put {kvs : List (κ × V)} {vs : List (κ × Value)} (r : KV kvs vs) (k : κ) {y : V} {u : Value} (ry : RelV y u) : KV (putK kvs k y) (stored vs k u) := by
  unfold putK stored
  rw [r.any k]
  by_cases e : (vs.any fun kv => decide (kv.1 = k)) = true
  · rw [if_pos e, if_pos e]; exact r.repl k ry
  · rw [if_neg e, if_neg e]; exact Paired.snoc r ⟨rfl, ry⟩
theorem KV.drop {kvs : List (κ × V)} {vs : List (κ × Value)} (r : KV kvs vs) (k : κ) : KV (dropK kvs k) (without vs k) := by
  unfold KV at r ⊢
  unfold dropK without
  induction r with
  | nil => exact .nil
  | @cons p q ps qs h t ih =>
    obtain ⟨h1, h2⟩ := h
    rw [List.filter_cons, List.filter_cons]
    by_cases e : p.1 = k
    · have a : ¬ decide (p.1 ≠ k) = true := by simp [e]
      have b : ¬ decide (q.1 ≠ k) = true := by simp [h1.symm.trans e]
      rw [if_neg a, if_neg b]; exact ih
    · have e' : ¬ q.1 = k := fun z => e (h1.trans z)
      have a : decide (p.1 ≠ k) = true := by simp [e]
      have b : decide (q.1 ≠ k) = true := by simp [e']
      rw [if_pos a, if_pos b]; exact .cons ⟨h1, h2⟩ ih
theorem KV.keys {kvs : List (κ × V)} {vs : List (κ × Value)} (r : KV kvs vs) : kvs.map (·.1) = vs.map (·.1) := by
  unfold KV at r
  induction r with
  | nil => rfl
  | cons h t ih => rw [List.map_cons, List.map_cons, ih, h.1]
theorem KV.length {kvs : List (κ × V)} {vs : List (κ × Value)} (r : KV kvs vs) : kvs.length = vs.length := Paired.length r
end
theorem kV_is {P : Program} {w : World} {k : Key} {u : Value} (r : RelV (kV k) u) : (mixKind P w).is k u = true := by
  cases k with
  | inl i => obtain ⟨t, e⟩ := (show ∃ t, u = Value.int i t from r); subst e; exact mixKind_int P w i t
  | inr x => obtain ⟨t, e⟩ := (show ∃ t, u = Value.str x t from r); subst e; exact mixKind_str P w x t
theorem items_are {P : Program} {w : World} : ∀ {ks : List Key} {us : List Value}, Vals (ks.map kV) us → ItemsAre (mixKind P w) ks us
  | [], _, r => by rw [List.map_nil] at r; cases r; exact .nil
  | k :: ks, _, r => by
    rw [List.map_cons] at r
    cases r with
    | cons h t => exact .cons (kV_is h) (items_are t)
abbrev KT (H : Hp) : List (List Key × V) → List (List Key × Addr × Value) → Prop := Paired fun p q => p.1 = q.1 ∧ H q.2.1 = some (.tup (p.1.map kV)) ∧ RelV p.2 q.2.2
theorem KT.val {H : Hp} {kvs : List (List Key × V)} {xs : List (List Key × Addr × Value)} (r : KT H kvs xs) (k : List Key) : RelO (valV kvs k) ((atKey xs k).map (·.2)) := by
  induction r with
  | nil => exact True.intro
  | @cons p q ps qs h t ih =>
    obtain ⟨h1, _, h2⟩ := h
    by_cases e : p.1 = k
    · have e' : q.1 = k := h1.symm.trans e
      have b : atKey (q :: qs) k = some q.2 := by simp [atKey, List.find?_cons, e']
      rw [valV_pos e, b]; exact h2
    · have e' : ¬ q.1 = k := fun z => e (h1.trans z)
      have b : atKey (q :: qs) k = atKey qs k := by simp [atKey, List.find?_cons, e']
      rw [valV_neg e, b]; exact ih
theorem KT.repl {H : Hp} {kvs : List (List Key × V)} {xs : List (List Key × Addr × Value)} (r : KT H kvs xs) (k : List Key) {y : V} {u : Value} (ry : RelV y u) :
    KT H (kvs.map fun kv => if kv.1 = k then (kv.1, y) else kv) (xs.map (putAt k u)) := by
  induction r with
  | nil => exact .nil
  | @cons p q ps qs h t ih =>
    rw [List.map_cons, List.map_cons]
    refine .cons ?_ ih
    obtain ⟨h1, h2, h3⟩ := h
    unfold putAt
    by_cases e : p.1 = k
    · rw [if_pos e, if_pos (h1.symm.trans e)]; exact ⟨h1, h2, ry⟩
    · rw [if_neg e, if_neg (fun z => e (h1.trans z))]; exact ⟨h1, h2, h3⟩
theorem KT.put {H : Hp} {kvs : List (List Key × V)} {xs : List (List Key × Addr × Value)} (r : KT H kvs xs) (k : List Key) {b : Addr} {y : V} {u : Value} (hb : H b = some (.tup (k.map kV))) (ry : RelV y u) :
    KT H (putK kvs k y) (storedH xs k b u) := by
  have e : (kvs.any fun kv => decide (kv.1 = k)) = (atKey xs k).isSome := by
    rw [valV_any, (r.val k).isSome_eq, Option.isSome_map]
  unfold putK storedH
  rw [e]
  by_cases q : (atKey xs k).isSome = true
  · rw [if_pos q, if_pos q]; exact r.repl k ry
  · rw [if_neg q, if_neg q]; exact Paired.snoc r ⟨rfl, hb, ry⟩
theorem KT.keeps {H H' : Hp} {kvs : List (List Key × V)} {xs : List (List Key × Addr × Value)} (r : KT H kvs xs) (ht : ∀ b ys, H b = some (.tup ys) → H' b = some (.tup ys)) : KT H' kvs xs :=
  Paired.mapP r fun _ _ z => ⟨z.1, ht _ _ z.2.1, z.2.2⟩
section
variable {P : Program} {w : World} {H : Hp} {h : Heap} {a : Addr}
theorem rd_of {u : HO} (ok : HOk P w H h) (e : Rd H a u) : ObjOk P w H h a u := e.ok ok
theorem dk_rd {kvs : List (Key × V)} (ok : HOk P w H h) (e : Rd H a (.dK kvs)) : kvs.length ≤ sizeLine ∧ (a == sysModules) = false ∧ ∃ vs, KV kvs vs ∧ h.DictOf (mixKind P w) a vs :=
  show ObjOk P w H h a (.dK kvs) from rd_of ok e
theorem dk_of {kvs : List (Key × V)} (ok : HOk P w H h) (e : H a = some (.dK kvs)) : kvs.length ≤ sizeLine ∧ (a == sysModules) = false ∧ ∃ vs, KV kvs vs ∧ h.DictOf (mixKind P w) a vs := dk_rd ok (.inl e)
theorem key_of {ks : List Key} (ok : HOk P w H h) (e : H a = some (.tup (ks.map kV))) : (tupleKind (mixKind P w)).is h ks a := by
  obtain ⟨_, its, r, o, h1, h2, n, h3⟩ := (show ObjOk P w H h a (.tup (ks.map kV)) from ok a _ e)
  exact ⟨o, its.toArray, n, h1, h2, h3, by simpa using items_are r⟩
theorem dt_rd {kvs : List (List Key × V)} (ok : HOk P w H h) (e : Rd H a (.dT kvs)) : kvs.length ≤ sizeLine ∧ (a == sysModules) = false ∧
    ∃ xs, KT H kvs xs ∧ h.DictOfH (tupleKind (mixKind P w)) a xs := by
  obtain ⟨z, y, xs, r, o, es, ep, h1, h2, h3, h4, h5⟩ := (show ObjOk P w H h a (.dT kvs) from rd_of ok e)
  refine ⟨z, y, xs, r, o, es, ep, h1, h2, h3, h4, fun x hx => ?_, h5⟩
  have all : ∀ {l : List (List Key × V)} {m : List (List Key × Addr × Value)}, KT H l m → ∀ x ∈ m, (tupleKind (mixKind P w)).is h x.1 x.2.1 := by
    intro l m q
    induction q with
    | nil => intro x hx; exact nomatch hx
    | @cons p q ps qs hq t ih =>
      intro x hx
      rcases List.mem_cons.mp hx with e | hx
      · subst e
        exact key_of ok (by rw [← hq.1]; exact hq.2.1)
      · exact ih x hx
  exact all r x hx
theorem dt_of {kvs : List (List Key × V)} (ok : HOk P w H h) (e : H a = some (.dT kvs)) : kvs.length ≤ sizeLine ∧ (a == sysModules) = false ∧
    ∃ xs, KT H kvs xs ∧ h.DictOfH (tupleKind (mixKind P w)) a xs := dt_rd ok (.inl e)
end
def DGet (H : Hp) (a : Addr) (y : V) (r : Option V) : Prop :=
  (∃ kvs k, Rd H a (.dK kvs) ∧ y = kV k ∧ r = valV kvs k) ∨ ∃ kvs k b, Rd H a (.dT kvs) ∧ y = .ref b ∧ H b = some (.tup (k.map kV)) ∧ r = valV kvs k
def DPut (H : Hp) (a : Addr) (y v : V) (H' : Hp) : Prop :=
  (∃ kvs k, H a = some (.dK kvs) ∧ y = kV k ∧ kvs.length < sizeLine ∧ H' = upd H a (.dK (putK kvs k v))) ∨
  ∃ kvs k b, H a = some (.dT kvs) ∧ y = .ref b ∧ H b = some (.tup (k.map kV)) ∧ kvs.length < sizeLine ∧ H' = upd H a (.dT (putK kvs k v))
theorem DGet.k {H : Hp} {a : Addr} {kvs : List (Key × V)} {k : Key} (e : H a = some (.dK kvs)) : DGet H a (kV k) (valV kvs k) := .inl ⟨kvs, k, .inl e, rfl, rfl⟩
theorem DGet.t {H : Hp} {a b : Addr} {kvs : List (List Key × V)} {k : List Key} (e : H a = some (.dT kvs)) (eb : H b = some (.tup (k.map kV))) : DGet H a (.ref b) (valV kvs k) := .inr ⟨kvs, k, b, .inl e, rfl, eb, rfl⟩
theorem DPut.k {H : Hp} {a : Addr} {kvs : List (Key × V)} {k : Key} {v : V} (e : H a = some (.dK kvs)) (hl : kvs.length < sizeLine) : DPut H a (kV k) v (upd H a (.dK (putK kvs k v))) := .inl ⟨kvs, k, e, rfl, hl, rfl⟩
theorem DPut.t {H : Hp} {a b : Addr} {kvs : List (List Key × V)} {k : List Key} {v : V} (e : H a = some (.dT kvs)) (eb : H b = some (.tup (k.map kV))) (hl : kvs.length < sizeLine) :
    DPut H a (.ref b) v (upd H a (.dT (putK kvs k v))) := .inr ⟨kvs, k, b, e, rfl, eb, hl, rfl⟩
section
variable {X : Cx} {pins : List (Addr × Obj)} {σ : St} {H : Hp} {s : Shared} {a : Addr} {y v : V} {u r : Value} {o : Option V} {A : Around} {E : Value → Shared → Prop}
theorem Inv.big (I : Inv X pins σ H s) : sysModules < s.heap.objs.size := by
  have h : mainGlobals < s.heap.objs.size := (I.mod.glob.keeps I.bk).lt
  exact Nat.lt_trans (by decide) h
theorem d_getItem {Q : Value → Shared → Prop} (hu : A.units + 1 < cLine) (I : Inv X pins σ H s) (g : DGet H a y (some v)) (ry : RelV y u) (h : ∀ w' s', Inv X pins σ H s' → RelV v w' → Q w' s') :
    wpAny (model X.prog X.w) A (getItem (.ref a) u) Q E s := by
  rcases g with ⟨kvs, k, e, ey, l⟩ | ⟨kvs, k, b, e, ey, eb, l⟩
  · subst ey
    obtain ⟨z, hd, vs, rel, dd⟩ := dk_rd I.hok e
    obtain ⟨w', hw, rw'⟩ := RelO.some_of (v := v) (o := valueAt vs k) (by rw [l]; exact rel.val k)
    exact wpAny_getItem_of (kV_is ry) dd.mapOf hw (h w' _ (I.tok _) rw')
  · subst ey
    cases (show u = Value.ref b from ry)
    obtain ⟨z, hd, xs, rel, dd⟩ := dt_rd I.hok e
    obtain ⟨w', hw, rw'⟩ := RelO.some_of (v := v) (o := (atKey xs k).map (·.2)) (by rw [l]; exact rel.val k)
    obtain ⟨p, hp, hp2⟩ := Option.map_eq_some_iff.mp hw
    refine wpAny_getItem_heap (tupleKind_room_in1 hu) (key_of I.hok eb) dd hp ?_
    rw [hp2]
    exact h w' _ (I.tok _) rw'
theorem d_write {h' : Heap} {t' : Nat} {ob : HO} (I : Inv X pins σ H s) (mu : Mut (H a)) (hs : Heap.SameBut a s.heap h') (he : ∃ q, h'.get? a = some q) (new : ObjOk X.prog X.w (upd H a ob) h' a ob) :
    Inv X pins σ (upd H a ob) { s with heap := h', toks := t' } :=
  I.write (x := a) (e := a) mu (.inl rfl) (fun b q hb z => (hs.2 b hb).trans z) he new
theorem dk_new {P : Program} {w : World} {H' : Hp} {h' : Heap} {kvs : List (Key × V)} {vs : List (Key × Value)} (z : kvs.length ≤ sizeLine) (hd : (a == sysModules) = false) (rel : KV kvs vs) (dd : h'.DictOf (mixKind P w) a vs) :
    ObjOk P w H' h' a (.dK kvs) := ⟨z, hd, vs, rel, dd⟩
theorem d_setItem {H' : Hp} {Q : Unit → Shared → Prop} (hu : A.units + 1 < cLine) (I : Inv X pins σ H s) (g : DPut H a y v H') (ry : RelV y u) (rv : RelV v r) (h : ∀ s', Inv X pins σ H' s' → Q () s') :
    wpAny (model X.prog X.w) A (setItem (.ref a) u r) Q E s := by
  rcases g with ⟨kvs, k, e, ey, l, eH⟩ | ⟨kvs, k, b, e, ey, eb, l, eH⟩
  · subst ey eH
    obtain ⟨z, hd, vs, rel, dd⟩ := dk_of I.hok e
    have hz : vs.length ≤ sizeLine := by rw [← rel.length]; exact z
    have hl : (putK kvs k v).length ≤ sizeLine := by have := length_putK kvs k v; omega
    refine wpAny_setItem_pairs (hsz := hz) (kV_is ry) dd fun h' dd' hs => h _ ?_
    have he : ∃ q, h'.get? a = some q := let ⟨q, _, _, hq, _⟩ := dd'; ⟨q, hq⟩
    exact d_write I (by rw [e]; exact True.intro) hs he (dk_new hl hd (rel.put k rv) dd')
  · subst ey eH
    cases (show u = Value.ref b from ry)
    obtain ⟨z, hd, xs, rel, dd⟩ := dt_of I.hok e
    have hz : xs.length ≤ sizeLine := by rw [← Paired.length rel]; exact z
    have hl : (putK kvs k v).length ≤ sizeLine := by have := length_putK kvs k v; omega
    refine wpAny_setItem_heap (hsz := hz) (tupleKind_room_in1 hu) (key_of I.hok eb) dd fun h' dd' hs => h _ ?_
    obtain ⟨q, es, ep, hq, h2, h3, h4, _, h5⟩ := dd'
    refine d_write I (by rw [e]; exact True.intro) hs ⟨q, hq⟩ ⟨hl, hd, _, (rel.put k eb rv).keeps fun c ys ec => ?_, q, es, ep, hq, h2, h3, h4, h5⟩
    rw [upd_ne (ne_of ec e (fun z => nomatch z))]
    exact ec
end
section
variable {X : Cx} {pins : List (Addr × Obj)} {σ : St} {H : Hp} {s : Shared} {a : Addr} {kvs : List (Key × V)} {k : Key} {u : Value} {A : Around} {E : Value → Shared → Prop}
end
def NoSl (i : Expr) : Prop := ∀ ov iv, subscripted i false ov iv = operate [ov, iv] (getItem ov iv)
theorem subD_of {prog : Program} {w : World} {A : Around} {E : Value → Shared → Prop} {s : Shared} {env : Env} {value slice : Expr} {pos : Pos} {T id : String} {Q : Value → Shared → Prop}
    (hl : typeLookup (.type T) "__getitem__" = pure (some (.builtin id))) (hs : NoSl slice)
    (h : wpAny (model prog w) A (eval value env) (fun o s₁ => wpAny (model prog w) A (eval slice env) (fun i s₂ => s₂.TypeIs o T ∧ wpAny (model prog w) A (getItem o i) Q E s₂) E s₁) E s) :
    wpAny (model prog w) A (eval (.Subscript value slice pos) env) Q E s := by
  refine Subscript_ (wpAny_mono h (fun o s₁ h₁ => wpAny_mono h₁ (fun i s₂ h₂ => ?_) fun _ _ x => x) fun _ _ x => x)
  obtain ⟨hT, h₂⟩ := h₂
  unfold subscriptTail
  refine wpAny_bind ?_
  rw [getitemInPython_of_ne hT.not_modules]
  refine wpAny_bind (wpAny_specialOf hT hl ?_)
  have fin : wpAny (model prog w) A (subscripted slice false o i) (fun r s₃ => wpAny (model prog w) A (letTemporaryGo value o r >>= fun _ => pure r) Q E s₃) E s₂ := by
    rw [hs o i]
    exact wpAny_operating (wpAny_mono h₂ (fun r s₃ h₃ => wpAny_bind (wpAny_letTemporaryGo (wpAny_pure h₃))) fun _ _ x => x)
  first
    | exact wpAny_pure (wpAny_bind fin)
    | exact wpAny_bind (wpAny_pure (wpAny_bind fin))
    | exact wpAny_bind fin
theorem dict_typeIs {X : Cx} {pins : List (Addr × Obj)} {σ : St} {H : Hp} {s : Shared} {a : Addr} {y : V} {o : Option V} (I : Inv X pins σ H s) (g : DGet H a y o) : s.TypeIs (.ref a) "dict" := by
  rcases g with ⟨kvs, k, e, _, _⟩ | ⟨kvs, k, b, e, _, _, _⟩
  · obtain ⟨_, _, vs, _, dd⟩ := dk_rd I.hok e
    exact dd.typeIs
  · obtain ⟨_, _, xs, _, dd⟩ := dt_rd I.hok e
    exact dd.typeIs
section
variable {X : Cx} {o i e value : Expr} {pos pos' tpos : Pos} {td ty tv : TE}
end
theorem dk_empty {P : Program} {w : World} {H : Hp} (h : Heap) (hb : sysModules < h.objs.size) : ObjOk P w H (h.push { cls := .type "dict", data := .dict #[] }) h.objs.size (.dK []) :=
  ⟨Nat.zero_le _, beq_eq_false_iff_ne.mpr (Ne.symm (Nat.ne_of_lt hb)), [], .nil, Heap.DictOf.new h⟩
section
variable {X : Cx} {pos : Pos}
end
def tPairs : List (TE × TE) → St → Hp → (List (V × V) → Hp → Prop) → Prop
  | [], _, H, Q => Q [] H
  | (tk, tv) :: r, σ, H, Q => tk σ H fun x H1 => tv σ H1 fun y H2 => tPairs r σ H2 fun ps H3 => Q ((x, y) :: ps) H3
abbrev VV : List (V × V) → List (Value × Value) → Prop := Paired fun p q => RelV p.1 q.1 ∧ RelV p.2 q.2
def PPs (X : Cx) (pos : Pos) (keys : List (Option Expr)) (values : List Expr) (trs : List (TE × TE)) : Prop :=
  ∀ (pins : List (Addr × Obj)) (s : Shared) (σ : St) (H : Hp) (Q : List (V × V) → Hp → Prop), Inv X pins σ H s → tPairs trs σ H Q →
    wpAny (model X.prog X.w) X.A (evalPairs (pairTrees keys values X.env pos)) (fun vs s' => ∃ ps H', Inv X pins σ H' s' ∧ VV ps vs ∧ Q ps H') X.xe s
theorem pps_nil {X : Cx} {pos : Pos} : PPs X pos [] [] [] := fun pins s σ H Q I h => pairTrees_nil_walk ⟨[], H, I, .nil, h⟩
theorem pps_cons {X : Cx} {pos : Pos} {k v : Expr} {ks : List (Option Expr)} {vs : List Expr} {tk tv : TE} {trs : List (TE × TE)} (hk : PE X k tk) (hv : PE X v tv) (hr : PPs X pos ks vs trs) :
    PPs X pos (some k :: ks) (v :: vs) ((tk, tv) :: trs) := fun pins s σ H Q I h =>
  pairTrees_cons_walk (thn (hk pins s σ H _ I h) fun u s1 ⟨x, H1, I1, rx, q1⟩ => thn (hv pins s1 σ H1 _ I1 q1) fun w2 s2 ⟨y, H2, I2, ry, q2⟩ =>
    thn (hr pins s2 σ H2 _ I2 q2) fun ws s3 ⟨ps, H3, I3, rel, q3⟩ => ⟨(x, y) :: ps, H3, I3, .cons ⟨rx, ry⟩ rel, q3⟩)
def mergeK (kvs more : List (Key × V)) : List (Key × V) := more.foldl (fun acc kv => putK acc kv.1 kv.2) kvs
theorem KV.merge : ∀ {more : List (Key × V)} {rs : List (Key × Value)} {kvs : List (Key × V)} {vs : List (Key × Value)}, KV more rs → KV kvs vs → KV (mergeK kvs more) (merged vs rs) := by
  intro more rs kvs vs r
  unfold KV at r
  induction r generalizing kvs vs with
  | nil => intro q; exact q
  | @cons p q ps qs h t ih =>
    intro r0
    have e : KV (putK kvs p.1 p.2) (stored vs q.1 q.2) := by
      have := r0.put p.1 h.2
      rw [← h.1]; exact this
    exact ih e
theorem length_mergeK : ∀ (more kvs : List (Key × V)), (mergeK kvs more).length ≤ kvs.length + more.length
  | [], kvs => by show kvs.length ≤ kvs.length + 0; omega
  | p :: r, kvs => by
    have h1 := length_mergeK r (putK kvs p.1 p.2)
    have h2 := length_putK kvs p.1 p.2
    show (mergeK (putK kvs p.1 p.2) r).length ≤ _
    rw [List.length_cons]; omega
theorem carries_of {P : Program} {w : World} : ∀ {kvs : List (Key × V)} {ws : List (Value × Value)}, VV (kvs.map fun kv => (kV kv.1, kv.2)) ws → ∃ rs, Carries (mixKind P w) ws rs ∧ KV kvs rs
  | [], _, r => by rw [List.map_nil] at r; cases r; exact ⟨[], True.intro, .nil⟩
  | p :: kvs, _, r => by
    rw [List.map_cons] at r
    cases r with
    | @cons a b as bs h t =>
      obtain ⟨rs, c, q⟩ := carries_of (P := P) (w := w) t
      obtain ⟨b1, b2⟩ := b
      exact ⟨(p.1, b2) :: rs, ⟨kV_is h.1, rfl, c⟩, .cons ⟨rfl, h.2⟩ q⟩
def tDisp (trs : List (TE × TE)) : TE := fun σ H Q => ∀ p, H p = none → tPairs trs σ (upd H p (.dK [])) fun ps H2 => H2 p = some (.dK []) ∧ ∃ kvs : List (Key × V), ps = kvs.map (fun kv => (kV kv.1, kv.2)) ∧ kvs.length ≤ 15 ∧ Q (.ref p) (upd H2 p (.dK (mergeK [] kvs)))
theorem pe_disp {X : Cx} {pos : Pos} {keys : List (Option Expr)} {values : List Expr} {trs : List (TE × TE)} (h : PPs X pos keys values trs) (hall : keys.all (·.isSome) = true) (hl : keys.length = values.length) (h0 : keys ≠ [])
    (h15 : keys.length ≤ 15) : PE X (.Dict keys values pos) (tDisp trs) := by
  intro pins s σ H Q I q
  have hn := I.hok.fresh (Nat.le_refl s.heap.objs.size)
  have I1 := I.laid (a := s.heap.objs.size) (o := .dK []) (h' := s.heap.push { cls := .type "dict", data := .dict #[] }) (t' := s.toks) (fun _ _ q => Heap.get?_push_of_some _ q) (Nat.le_refl _) (dk_empty s.heap I.big)
  refine wpAny_Dict_walk (knd := mixKind X.prog X.w) hall hl h0 h15 (thn (h pins _ σ _ _ I1 (q _ hn)) fun ws s2 ⟨ps, H2, I2, rel, e, kvs, ep, lk, q2⟩ => ?_)
  subst ep
  obtain ⟨rs, c, rk⟩ := carries_of (P := X.prog) (w := X.w) rel
  obtain ⟨z, hd, vs0, r0, dd⟩ := dk_of I2.hok e
  cases r0
  refine ⟨rs, c, dd, fun h' dd' hs => ⟨.ref s.heap.objs.size, _, ?_, rfl, q2⟩⟩
  have hz : (mergeK [] kvs).length ≤ sizeLine := by
    have h1 := length_mergeK kvs []
    rw [List.length_nil] at h1
    rw [sizeLine_eq]; omega
  have he : ∃ q, h'.get? s.heap.objs.size = some q := let ⟨q, _, _, hq, _⟩ := dd'; ⟨q, hq⟩
  exact d_write I2 (by rw [e]; exact True.intro) hs he (dk_new hz hd (rk.merge .nil) dd')
structure M1 (X : Cx) (o : Expr) (m : Str) (apos : Pos) (e : Expr) (cpos : Pos) : Prop where
  base : attributeBase o m X.env (eval o X.env) = eval o X.env
  few : ((backTo cpos (starEach [e] X.env)).all (fun x => !x.1) && (backToKw cpos (keywordEach [] X.env)).all (fun x => x.1.isSome)
    && decide (([e] : List Expr).length + ([] : List Keyword).length + (if ([] : List Keyword).isEmpty then 0 else 1) < 30)) = true
  line : (apos.endLine == cpos.line) = true
  trees : backTo cpos (starEach [e] X.env) = [(false, eval e X.env)]
structure M2 (X : Cx) (o : Expr) (m : Str) (apos : Pos) (e f : Expr) (cpos : Pos) : Prop where
  base : attributeBase o m X.env (eval o X.env) = eval o X.env
  few : ((backTo cpos (starEach [e, f] X.env)).all (fun x => !x.1) && (backToKw cpos (keywordEach [] X.env)).all (fun x => x.1.isSome)
    && decide (([e, f] : List Expr).length + ([] : List Keyword).length + (if ([] : List Keyword).isEmpty then 0 else 1) < 30)) = true
  line : (apos.endLine == cpos.line) = true
  trees : backTo cpos (starEach [e, f] X.env) = [(false, eval e X.env), (false, eval f X.env)]
def IsD (H : Hp) (a : Addr) : Prop := (∃ kvs, Rd H a (.dK kvs)) ∨ ∃ kvs, Rd H a (.dT kvs)
theorem isD_at {X : Cx} {pins : List (Addr × Obj)} {σ : St} {H : Hp} {s : Shared} {a : Addr} (I : Inv X pins σ H s) (d : IsD H a) :
    s.TypeIs (.ref a) "dict" ∧ (∀ b, Value.ref a = .ref b → ∃ ob, s.heap.get? b = some ob ∧ ob.dict = none) ∧ (a == sysModules) = false := by
  rcases d with ⟨kvs, e⟩ | ⟨kvs, e⟩
  · obtain ⟨_, hd, vs, _, dd⟩ := dk_rd I.hok e
    refine ⟨dd.typeIs, fun b q => ?_, hd⟩
    cases q
    obtain ⟨ob, _, _, h1, h2, _⟩ := dd
    exact ⟨ob, h1, h2.2.1⟩
  · obtain ⟨_, hd, xs, _, dd⟩ := dt_rd I.hok e
    refine ⟨dd.typeIs, fun b q => ?_, hd⟩
    cases q
    obtain ⟨ob, _, _, h1, h2, _⟩ := dd
    exact ⟨ob, h1, h2.2.1⟩
section
variable {X : Cx} {pins : List (Addr × Obj)} {σ : St} {H : Hp} {s : Shared} {a : Addr} {y d : V} {u r : Value} {o : Option V} {A : Around} {E : Value → Shared → Prop}
theorem d_get2 {Q : Value → Shared → Prop} (hu : A.units + 1 < cLine) (I : Inv X pins σ H s) (g : DGet H a y o) (ry : RelV y u) (rd : RelV d r) (h : ∀ w' s', Inv X pins σ H s' → RelV (o.getD d) w' → Q w' s') :
    wpAny (model X.prog X.w) A (call (.builtin "dict.get") [.ref a, u, r]) Q E s := by
  rcases g with ⟨kvs, k, e, ey, l⟩ | ⟨kvs, k, b, e, ey, eb, l⟩
  · subst ey
    obtain ⟨z, hd, vs, rel, dd⟩ := dk_rd I.hok e
    refine call_meetsIn PySem.F.slot_dict_get dd.typeIs PySem.F.entry_dict_get (PySem.F.args_dict_get_3 _ _ _) (meets_dict_get_default (mixKind X.prog X.w) a (kV_is ry) hd r) ⟨_, dd.mapOf, h _ _ (I.tok _) ?_⟩
    rw [l]
    exact (rel.val k).getD rd
  · subst ey
    cases (show u = Value.ref b from ry)
    obtain ⟨z, hd, xs, rel, dd⟩ := dt_rd I.hok e
    refine call_meetsIn PySem.F.slot_dict_get dd.typeIs PySem.F.entry_dict_get (PySem.F.args_dict_get_3 _ _ _) (meetsH_dict_get_default (tupleKind (mixKind X.prog X.w)) a b hd r) ⟨tupleKind_room_in1 hu, k, xs, key_of I.hok eb, dd, h _ _ (I.tok _) ?_⟩
    rw [l]
    exact (rel.val k).getD rd
end
section
variable {X : Cx} {o e f : Expr} {apos cpos : Pos} {td ty tx : TE}
end
section
variable {X : Cx} {pins : List (Addr × Obj)} {σ : St} {H : Hp} {s : Shared} {a : Addr} {kvs : List (Key × V)} {A : Around} {E : Value → Shared → Prop}
end
section
variable {X : Cx} {pins : List (Addr × Obj)} {σ : St} {H : Hp} {s : Shared} {a : Addr} {y : V} {u : Value} {A : Around} {E : Value → Shared → Prop}
end
end L2
namespace Att
open PySem PySem.W PySem.Calls PyProof.Rows
end Att
namespace L2
open PySem PySem.Spec PyProof.Rows
end L2
namespace L2
open PySem PySem.Spec PyProof.Rows
end L2
namespace L2
open PySem PySem.Spec PyProof.Rows
section
variable {X : Cx}
end
section
variable {κ : Type} [DecidableEq κ]
end
end L2
end
section
set_option Elab.async false
set_option linter.all false
set_option maxRecDepth 100000
namespace L2
open PySem PySem.Spec PyProof.Rows
def rGetK (x y : V) (H : Hp) (Q : VK) : Prop := ∃ a kvs k v, x = .ref a ∧ y = .str k ∧ H a = some (.dK kvs) ∧ valV kvs (Sum.inr k) = some v ∧ Q v H
def rSetK (x y v : V) (H : Hp) (Q : Hp → Prop) : Prop := ∃ a kvs k, x = .ref a ∧ y = .str k ∧ H a = some (.dK kvs) ∧ kvs.length < sizeLine ∧ Q (upd H a (.dK (putK kvs (Sum.inr k) v)))
section
variable {X : Cx}
end
theorem a_rGetK {x y : V} {H : Hp} {Q : VK} : rGetK x y H Q = ∃ a kvs k v, x = .ref a ∧ y = .str k ∧ H a = some (.dK kvs) ∧ valV kvs (Sum.inr k) = some v ∧ Q v H := rfl
theorem a_rSetK {x y v : V} {H : Hp} {Q : Hp → Prop} : rSetK x y v H Q = ∃ a kvs k, x = .ref a ∧ y = .str k ∧ H a = some (.dK kvs) ∧ kvs.length < sizeLine ∧ Q (upd H a (.dK (putK kvs (Sum.inr k) v))) := rfl
theorem a_tAugS {to ti te : TE} {tget : V → V → Hp → VK → Prop} {tip : TIp} {tset : TSet} {D : Ends} {σ : St} {H : Hp} : tAugS to ti te tget tip tset D σ H = to σ H fun o H1 => ti σ H1 fun i H2 => tget o i H2 fun x H3 => te σ H3 fun y H4 => tip x y H4 fun z H5 => tset o i z H5 fun H6 => D.nx σ H6 := rfl
theorem a_ipI {f : Int → Int → Int} {x y : V} {H : Hp} {Q : VK} : ipI f x y H Q = ∃ i j, x = .int i ∧ y = .int j ∧ Q (.int (f i j)) H := rfl
theorem a_tDisp {trs : List (TE × TE)} {σ : St} {H : Hp} {Q : VK} : tDisp trs σ H Q = ∀ p, H p = none → tPairs trs σ (upd H p (.dK [])) fun ps H2 => H2 p = some (.dK []) ∧ ∃ kvs : List (Key × V), ps = kvs.map (fun kv => (kV kv.1, kv.2)) ∧ kvs.length ≤ 15 ∧ Q (.ref p) (upd H2 p (.dK (mergeK [] kvs))) := rfl
theorem a_prs0 {σ : St} {H : Hp} {Q : List (V × V) → Hp → Prop} : tPairs [] σ H Q = Q [] H := rfl
theorem a_prs {tk tv : TE} {r : List (TE × TE)} {σ : St} {H : Hp} {Q : List (V × V) → Hp → Prop} : tPairs ((tk, tv) :: r) σ H Q = tk σ H fun x H1 => tv σ H1 fun y H2 => tPairs r σ H2 fun ps H3 => Q ((x, y) :: ps) H3 := rfl
theorem a_tAug {i : Nat} {te : TE} {ti : TIp} {D : Ends} {σ : St} {H : Hp} : tAug i te ti D σ H = ∃ x, σ[i]? = some (some x) ∧ te σ H fun y H1 => ti x y H1 fun z H2 => D.nx (σ.set i (some z)) H2 := rfl
end L2
end
section
set_option Elab.async false
set_option linter.all false
set_option maxRecDepth 100000
namespace L2
open PySem PySem.Spec PyProof.Rows
section
variable {prog : Program} {w : World} {κ : Type} [DecidableEq κ] {knd : KeyKind prog w κ} {A : Around} {E : Value → Shared → Prop} {s : Shared}
abbrev KeyAt (knd : KeyKind prog w κ) (kvs : List (κ × Value)) (i : Nat) (v : Value) : Prop := ∃ k x, kvs[i]? = some (k, x) ∧ knd.is k v = true
theorem call_list_dict {Q : Value → Shared → Prop} {d : Addr} {kvs : List (κ × Value)} (hh : A.handled = none) (hd : (d == sysModules) = false) (hm : s.heap.DictOf knd d kvs) (hlen : kvs.length ≤ 2 ^ 24)
    (hQ : ∀ h' tk acc' c', (∀ b o, s.heap.get? b = some o → h'.get? b = some o) →
      h'.get? s.heap.objs.size = some { cls := .type "list", dict := none, data := .seq acc' c', slots := #[] } → ItemsOf (KeyAt knd kvs) acc' kvs.length → Q (.ref s.heap.objs.size) { s with heap := h', toks := tk }) :
    wpAny (model prog w) A (call (.type "list") [.ref d]) Q E s :=
  let ⟨_, e⟩ := hm.dictAt; PySem.W.kdl_call (PySem.W.kdl_dict hd) hh e (by rw [sizeLine_eq]; omega) hQ
end
def keysV (kvs : List (Key × V)) : List V := kvs.map fun kv => kV kv.1
theorem keyIs_rel {k : Key} {v : Value} (h : keyIs k v = true) : RelV (kV k) v := by
  rcases keyIs_shape h with ⟨i, t, rfl, rfl⟩ | ⟨x, t, rfl, rfl⟩
  · exact ⟨t, rfl⟩
  · exact ⟨t, rfl⟩
theorem vals_of {xs : List V} {us : List Value} (hl : xs.length = us.length) (h : ∀ (i : Nat) (x : V) (u : Value), xs[i]? = some x → us[i]? = some u → RelV x u) : Vals xs us := by
  induction xs generalizing us with
  | nil => cases us with
    | nil => exact .nil
    | cons => simp at hl
  | cons x xs ih => cases us with
    | nil => simp at hl
    | cons u us => exact .cons (h 0 x u rfl rfl) (ih (by simpa using hl) fun i y v h1 h2 => h (i + 1) y v (by simpa using h1) (by simpa using h2))
section
variable {X : Cx}
theorem keys_vals {P : Program} {w : World} {kvs : List (Key × V)} {vs : List (Key × Value)} {acc : Array Value} (r : KV kvs vs) (h : ItemsOf (KeyAt (mixKind P w) vs) acc vs.length) : Vals (keysV kvs) acc.toList := by
  have hl := r.length
  have hk := r.keys
  refine vals_of (by unfold keysV; rw [List.length_map, hl]; simpa using h.1.symm) fun i x u hx hu => ?_
  unfold keysV at hx
  rw [List.getElem?_map] at hx
  obtain ⟨kv, hkv, rfl⟩ := Option.map_eq_some_iff.mp hx
  have hu' : acc[i]? = some u := by simpa using hu
  obtain ⟨k, y, hy, hi⟩ := h.2 i u hu'
  have e1 : (kvs.map (·.1))[i]? = some kv.1 := by rw [List.getElem?_map, hkv]; rfl
  have e2 : (vs.map (·.1))[i]? = some k := by rw [List.getElem?_map, hy]; rfl
  rw [hk, e2] at e1
  cases e1
  exact keyIs_rel hi
theorem listD0 (hc : X.calm = true) : CallR X (.type "list") (fun xs H Q => ∃ p kvs, xs = [.ref p] ∧ H p = some (.dK kvs) ∧ kvs.length ≤ 2 ^ 24 ∧ ∀ (l : Addr) (H2 : Hp), H l = none → Same H H2 → H2 l = some (.lst (keysV kvs)) → Q (.ref l) H2) := by
  intro pins s σ H xs us Q I r h
  obtain ⟨p, kvs, rfl, e, hl, q⟩ := h
  obtain ⟨u, rfl, rx⟩ := vals1 r
  cases rx
  obtain ⟨z, hd, vs, rel, dd⟩ := dk_of I.hok e
  refine call_list_dict (I.ok.hd hc) hd dd (by rw [← rel.length]; exact hl) fun h' tk acc' c' kp ea hit => ?_
  have hf := I.hok.fresh (Nat.le_refl _)
  refine ⟨.ref s.heap.objs.size, _, I.laid (t' := tk) kp (Nat.le_refl _) (show ObjOk X.prog X.w _ h' _ (.lst (keysV kvs)) from ⟨by unfold keysV; rw [List.length_map]; exact z, acc'.toList, c', keys_vals rel hit, by simpa using ea⟩), rfl, q _ _ hf (same_upd hf) upd_same⟩
theorem Inv.freeze {pins : List (Addr × Obj)} {σ : St} {H : Hp} {s : Shared} {a : Addr} {kvs : List (Key × V)} (I : Inv X pins σ H s) (e : H a = some (.dK kvs)) : ∃ o, s.heap.get? a = some o ∧ Inv X pins σ (upd H a (.frz o (.dK kvs))) s := by
  obtain ⟨z, hd, vs, rel, dd⟩ := dk_of I.hok e
  obtain ⟨o, es, ep, ho, r⟩ := dd
  refine ⟨o, ho, ?_⟩
  exact I.write (x := a) (e := a) (h' := s.heap) (t' := s.toks) (by rw [e]; exact True.intro) (.inl rfl) (fun b q _ w => w) ⟨o, ho⟩ ⟨ho, z, hd, vs, rel, o, es, ep, ho, r⟩
theorem turn_dict {P : Program} {w : World} {K : PySem.W.Frag} {tg : Expr} (a it : Addr) (kvs : List (Key × V)) (o : Obj) (es : Array DictEntry) (ep : Nat) (ho : o.data = .dict es ep) :
    Turn P w K tg (ItS (fun H => H a = some (.frz o (.dK kvs))) (keysV kvs)) [it] it (fun i h => h.IsKeyIter it a i kvs.length ep) where
  mem := by simp
  obj := fun i h st b hb => by
    have e : b = it := by simpa using hb
    subst e
    obtain ⟨o, e, c, d⟩ := st
    exact ⟨o, e, fun v z => by rw [d] at z; cases z⟩
  keep := fun i h h' st k => st.at fun o e => k it (by simp) o e
  item := by
    intro X hP hw hK hc i pins s σ H E I hf st hg
    subst hP hw hK
    obtain ⟨hq, hx⟩ := hg
    obtain ⟨e1, z, hd, vs, rel, o2, es2, ep2, h1, h2, h3, h4, h5, h6⟩ := (show ObjOk X.prog X.w H s.heap a (.frz o (.dK kvs)) from I.hok a _ hq)
    rw [e1] at h1
    cases h1
    rw [ho] at h3
    cases h3
    have hda : s.heap.DictAt (mixKind X.prog X.w) a vs ep := ⟨o, es, e1, h2, ho, h4, h5, h6⟩
    obtain ⟨f0, f1, f2, f3, f4, f5⟩ := hf it (by simp)
    have hl := rel.length
    have hi : i < vs.length := by unfold keysV at hx; rw [List.length_map] at hx; omega
    obtain ⟨⟨k, v⟩, hv⟩ : ∃ p, vs[i]? = some p := ⟨vs[i], by simp [hi]⟩
    have hkk := rel.keys
    rw [hl] at st
    refine wpAny_pyNext_dict_item st hda hv fun key h' hkey st' sb => ?_
    have I1 : Inv X pins σ H { s with heap := h' } := I.turned (t' := s.toks) (fun b o hb e => (sb.2 b hb).trans e) f0 f1 f3 f4 f5
    have ek : (keysV kvs)[i]? = some (kV k) := by
      have e3 : (kvs.map (·.1))[i]? = some k := by rw [hkk, List.getElem?_map, hv]; rfl
      unfold keysV
      rw [List.getElem?_map] at e3 ⊢
      obtain ⟨kv, q1, q2⟩ := Option.map_eq_some_iff.mp e3
      rw [q1, ← q2]
      rfl
    obtain ⟨oi, e, c, d⟩ := id st'
    refine ⟨key, rfl, go_of (s := { s with heap := h' }) e c d (by decide) ⟨kV k, H, I1, keyIs_rel hkey, ⟨rfl, ek⟩, by rw [hl]; exact st', fun b hb => (hf b hb).1⟩⟩
  done := by
    intro X hP hw hK hc i pins s σ H E I hf st hg
    subst hP hw hK
    obtain ⟨hq, hx⟩ := hg
    obtain ⟨e1, z, hd, vs, rel, o2, es2, ep2, h1, h2, h3, h4, h5, h6⟩ := (show ObjOk X.prog X.w H s.heap a (.frz o (.dK kvs)) from I.hok a _ hq)
    rw [e1] at h1
    cases h1
    rw [ho] at h3
    cases h3
    have hda : s.heap.DictAt (mixKind X.prog X.w) a vs ep := ⟨o, es, e1, h2, ho, h4, h5, h6⟩
    obtain ⟨f0, f1, f2, f3, f4, f5⟩ := hf it (by simp)
    have hl := rel.length
    rw [hl] at st
    have hi : vs.length ≤ i := by unfold keysV at hx; rw [List.length_map] at hx; omega
    exact wpAny_pyNext_dict_end (I.ok.hd hc) st hda (by simp; omega) fun h' eb => ⟨rfl, I.turned (t' := s.toks) (fun b o hb e => eb b o hb e) f0 f1 f3 f4 f5⟩
  self := fun _ _ _ _ _ st h => wpAny_pyIter_keyiter st h
def iDk (tl : TE) : TI := fun σ H R => tl σ H fun x H1 => ∃ a kvs, x = .ref a ∧ Rd H1 a (.dK kvs) ∧ ∀ o H2, H2 a = some (.frz o (.dK kvs)) → But a H1 H2 → R (ItS (fun H => H a = some (.frz o (.dK kvs))) (keysV kvs)) H2
theorem a_iDk {tl : TE} {σ : St} {H : Hp} {R : It → Hp → Prop} : iDk tl σ H R = tl σ H fun x H1 => ∃ a kvs, x = .ref a ∧ Rd H1 a (.dK kvs) ∧ ∀ o H2, H2 a = some (.frz o (.dK kvs)) → But a H1 H2 → R (ItS (fun H => H a = some (.frz o (.dK kvs))) (keysV kvs)) H2 := rfl
theorem pi_dk {tg l : Expr} {tl : TE} (hl : PE X l tl) : PI X tg l (iDk tl) := by
  intro pins s σ H R I h
  refine thn (hl pins s σ H _ I h) fun v s1 ⟨x, H1, I1, r1, q1⟩ => ?_
  obtain ⟨a, kvs, e, hq, q⟩ := q1
  subst e
  cases r1
  obtain ⟨o, H2, ho, I2, e2, b2⟩ : ∃ o H2, s1.heap.get? a = some o ∧ Inv X pins σ H2 s1 ∧ H2 a = some (.frz o (.dK kvs)) ∧ But a H1 H2 := by
    rcases hq with hq | ⟨o, hq⟩
    · obtain ⟨o, ho, I2⟩ := I1.freeze hq
      exact ⟨o, _, ho, I2, upd_same, But.upd⟩
    · exact ⟨o, H1, (show ObjOk X.prog X.w H1 s1.heap a (.frz o (.dK kvs)) from I1.hok a _ hq).1, I1, hq, fun _ _ => rfl⟩
  obtain ⟨z, hd, vs, rel, o2, es, ep, h1, h2, h3, h4⟩ := dk_rd I1.hok hq
  rw [ho] at h1
  cases h1
  refine wpAny_pyIter_dict (knd := mixKind X.prog X.w) (kvs := vs) (ep := ep) hd ⟨o, es, ho, h2, h3, h4⟩ ?_
  refine ⟨s1.heap.objs.size, [s1.heap.objs.size], _, _, _, rfl, I2.kept (t' := s1.toks) fun b o e => Heap.get?_push_of_some _ e, turn_dict a _ kvs o es ep h3, ?_, fun b hb => ?_, q o H2 e2 b2⟩
  · rw [rel.length]
    exact ⟨_, Heap.get?_push_size _ rfl, rfl, rfl⟩
  · have e : b = s1.heap.objs.size := by simpa using hb
    subst e
    exact I2.fpOk (Nat.le_refl _) (I2.hok.fresh (Nat.le_refl _))
def rGetI (x y : V) (H : Hp) (Q : VK) : Prop := ∃ a kvs k v, x = .ref a ∧ y = .int k ∧ Rd H a (.dK kvs) ∧ valV kvs (Sum.inl k) = some v ∧ Q v H
def rSetI (x y v : V) (H : Hp) (Q : Hp → Prop) : Prop := ∃ a kvs k, x = .ref a ∧ y = .int k ∧ H a = some (.dK kvs) ∧ kvs.length < sizeLine ∧ Q (upd H a (.dK (putK kvs (Sum.inl k) v)))
theorem dget_i {H : Hp} {a : Addr} {kvs : List (Key × V)} {k : Int} {v : V} (e : Rd H a (.dK kvs)) (hv : valV kvs (Sum.inl k) = some v) : DGet H a (.int k) (some v) := .inl ⟨kvs, Sum.inl k, e, rfl, hv.symm⟩
theorem set_int (hu : X.A.units + 1 < cLine) : PSet X rSetI := by
  intro pins s σ H o i v ov iv u Q I ro ri rv h
  obtain ⟨a, kvs, k, rfl, rfl, e, l, q⟩ := h
  obtain rfl : ov = Value.ref a := ro
  exact d_setItem hu I (DPut.k (k := Sum.inl k) e l) ri rv fun s' I' => ⟨_, I', q⟩
theorem pe_iget {o i : Expr} {pos : Pos} {td ti : TE} (hu : X.A.units + 1 < cLine) (ho : PE X o td) (hi : PE X i ti) (hs : NoSl i) : PE X (.Subscript o i pos) (tOp rGetI td ti) := by
  intro pins s σ H Q I h
  refine subD_of PySem.F.slot_dict_getitem.lookup hs (thn (ho pins s σ H _ I h) fun u s1 ⟨x, H1, I1, rx, q1⟩ => thn (hi pins s1 σ H1 _ I1 q1) fun iv s2 ⟨y, H2, I2, ry, a, kvs, k, v, ex, ey, e, hv, q2⟩ => ?_)
  subst ex ey
  obtain rfl : u = Value.ref a := rx
  have g := dget_i e hv
  exact ⟨dict_typeIs I2 g, d_getItem hu I2 g ry fun w' s3 I3 rw' => ⟨v, H2, I3, rw', q2⟩⟩
def tDGetI (td ty tx : TE) : TE := fun σ H Q => td σ H fun x H1 => ∃ a kvs, x = .ref a ∧ Rd H1 a (.dK kvs) ∧ ty σ H1 fun y H2 => tx σ H2 fun z H3 => ∃ k, y = .int k ∧ Rd H3 a (.dK kvs) ∧ Q ((valV kvs (Sum.inl k)).getD z) H3
theorem pe_igetD {o e f : Expr} {apos cpos : Pos} {td ty tx : TE} (hu : X.A.units + 1 < cLine) (ho : PE X o td) (he : PE X e ty) (hf : PE X f tx) (m : M2 X o "get" apos e f cpos) : PE X (.Call (.Attribute o "get" apos) [e, f] [] cpos) (tDGetI td ty tx) := by
  intro pins s σ H Q I h
  refine wpAny_Call_method m.base m.few m.line PySem.F.plainAttrs_dict PySem.F.slot_dict_get PySem.F.type_dict_get (thn (ho pins s σ H _ I h) fun u s1 ⟨x, H1, I1, rx, a, kvs, ex, d, q1⟩ => ?_)
  subst ex
  obtain rfl : u = Value.ref a := rx
  obtain ⟨t1, t2, _⟩ := isD_at I1 (.inl ⟨kvs, d⟩)
  refine ⟨t1, t2, ?_⟩
  rw [m.trees]
  refine Calls.callWith_builtin rfl (Calls.evalArgs_plain (Calls.spliced_cons (thn (he pins s1 σ H1 _ I1 q1) fun iv s2 ⟨y, H2, I2, ry, q2⟩ =>
    Calls.spliced_cons (thn (hf pins s2 σ H2 _ I2 q2) fun fv s3 ⟨z, H3, I3, rz, k, ey, g, q3⟩ => Calls.spliced_nil ?_))))
  subst ey
  exact d_get2 hu I3 (.inl ⟨kvs, Sum.inl k, g, rfl, rfl⟩) ry rz fun w' s4 I4 rw' => ⟨_, H3, I4, rw', q3⟩
theorem a_rGetI {x y : V} {H : Hp} {Q : VK} : rGetI x y H Q = ∃ a kvs k v, x = .ref a ∧ y = .int k ∧ Rd H a (.dK kvs) ∧ valV kvs (Sum.inl k) = some v ∧ Q v H := rfl
theorem a_rSetI {x y v : V} {H : Hp} {Q : Hp → Prop} : rSetI x y v H Q = ∃ a kvs k, x = .ref a ∧ y = .int k ∧ H a = some (.dK kvs) ∧ kvs.length < sizeLine ∧ Q (upd H a (.dK (putK kvs (Sum.inl k) v))) := rfl
theorem a_tDGetI {td ty tx : TE} {σ : St} {H : Hp} {Q : VK} : tDGetI td ty tx σ H Q = td σ H fun x H1 => ∃ a kvs, x = .ref a ∧ Rd H1 a (.dK kvs) ∧ ty σ H1 fun y H2 => tx σ H2 fun z H3 => ∃ k, y = .int k ∧ Rd H3 a (.dK kvs) ∧ Q ((valV kvs (Sum.inl k)).getD z) H3 := rfl
end
end L2
end
section
set_option Elab.async false
set_option linter.all false
set_option maxRecDepth 100000
namespace L2
open PySem PySem.Spec PyProof.Rows
def cxk (X : Cx) (N : List Str) (sc : Scope) (y : Str) (cl : List (Str × Addr)) (s : Shared) (H : Hp) (ex : List Addr) : Cx where
  prog := X.prog
  w := X.w
  K := X.K
  mg := X.mg
  base := X.base
  A := X.A
  N := N
  s₀ := s
  H₀ := H
  env := compEnvC sc ((y, s.heap.objs.size + 1) :: cl) s.heap.objs.size X.env
  outer := X.stack
  stack := X.stack
  ex := ex
  fn := fun x => x == y
  calm := X.calm
  pn := []
  xe := fun _ _ => False
structure CScope1 (X : Cx) (N : List Str) (fr : List (Option Nat)) (sc : Scope) (y : Str) : Prop where
  kind : sc.kind = .function
  cell : ∀ z ∈ sc.names, z.2 = NameKind.cell → z.1 = y
  loc : ∀ z ∈ sc.names, z.2 = .local → sc.names.lookup z.1 = some .local
  own : sc.names.lookup y = some .cell
  len : fr.length = N.length
  fr : ∀ (i j : Nat), fr[i]? = some (some j) → ∃ x, N[i]? = some x ∧ X.N[j]? = some x ∧ sc.names.lookup x = some .free ∧ (X.env.kindOf x = some .cell ∨ X.env.kindOf x = some .free)
  from1 : ∀ n cl, cellsFrom n sc.names cl = (y, n) :: cl
  push1 : ∀ h, pushCells h sc.names = h.push { cls := .type "cell", data := .cell none }
def okLoc1 (y : Str) (names : List (Str × NameKind)) : Bool := names.all fun z => (z.2 != .cell || z.1 == y) && (z.2 != .local || names.lookup z.1 == some .local)
theorem CScope1.of {X : Cx} {N : List Str} {fr : List (Option Nat)} {sc : Scope} {y : Str} (h1 : sc.kind = .function) (h2 : okLoc1 y sc.names = true) (h3 : okFr X.N X.env.scope.names sc.names N fr = true) (h4 : sc.names.lookup y = some .cell)
    (h5 : ∀ n cl, cellsFrom n sc.names cl = (y, n) :: cl) (h6 : ∀ h, pushCells h sc.names = h.push { cls := .type "cell", data := .cell none }) : CScope1 X N fr sc y := by
  have h2' := List.all_eq_true.mp h2
  refine ⟨h1, fun z hz e => ?_, fun z hz e => ?_, h4, okFr_len h3, fun i j e => okFr_get h3 e, h5, h6⟩
  · have q := h2' z hz
    rw [e] at q
    simp at q
    exact q
  · have q := h2' z hz
    rw [e] at q
    simp at q
    exact q
theorem relabel_one {env : Env} {y : Str} : ∀ {names : List (Str × NameKind)} {x : Str}, (∀ z ∈ names, z.2 = NameKind.cell → z.1 = y) →
    ((names.map fun (n, k) => if (k == NameKind.free && env.scope.kind == .function && env.kindOf n == some .cell) then (n, NameKind.cell) else (n, k)).lookup x = some .cell ∨
     (names.map fun (n, k) => if (k == NameKind.free && env.scope.kind == .function && env.kindOf n == some .cell) then (n, NameKind.cell) else (n, k)).lookup x = some .free) → x = y ∨ (x, NameKind.free) ∈ names
  | [], x, _, h => by simp at h
  | (n, k) :: r, x, hc, h => by
    have ih := @relabel_one env y r x (fun z hz => hc z (List.mem_cons_of_mem _ hz))
    rw [List.map_cons] at h
    cases hx : x == n with
    | true =>
      have e : x = n := by simpa using hx
      subst e
      by_cases hk : k = NameKind.free
      · subst hk; exact .inr List.mem_cons_self
      · have hb : (k == NameKind.free) = false := by simpa using hk
        simp only [hb, Bool.false_and, Bool.false_eq_true, if_false, List.lookup_cons, beq_self_eq_true] at h
        rcases h with h | h
        · exact .inl (hc (x, k) List.mem_cons_self (Option.some.inj h))
        · exact absurd (Option.some.inj h) hk
    | false =>
      refine (ih ?_).imp id (List.mem_cons_of_mem _)
      by_cases hcnd : (k == NameKind.free && env.scope.kind == .function && env.kindOf n == some .cell) = true
      · simp only [hcnd, if_true, List.lookup_cons, hx] at h; exact h
      · simp only [hcnd, if_false, List.lookup_cons, hx, Bool.false_eq_true] at h; exact h
theorem look1 {y x : Str} {n c : Addr} {cl : List (Str × Addr)} (h : ((y, n) :: cl).lookup x = some c) : (x = y ∧ c = n) ∨ (x ≠ y ∧ cl.lookup x = some c) := by
  rw [List.lookup_cons] at h
  cases e : x == y with
  | true => rw [e] at h; cases h; exact .inl ⟨by simpa using e, rfl⟩
  | false => rw [e] at h; exact .inr ⟨by simpa using e, h⟩
theorem look1_of {y x : Str} {n c : Addr} {cl : List (Str × Addr)} (ne : x ≠ y) (h : cl.lookup x = some c) : ((y, n) :: cl).lookup x = some c := by
  rw [List.lookup_cons]
  have e : (x == y) = false := by simpa using ne
  rw [e]
  exact h
section
variable {X : Cx} {pins : List (Addr × Obj)} {σ : St} {H H' : Hp} {s : Shared}
theorem Inv.block1 {N : List Str} {fr : List (Option Nat)} {sc : Scope} {y : Str} {cl : List (Str × Addr)} {ex : List Addr} {h1 : Heap} {tk : Nat} (I : Inv X pins σ H s) (S : CScope1 X N fr sc y) (hcl : clos sc.names X.env.cells [] = some cl)
    (hex : ∀ b ∈ ex, FpOk X pins H b ∧ b < s.heap.objs.size) (hns : h1.Ns s.heap.objs.size (fun _ => none)) (hce : h1.IsCell (s.heap.objs.size + 1) none) (hk : ∀ b u, s.heap.get? b = some u → h1.get? b = some u) :
    Inv (cxk X N sc y cl s H ex) [] (frS fr σ) H { s with heap := h1, toks := tk } := by
  have hfree : H s.heap.objs.size = none := I.hok.fresh (Nat.le_refl _)
  have clt : ∀ x c, cl.lookup x = some c → c < s.heap.objs.size := fun x c e => by
    obtain ⟨v, q⟩ := I.cell x c (clos_lookup hcl e)
    exact q.lt
  refine ⟨⟨I.ok.mod, S.kind, I.ok.glob, I.ok.blt, Nat.le_refl _, fun x z c h1 h2 => ?_, fun x hx => ?_, fun x c z h1 => ?_, I.ok.hd, I.ok.frames, Or.inl rfl, fun b hb => ?_, I.bs, Nat.le_trans I.ok.bsz I.sz, fun b o e hb => ?_, fun b hb hf => ?_, I.stack, I.stkFree⟩,
    rfl, I.bare, Un.kept hk, ⟨_, hns, fun i x v h1 h2 h3 => ?_⟩, fun x c e => ?_, hfree, fun x c e => ?_, fun p hp => absurd (show p ∈ ([] : List (Addr × Obj)) from hp) (by simp), I.hok.kept hk, ?_⟩
  · rcases look1 h1 with ⟨e1, c1⟩ | ⟨_, e1⟩ <;> rcases look1 h2 with ⟨e2, c2⟩ | ⟨_, e2⟩
    · rw [e1, e2]
    · exact absurd (clt z c e2) (by rw [c1]; exact Nat.not_lt.mpr (Nat.le_succ _))
    · exact absurd (clt x c e1) (by rw [c2]; exact Nat.not_lt.mpr (Nat.le_succ _))
    · exact I.ok.inj x z c (clos_lookup hcl e1) (clos_lookup hcl e2)
  · have hx' : (relabel sc X.env).names.lookup x = some .cell ∨ (relabel sc X.env).names.lookup x = some .free := hx
    by_cases ne : x = y
    · exact ⟨s.heap.objs.size + 1, by show ((y, s.heap.objs.size + 1) :: cl).lookup x = _; rw [ne, List.lookup_cons]; simp⟩
    · rcases relabel_one S.cell hx' with e | e
      · exact absurd e ne
      · obtain ⟨c, hc⟩ := clos_has sc.names [] cl hcl x e
        obtain ⟨c', hc'⟩ := lookup_of_mem hc
        exact ⟨c', look1_of ne hc'⟩
  · have e : x = y := by simpa using (show (x == y) = true from z)
    rcases look1 h1 with ⟨_, c1⟩ | ⟨ne, _⟩
    · show s.heap.objs.size ≤ c
      rw [c1]
      exact Nat.le_succ _
    · exact absurd e ne
  · obtain ⟨⟨f0, f1, f2, f3, f4, f5⟩, lt⟩ := hex b hb
    refine ⟨Nat.ne_of_lt lt, fun x c e => ?_⟩
    rcases look1 e with ⟨_, c1⟩ | ⟨_, e1⟩
    · rw [c1]
      exact fun z => absurd lt (by rw [← z]; exact Nat.not_lt.mpr (Nat.le_succ _))
    · exact f4 x c (clos_lookup hcl e1)
  · obtain ⟨⟨f0, f1, f2, f3, f4, f5⟩, lt⟩ := hex b hb
    rcases f3 with f3 | f3
    · exact I.ok.noex b o e f3
    · exact absurd (Nat.lt_of_lt_of_le (Heap.lt_size e) I.ok.bsz) (Nat.not_lt.mpr f3)
  · obtain ⟨⟨f0, f1, f2, f3, f4, f5⟩, lt⟩ := hex b hb
    rcases List.mem_cons.mp (I.stkSub b hf) with e | e
    · exact f1 e
    · exact f2 e
  · obtain ⟨j, hj, hv⟩ := frS_get h2
    obtain ⟨x', e1, e2, e3, e4⟩ := S.fr i j hj
    have hN : N[i]? = some x := h1
    rw [hN] at e1
    cases e1
    have ne : x ≠ y := fun z => by rw [z, S.own] at e3; cases e3
    obtain ⟨c, hc⟩ := clos_has sc.names [] cl hcl x (PySem.mem_of_lookup e3)
    obtain ⟨c', hc'⟩ := lookup_of_mem hc
    have hcX := clos_lookup hcl hc'
    obtain ⟨m, hn, hl⟩ := I.loc
    have kc : (relabel sc X.env).names.lookup x = some .cell ∨ (relabel sc X.env).names.lookup x = some .free := lookup_relabel_free e3
    have vis : Vis X.env.scope x ∧ (X.env.kindOf x ≠ some .local) := by
      rcases e4 with q | q
      · exact ⟨.inr (.inl q), by rw [q]; decide⟩
      · exact ⟨.inr (.inr q), by rw [q]; decide⟩
    obtain ⟨u, r, l⟩ := hl j x v e2 hv vis.1
    refine ⟨u, r, .inr ⟨kc, c', look1_of ne hc', ?_⟩⟩
    rcases l with ⟨q, _⟩ | ⟨_, d, hd, hcell⟩
    · exact absurd q vis.2
    · rw [hcX] at hd
      cases hd
      exact hcell.keeps hk
  · rcases look1 e with ⟨_, c1⟩ | ⟨_, e1⟩
    · exact ⟨none, by rw [c1]; exact hce⟩
    · obtain ⟨v, q⟩ := I.cell x c (clos_lookup hcl e1)
      exact ⟨v, q.keeps hk⟩
  · rcases look1 e with ⟨_, c1⟩ | ⟨_, e1⟩
    · rw [c1]
      exact I.hok.fresh (Nat.le_succ _)
    · exact I.freeC x c (clos_lookup hcl e1)
  · show (frS fr σ).length = N.length
    unfold frS
    rw [List.length_map]; exact S.len
theorem Inv.unblock1 {N : List Str} {sc : Scope} {y : Str} {cl : List (Str × Addr)} {ex : List Addr} {pins' : List (Addr × Obj)} {σ' : St} {s' : Shared} {h' : Heap} (I : Inv X pins σ H s) (J : Inv (cxk X N sc y cl s H ex) pins' σ' H' s')
    (hex : ∀ b ∈ ex, FpOk X pins H b) (sb : Heap.SameBut s.heap.objs.size s'.heap h') : Inv X pins σ H' { s' with heap := h' } := by
  have free : H' s.heap.objs.size = none := J.free
  have eq : ∀ b, b ≠ s.heap.objs.size → h'.get? b = s'.heap.get? b := sb.2
  have ne : ∀ b o, s.heap.get? b = some o → b ≠ s.heap.objs.size := fun b o e => Nat.ne_of_lt (Heap.lt_size e)
  have B : Un (frs X.stack) ex H H' s.heap s'.heap := J.base
  refine I.call' (s' := { s' with heap := h' }) (ch := ex) J.os ⟨fun b o q n hb hx => (eq b (ne b o q)).trans (B.keep b o q n hb hx), fun b o q n hb hx => ?_, B.free, fun b o q hx => ?_, B.tups, B.frzs, B.tbls⟩ (fun a o e => ?_) J.bare (fun b hb => ?_)
  · obtain ⟨sl, e⟩ := B.slot b o q n hb hx
    exact ⟨sl, (eq b (ne b o q)).trans e⟩
  · obtain ⟨o', e⟩ := B.there b o q hx
    exact ⟨o', (eq b (ne b o q)).trans e⟩
  · refine (J.hok a o e).stay (fun b u hb q => ?_) (fun _ q => q) fun _ _ q => q
    refine (eq b ?_).trans q
    rcases hb with rfl | hb
    · exact ne_of_none e free
    · exact ne_of_none hb free
  · obtain ⟨f0, f1, f2, f3, f4, f5⟩ := hex b hb
    exact ⟨f3, f1, f4, f5⟩
end
theorem newEnv_cell {M : Model} {A : Around} {E : Value → Shared → Prop} {s : Shared} {scope : Scope} {globals : Addr} {cl : List (Str × Addr)} {y : Str} {qual : Str} {outer : Env} {Q : Env → Shared → Prop}
    (h5 : ∀ n cl, cellsFrom n scope.names cl = (y, n) :: cl) (h6 : ∀ h, pushCells h scope.names = h.push { cls := .type "cell", data := .cell none })
    (hQ : ∀ h', h'.Ns s.heap.objs.size (fun _ => none) → h'.IsCell (s.heap.objs.size + 1) none → (∀ b u, s.heap.get? b = some u → h'.get? b = some u) →
      Q { scope, locals := s.heap.objs.size, globals, cells := (y, s.heap.objs.size + 1) :: cl, qual, func := none, code := outer.code, frame := outer.frame, builtins := outer.builtins } { s with heap := h' }) :
    wpAny M A (newFunctionEnv scope globals cl [] qual none .none (some outer)) Q E s := by
  simp only [newFunctionEnv, Option.isSome_some, if_true]
  refine wpAny_bind (wpAny_alloc ?_)
  refine wpAny_bind (wpAny_layCells _ (fun name kind cells => by cases hkc : kind == NameKind.cell <;> simp [hkc]) _ _ _ _ ?_)
  rw [h5, h6]
  rw [show ({ s with heap := s.heap.push { cls := .type "dict", data := .dict #[] } } : Shared).heap.objs.size = s.heap.objs.size + 1 from Heap.size_push ..]
  refine wpAny_bind ?_
  rw [List.forIn_nil]
  refine wpAny_pure (wpAny_pure (hQ _ ?_ ?_ ?_))
  · exact (Heap.Ns.new ..).keeps fun b o e => Heap.get?_push_of_some _ e
  · refine ⟨{ cls := .type "cell", data := .cell none }, ?_, rfl⟩
    have : ((s.heap.push { cls := .type "dict", data := .dict #[] }).push { cls := .type "cell", data := .cell none }).get? (s.heap.push { cls := .type "dict", data := .dict #[] }).objs.size = some { cls := .type "cell", data := .cell none } := Heap.get?_push_size _ rfl
    rwa [Heap.size_push] at this
  · exact fun b u e => Heap.get?_push_of_some _ (Heap.get?_push_of_some _ e)
section
variable {X : Cx}
theorem lc_entry1 {N : List Str} {fr : List (Option Nat)} {e tg iter : Expr} {ifs : List Expr} {gs : List Comprehension} {sc : Scope} {y : Str} {ip : Pos} {cl : List (Str × Addr)} {wi : TI} {D : It → Addr → St → Hp → Prop} {pins : List (Addr × Obj)} {σ : St} {H : Hp} {s : Shared} {Q : VK}
    (he : clausesOf e = ⟨tg, iter, ifs, 0⟩ :: gs) (hi : PI X tg iter wi) (S : CScope1 X N fr sc y) (hcl : clos sc.names X.env.cells [] = some cl) (I : Inv X pins σ H s)
    (h : wi σ H fun J H1 => ∀ p, H1 p = none → D J p (frS fr σ) (upd H1 p (.lst [])))
    (loop : ∀ (it p : Addr) (fp : List Addr) (tn : Nat → Heap → Prop) (J : It) (s1 s2 : Shared) (H1 : Hp) (σ1 : St), Turn X.prog X.w X.K tg J fp it tn → Inv (cxk X N sc y cl s1 H1 fp) [] σ1 H1 s2 → tn 0 s2.heap → (∀ b ∈ fp, FpOk (cxk X N sc y cl s1 H1 fp) [] H1 b) → D J p σ1 H1 →
      codeAny (model X.prog X.w) X.A (.compStart e 0 (.ref it) (.ref p) (compEnvC sc ((y, s1.heap.objs.size + 1) :: cl) s1.heap.objs.size X.env)) (fun r s' => r = .ok .next ∧ ∃ σ' H', Inv (cxk X N sc y cl s1 H1 fp) [] σ' H' s' ∧ Q (.ref p) H') s2)
    (hs : ∀ x, foldedSetIterable iter X.env x = pure x) :
    wpAny (model X.prog X.w) X.A (comprehension e sc X.env ip (newList []) false (eval iter X.env)) (EP X pins σ Q) X.xe s := by
  refine wpAny_comprehension_free (use := none) he hs (closureFor_clos hcl) S.kind S.loc ?_
  refine thn (hi pins s σ H _ I h) fun v s1 h1 => thn h1 fun itv s2 ⟨it, fp, tn, J, H2, e2, I2, T, st2, f2, q⟩ => ?_
  subst e2
  refine wpAny_newObj_type ?_
  have hp : H2 s2.heap.objs.size = none := I2.hok.fresh (Nat.le_refl _)
  have I3 : Inv X pins σ (upd H2 s2.heap.objs.size (.lst [])) { s2 with heap := s2.heap.push { cls := .type "list", data := .seq ([] : List Value).toArray }, toks := s2.toks } := I2.lnew (its := []) (ys := []) .nil (Nat.zero_le _)
  have lt2 : ∀ b ∈ fp, b < s2.heap.objs.size := fun b hb => let ⟨o, e, _⟩ := T.obj 0 _ st2 b hb; Heap.lt_size e
  have f3 : ∀ b ∈ fp, FpOk X pins (upd H2 s2.heap.objs.size (.lst [])) b := fun b hb => ⟨by rw [upd_ne (Nat.ne_of_lt (lt2 b hb))]; exact (f2 b hb).1, (f2 b hb).2⟩
  have st3 : tn 0 (s2.heap.push { cls := .type "list", data := .seq ([] : List Value).toArray }) := T.keep _ _ _ st2 fun b _ o e => Heap.get?_push_of_some _ e
  refine newEnv_cell S.from1 S.push1 fun h₁ hns hce hk => ?_
  generalize hs3 : ({ s2 with heap := s2.heap.push { cls := .type "list", data := .seq ([] : List Value).toArray } } : Shared) = s3 at hns hce hk ⊢
  have I3' : Inv X pins σ (upd H2 s2.heap.objs.size (.lst [])) s3 := by rw [← hs3]; exact I3
  have st3' : tn 0 s3.heap := by rw [← hs3]; exact st3
  have lt3 : ∀ b ∈ fp, b < s3.heap.objs.size := fun b hb => let ⟨o, e, _⟩ := T.obj 0 _ st3' b hb; Heap.lt_size e
  have B := I3'.block1 (N := N) (fr := fr) (sc := sc) (y := y) (cl := cl) (ex := fp) (h1 := h₁) (tk := s3.toks) S hcl (fun b hb => ⟨f3 b hb, lt3 b hb⟩) hns hce hk
  have stB : tn 0 h₁ := T.keep _ _ _ st3' fun b _ o e => hk b o e
  refine codeAny_mono (loop it s2.heap.objs.size fp tn J s3 _ (upd H2 s2.heap.objs.size (.lst [])) (frS fr σ) T B stB (fun b hb => ?_) (q _ hp)) fun r s' hr => ?_
  · obtain ⟨f0, f1, f2', f3', f4, f5⟩ := f3 b hb
    refine ⟨f0, Nat.ne_of_lt (lt3 b hb), fun z => ?_, .inl hb, fun x c e => ?_, fun p hp' => absurd (show p ∈ ([] : List (Addr × Obj)) from hp') (by simp)⟩
    · rcases List.mem_cons.mp (I3'.stkSub b z) with e | e
      · exact f1 e
      · exact f2' e
    · rcases look1 e with ⟨_, c1⟩ | ⟨_, e1⟩
      · rw [c1]
        exact fun z => absurd (lt3 b hb) (by rw [← z]; exact Nat.not_lt.mpr (Nat.le_succ _))
      · exact f4 x c (clos_lookup hcl e1)
  · obtain ⟨rfl, σ', H', J', q'⟩ := hr
    obtain ⟨m, hn, _⟩ := J'.loc
    exact ⟨m, hn, fun h' sb => ⟨.ref s2.heap.objs.size, H', I3'.unblock1 J' f3 sb, rfl, q'⟩⟩
theorem pe_lcK {N : List Str} {fr : List (Option Nat)} {tg iter elt : Expr} {ifs : List Expr} {sc : Scope} {pos : Pos} (y : Str) {cl : List (Str × Addr)} {wi : TI} {g : TG} {tc : TT} {te : TE} (hc : X.calm = true) (hi : PI X tg iter wi) (S : CScope1 X N fr sc y) (hcl : clos sc.names X.env.cells [] = some cl)
    (hb : ∀ s H ex, PG (cxk X N sc y cl s H ex) tg g ∧ PIfs (cxk X N sc y cl s H ex) ifs tc ∧ PE (cxk X N sc y cl s H ex) elt te) (hs : ∀ x, foldedSetIterable iter X.env x = pure x := by intro _; rfl) :
    PE X (.ListComp elt [⟨tg, iter, ifs, 0⟩] sc pos) (tLC fr wi g tc te) := by
  intro pins s σ H Q I h
  rw [eval_ListComp]
  refine lc_entry1 (D := fun J p σ H => tCL J g tc (tEmit p te) (fun _ H2 => Q (.ref p) H2) σ H) rfl hi S hcl I h (fun it p fp tn J s1 s2 H1 σ1 T B st f d => ?_) hs
  obtain ⟨hg, hifs, helt⟩ := hb s1 H1 fp
  have L := comp_loop (X := cxk X N sc y cl s1 H1 fp) (e := .ListComp elt [⟨tg, iter, ifs, 0⟩] sc pos) (d := 0) (acc := .ref p) (D := fun _ H2 => Q (.ref p) H2) (s := s2) hc rfl (compTurn_list elt tg iter ifs sc pos (.ref it) (.ref p) _) rfl rfl rfl T hg hifs (pb_emit helt) B st f d
  exact codeAny_compStart_list L (T.self X.A 0 s2 _ _ st L)
end
end L2
end
section
set_option Elab.async false
set_option linter.all false
set_option maxRecDepth 100000
set_option maxHeartbeats 8000000
namespace K10
open PySem L2
local macro_rules | `(tactic| walk_at "rd") => `(tactic| (try simp only [a_iDk, a_rGetI, a_rSetI, a_tDGetI, V.str.injEq, HO.dK.injEq, a_tAug, a_tDisp, a_prs0, a_prs, a_rGetK, a_rSetK, a_tAugS, a_ipI, a_tPop0, a_tCalK, g3r_is, g2r_is, g2_is, g1_is, a_tSeqL, a_tChain, a_tDict, a_tLstA, a_rMulT, a_rEqT, a_tIns, a_tRev, a_rSlA, a_rCatA, a_rCatL, a_tSeq, a_tFor, a_rIxL, a_iZip, a_tSortR, a_tSl, a_rSlL0, a_tNoPart, a_tPart, a_tApp, a_tRet, a_tRetN, a_tNext, a_tDrop, a_tAsg, a_gSub, a_gName, a_gNil, a_gCons, a_gTup0, a_rSetL, a_tIfS, a_tAnd, a_tOr, a_tNot, a_tTest, a_tB, a_tTrue, a_tIf, a_tAndV, a_tOrV, a_tNotV, a_tOp, a_tUn, a_rU, a_tVar, a_tC, a_rI0, a_rI, a_rEq, a_rNe, a_rIx0, a_rIn0, a_tCB, a_tCal, a_tCons, a_tNil, a_tTupA, a_tLst, a_tPar, a_tBits, a_tLC, a_iRng1, a_iRng2, a_iT0, a_iL0, a_tEmit, frS, scal, V.ty.injEq, tyN, subN, String.reduceEq, String.reduceBEq, Bool.true_or, Bool.false_or, Bool.or_false, Bool.true_and, Bool.false_and, Bool.and_false, or_true, true_or, beq_self_eq_true, decide_true, decide_false, List.map_cons, List.map_nil, List.length_cons, List.length_nil, List.getElem?_cons_zero, List.getElem?_cons_succ, List.getElem?_nil, List.set_cons_zero, List.set_cons_succ, Option.some.injEq, Option.bind_some, Option.bind_none, id, exists_eq_left', exists_eq_left, exists_and_left, exists_eq_right, V.int.injEq, V.bl.injEq, V.ref.injEq, List.cons.injEq, and_true, true_and, and_assoc, exists_const, atI0, atI1, atI2, ixN30, ixN31, ixN32, upd_same, upd_upd, sq_updL, sq_updT, Nat.zero_add, Nat.reduceAdd, reduceCtorEq, false_and, and_false, exists_false, false_or, or_false, List.length_map, HO.lst.injEq, HO.tup.injEq, Bool.false_eq_true, if_false, if_true, decide_eq_true_eq, ite_true, ite_false, reduceIte, Int.reduceLT, Int.reduceLE, Nat.reduceLT, Int.zero_add, Bool.not_true, Bool.not_false]))
def top (i : Nat) : Stmt := PySem.Challenge.pw_wantprices_k10_wants_of_pairs.main.body.getD i (.Pass ⟨0, 0, 0, 0⟩)
abbrev s_less : Stmt := top 1
abbrev s_heap_of : Stmt := top 2
abbrev s_is_within : Stmt := top 3
abbrev s_paired : Stmt := top 5
abbrev s_with_pair : Stmt := top 6
abbrev s__law_box : Stmt := top 8
abbrev s__law_take : Stmt := top 9
abbrev s__law_many : Stmt := top 10
abbrev s__law_rows : Stmt := top 11
abbrev s__law_same : Stmt := top 12
abbrev s__law_sums : Stmt := top 13
abbrev s__law_due : Stmt := top 14
abbrev s_law : Stmt := top 15
structure Txt (mg : Str → Option Value) : Prop where
  len_ : mg "len" = none
  sum_ : mg "sum" = none
  all_ : mg "all" = none
  abs_ : mg "abs" = none
  max_ : mg "max" = none
  min_ : mg "min" = none
  range_ : mg "range" = none
  tuple_ : mg "tuple" = none
  int_ : mg "int" = none
  zip_ : mg "zip" = none
  isinstance_ : mg "isinstance" = none
  bool_ : mg "bool" = none
  list_ : mg "list" = none
section
variable {P : Program} {w : World} {K : PySem.W.Frag} {mg : Str → Option Value} {base : Heap} {f : Addr} {fd : FuncData}
theorem sc__law_take : FnScope ["_law_box_here", "_law_many_here", "_law_digit"] ["_law_box_here", "_law_many_here"] (defScope s__law_take) := ⟨rfl, rfl, rfl, by decide +kernel, rfl, by decide +kernel, by decide +kernel⟩
theorem ok_take (F : Fun K "_law_take" "_law_take" s__law_take f fd) (hm : mg "_law_take" = some (.ref f)) (hb : Binds K fd ["_law_box_here", "_law_many_here"] []) (T : Txt mg) : Cal P w K mg base "_law_take" ["_law_box_here", "_law_many_here"] 1 spTake := by
  refine cal_of F hm hb sc__law_take (fun vs H Q E h => ?_) (fun cdv A outer s H vs Q E hr h => ?_)
  · obtain ⟨_, _, rfl, _⟩ := h; rfl
  · obtain ⟨p, many, rfl, ⟨g, m, c, hp⟩, h1, h2, q⟩ := h
    have sc := sc__law_take
    refine ⟨_, pss_cons (ps_asg (pe_op op_add (pe_ix ix0 (pv 0) pe_int (fun _ _ => rfl)) pe_int) (pg_sub (pv 0) pe_int set_list))
      (pss_cons (ps_if (PW.pt (pw_and (pt_cmpR op_gt (pe_ix ix0 (pv 0) pe_int (fun _ _ => rfl)) pe_int (nomark _)) (pw_and1 (pt_cmpR op_le (pe_ix ix0 (pv 0) pe_int (fun _ _ => rfl)) pe_int (nomark _))))) (pss_cons (ps_set (i := 2) sc.nd rfl (Or.inl rfl) (pe_op op_mod (pe_ix ix0 (pv 0) pe_int (fun _ _ => rfl)) (pv 1)))
      (pss_cons (ps_asg (pe_op op_fdiv (pe_ix ix0 (pv 0) pe_int (fun _ _ => rfl)) (pv 1)) (pg_sub (pv 0) pe_int set_list))
      (pss_one (ps_ret (pv 2))))) pss_nil)
      (pss_cons (ps_asg (pe_op op_mod (pe_op op_add (pe_op op_add (pe_op op_mul (pe_ix ix0 (pv 0) pe_int (fun _ _ => rfl)) pe_int) pe_int) (pe_ix ix0 (pv 0) pe_int (fun _ _ => rfl))) pe_int) (pg_sub (pv 0) pe_int set_list))
      (pss_one (ps_ret (pe_op op_mod (pe_op op_fdiv (pe_op op_mod (pe_op op_mul (pe_ix ix0 (pv 0) pe_int (fun _ _ => rfl)) (pe_op op_add (pe_op op_mod (pe_ix ix0 (pv 0) pe_int (fun _ _ => rfl)) pe_int) pe_int)) pe_int) pe_int) (pv 1)))))), ?_⟩
    have hq := sq_lst hp
    rw [show L2.start ["_law_box_here", "_law_many_here", "_law_digit"] [.ref p, .int many] = [some (.ref p), some (.int many), none] from rfl]
    (try simp only [a_iDk, a_rGetI, a_rSetI, a_tDGetI, V.str.injEq, HO.dK.injEq, a_tAug, a_tDisp, a_prs0, a_prs, a_rGetK, a_rSetK, a_tAugS, a_ipI, a_tPop0, a_tCalK, g3r_is, g2r_is, g2_is, g1_is, a_tSeqL, a_tChain, a_tDict, a_tLstA, a_rMulT, a_rEqT, a_tIns, a_tRev, a_rSlA, a_rCatA, a_rCatL, a_tSeq, a_tFor, a_rIxL, a_iZip, a_tSortR, a_tSl, a_rSlL0, a_tNoPart, a_tPart, a_tApp, a_tRet, a_tRetN, a_tNext, a_tDrop, a_tAsg, a_gSub, a_gName, a_gNil, a_gCons, a_gTup0, a_rSetL, a_tIfS, a_tAnd, a_tOr, a_tNot, a_tTest, a_tB, a_tTrue, a_tIf, a_tAndV, a_tOrV, a_tNotV, a_tOp, a_tUn, a_rU, a_tVar, a_tC, a_rI0, a_rI, a_rEq, a_rNe, a_rIx0, a_rIn0, a_tCB, a_tCal, a_tCons, a_tNil, a_tTupA, a_tLst, a_tPar, a_tBits, a_tLC, a_iRng1, a_iRng2, a_iT0, a_iL0, a_tEmit, frS, scal, V.ty.injEq, tyN, subN, String.reduceEq, String.reduceBEq, Bool.true_or, Bool.false_or, Bool.or_false, Bool.true_and, Bool.false_and, Bool.and_false, or_true, true_or, beq_self_eq_true, decide_true, decide_false, List.map_cons, List.map_nil, List.length_cons, List.length_nil, List.getElem?_cons_zero, List.getElem?_cons_succ, List.getElem?_nil, List.set_cons_zero, List.set_cons_succ, Option.some.injEq, Option.bind_some, Option.bind_none, id, exists_eq_left', exists_eq_left, exists_and_left, exists_eq_right, V.int.injEq, V.bl.injEq, V.ref.injEq, List.cons.injEq, and_true, true_and, and_assoc, exists_const, atI0, atI1, atI2, ixN30, ixN31, ixN32, upd_same, upd_upd, sq_updL, sq_updT, Nat.zero_add, Nat.reduceAdd, reduceCtorEq, false_and, and_false, exists_false, false_or, or_false, List.length_map, HO.lst.injEq, HO.tup.injEq, Bool.false_eq_true, if_false, if_true, decide_eq_true_eq, ite_true, ite_false, reduceIte, Int.reduceLT, Int.reduceLE, Nat.reduceLT, Int.zero_add, Bool.not_true, Bool.not_false, hq, hp])
    have fin : ∀ (z g' m' c' : Int), Q (V.int (z % many)) (upd H p (.lst [.int g', .int m', .int c'])) := fun z g' m' c' => q _ _ (Int.emod_nonneg _ (by omega)) (Int.emod_lt_of_pos _ h1) ⟨g', m', c', upd_same⟩ But.upd
    have cm : ∀ a b : Int, CMul a (b % 40009 + 3) := fun a b => .inr ⟨by omega, by omega⟩
    split
    · split
      · exact ⟨h1, ⟨h1, h2⟩, fin _ _ _ _⟩
      · exact ⟨.inr ⟨by decide, by decide⟩, cm _ _, ⟨by decide, by decide⟩, h1, fin _ _ _ _⟩
    · exact ⟨.inr ⟨by decide, by decide⟩, cm _ _, ⟨by decide, by decide⟩, h1, fin _ _ _ _⟩
theorem sc__law_box : FnScope ["_law_script", "_law_k", "_law_cell", "_law_great"] ["_law_script", "_law_k"] (defScope s__law_box) := ⟨rfl, rfl, rfl, by decide +kernel, rfl, by decide +kernel, by decide +kernel⟩
theorem ok_box (F : Fun K "_law_box" "_law_box" s__law_box f fd) (hm : mg "_law_box" = some (.ref f)) (hb : Binds K fd ["_law_script", "_law_k"] []) (T : Txt mg) : Cal P w K mg base "_law_box" ["_law_script", "_law_k"] 1 (spBox K) := by
  refine cal_of F hm hb sc__law_box (fun vs H Q E h => ?_) (fun cdv A outer s H vs Q E hr h => ?_)
  · obtain ⟨_, _, _, rfl, _⟩ := h; rfl
  · obtain ⟨a, k, ns, rfl, hq, hk, q⟩ := h
    have sc := sc__law_box
    refine ⟨_, pss_cons (ps_set (i := 2) sc.nd rfl (Or.inl rfl) (pe_ifExp (pt_cmpR op_lt (pv 1) (pe_callB call_len_seq rfl T.len_ bt_len (pa_cons (pv 0) pa_nil)) (nomark _)) (pe_ix ix_list (pv 0) (pv 1) (fun _ _ => rfl)) pe_int))
      (pss_cons (ps_set (i := 3) sc.nd rfl (Or.inl rfl) (pe_op op_mul (pe_callB call_abs rfl T.abs_ bt_abs (pa_cns (pv 2) pa_nil)) (pe_callTy call_int1 rfl T.int_ bt_int (pa_cns (pe_cmpR op_ge (pe_callB call_abs rfl T.abs_ bt_abs (pa_cns (pv 2) pa_nil)) (pe_op op_pow pe_int pe_int) (nomark _)) pa_nil))))
      (pss_one (ps_ret (pe_lst (pa_cns (pv 3) (pa_cns (pe_op op_mod (pe_op op_mul (pe_op op_add (pe_op op_add (pe_op op_mod (pv 2) pe_int) (pe_op op_mul (pe_op op_mul pe_int (pv 1)) (pv 1))) pe_int) pe_int) pe_int) (pa_cns pe_int pa_nil))))))), ?_⟩
    rw [show L2.start ["_law_script", "_law_k", "_law_cell", "_law_great"] [.ref a, .int (k : Int)] = [some (.ref a), some (.int (k : Int)), none, none] from rfl]
    have cm : ∀ (z : Int) (c : Prop) [Decidable c], CMul z (if c then 1 else 0) := fun z c _ => .inr (by split <;> exact ⟨by decide, by decide⟩)
    have fin : ∀ x y z : Int, CPow 10 18 ∧ ((CMul 7919 (k : Int) ∧ CMul (7919 * (k : Int)) (k : Int) ∧ CMul x 48271 ∧ 3 ≤ sizeLine) ∧ ∀ p : Addr, H p = none → Q (V.ref p) (upd H p (.lst [.int y, .int z, .int 0]))) := fun x y z =>
      ⟨⟨by decide, by decide, by decide⟩, ⟨.inl ⟨by decide, by decide⟩, .inr ⟨by omega, by omega⟩, .inr ⟨by decide, by decide⟩, by decide⟩, fun p hp => q p _ hp ⟨y, z, 0, upd_same⟩ But.upd⟩
    (walk_at "rd")
    refine ⟨_, .inl hq, ?_⟩
    by_cases hlt : k < ns.length
    · have ha : atI (ns.map V.int) (k : Int) = some (V.int ns[k]) := atI_nat (by simp [hlt])
      rw [if_pos (by simp; omega)]
      refine ⟨_, hq, _, ha, ?_⟩
      (walk_at "rd")
      obtain ⟨f1, ⟨f2, f3, f4, f5⟩, f6⟩ := fin (ns[k] % 2147483629 + 7919 * (k : Int) * (k : Int) + 11) ((if ns[k] < 0 then -ns[k] else ns[k]) * if 10 ^ Int.toNat 18 ≤ if ns[k] < 0 then -ns[k] else ns[k] then 1 else 0) ((ns[k] % 2147483629 + 7919 * (k : Int) * (k : Int) + 11) * 48271 % 2147483647)
      exact ⟨f1, cm _ _, f2, f3, f4, f5, f6⟩
    · rw [if_neg (by simp; omega)]
      (walk_at "rd")
      obtain ⟨f1, ⟨f2, f3, f4, f5⟩, f6⟩ := fin (0 % 2147483629 + 7919 * (k : Int) * (k : Int) + 11) (0 * if 10 ^ Int.toNat 18 ≤ 0 then 1 else 0) ((0 % 2147483629 + 7919 * (k : Int) * (k : Int) + 11) * 48271 % 2147483647)
      exact ⟨f1, cm _ _, f2, f3, f4, f5, f6⟩
def sp_many : Sp := fun vs H Q _ => ∃ p : Addr, vs = [.ref p] ∧ Box H p ∧ ∀ (m : Nat) (H' : Hp), 1 ≤ m → m ≤ 5 → Box H' p → SameX p H H' → Q (.int (m : Int)) H'
theorem sc__law_many : FnScope ["_law_box_here"] ["_law_box_here"] (defScope s__law_many) := ⟨rfl, rfl, rfl, by decide +kernel, rfl, by decide +kernel, by decide +kernel⟩
theorem ok_many (F : Fun K "_law_many" "_law_many" s__law_many f fd) (hm : mg "_law_many" = some (.ref f)) (hb : Binds K fd ["_law_box_here"] []) (T : Txt mg) (c__law_take : Cal P w K mg base "_law_take" ["_law_box_here", "_law_many_here"] 1 spTake) : Cal P w K mg base "_law_many" ["_law_box_here"] 2 sp_many := by
  refine cal_of F hm hb sc__law_many (fun vs H Q E h => ?_) (fun cdv A outer s H vs Q E hr h => ?_)
  · obtain ⟨_, rfl, _⟩ := h; rfl
  · obtain ⟨p, rfl, bx, q⟩ := h
    have sc := sc__law_many
    refine ⟨_, pss_one (ps_ret (pe_ifExp (pt_cmpR op_eq (pe_cal c__law_take hr (pa_cns (pv 0) (pa_cns pe_int pa_nil))) pe_int (nomark _)) pe_int (pe_op op_add pe_int (pe_cal c__law_take hr (pa_cns (pv 0) (pa_cns pe_int pa_nil)))))), ?_⟩
    rw [show L2.start ["_law_box_here"] [.ref p] = [some (.ref p)] from rfl]
    (walk_at "rd")
    refine ⟨p, 8, rfl, bx, by decide, by decide, fun r H1 r0 r1 bx1 bt1 => ?_⟩
    (walk_at "rd")
    split
    · exact q 5 H1 (by decide) (by decide) bx1 bt1.x
    · refine ⟨p, 4, rfl, bx1, by decide, by decide, fun r' H2 r0' r1' bx2 bt2 => ?_⟩
      (walk_at "rd")
      obtain ⟨n, rfl⟩ := Int.eq_ofNat_of_zero_le r0'
      have := q (1 + n) H2 (by omega) (by omega) bx2 (bt1.x.trans bt2.x)
      rw [Int.natCast_add] at this
      exact this
def sp_same1 : Sp := fun vs H Q _ => ∃ i d : Int, vs = [.int i, .int d] ∧ Q (.bl (decide (i = d))) H
def sp_same2 : Sp := fun vs H Q _ => ∃ (a b : Addr) (ns ms : List Int), vs = [.ref a, .ref b] ∧ H a = some (.tup (ns.map V.int)) ∧ H b = some (.tup (ms.map V.int)) ∧ ns.length < 1000 ∧ ∀ H', Same H H' → Q (.bl (decide (ns = ms))) H'
def sp_none : Sp := fun _ _ _ _ => False
theorem cal_none {x : Str} {ps : List Str} {st : Stmt} (F : Fun K x x st f fd) (hm : mg x = some (.ref f)) (hb : Binds K fd ps []) : Cal P w K mg base x ps 0 sp_none :=
  ⟨f, fd, ⟨fun _ _ _ _ h => h.elim, fun _ _ _ _ _ _ _ _ _ _ _ _ _ h => h.elim⟩, hm, F.kp, hb⟩
theorem sc__law_same : FnScope ["_law_found", "_law_due_here"] ["_law_found", "_law_due_here"] (defScope s__law_same) := ⟨rfl, rfl, rfl, by decide +kernel, rfl, by decide +kernel, by decide +kernel⟩
theorem ok_same1 (F : Fun K "_law_same" "_law_same" s__law_same f fd) (hm : mg "_law_same" = some (.ref f)) (hb : Binds K fd ["_law_found", "_law_due_here"] []) (T : Txt mg) (c__law_same : Cal P w K mg base "_law_same" ["_law_found", "_law_due_here"] 0 sp_none) : Cal P w K mg base "_law_same" ["_law_found", "_law_due_here"] 1 sp_same1 := by
  refine cal_of F hm hb sc__law_same (fun vs H Q E h => ?_) (fun cdv A outer s H vs Q E hr h => ?_)
  · obtain ⟨_, _, rfl, _⟩ := h; rfl
  · obtain ⟨i, d, rfl, q⟩ := h
    have sc := sc__law_same
    refine ⟨_, pss_cons (ps_if (pt_val (pe_callB isi0 rfl T.isinstance_ bt_isinstance (pa_cns (pv 1) (pa_cns (pe_bltn (v := .ty "tuple") rfl T.tuple_ bt_tuple rfl) pa_nil)))) (pss_cons (ps_if (PW.pt (pw_or (pt_not (pt_val (pe_callB isi0 rfl T.isinstance_ bt_isinstance (pa_cns (pv 0) (pa_cns (pe_bltn (v := .ty "tuple") rfl T.tuple_ bt_tuple rfl) pa_nil))))) (pw_or1 (pt_cmpR op_ne (pe_callB len0 rfl T.len_ bt_len (pa_cns (pv 0) pa_nil)) (pe_callB len0 rfl T.len_ bt_len (pa_cns (pv 1) pa_nil)) (nomark _))))) (pss_one (ps_ret pe_bl)) pss_nil)
      (pss_one (ps_ret (pe_callB (all0 rfl) rfl T.all_ bt_all (pa_cns (pe_lc (N := ["_law_mine", "_law_its"]) (fr := [none, none]) rfl (pi_zip rfl T.zip_ (pa_cns (pv 0) (pa_cns (pv 1) pa_nil))) (CScope.of rfl rfl rfl) rfl (fun _ _ _ => ⟨pg_tup0 (n := 2) rfl (pgs_cons (pg_name (i := 0) (show List.Nodup (α := Str) ["_law_mine", "_law_its"] by decide +kernel) rfl (Or.inl rfl)) (pgs_cons (pg_name (i := 1) (show List.Nodup (α := Str) ["_law_mine", "_law_its"] by decide +kernel) rfl (Or.inl rfl)) pgs_nil)), pif_nil, pe_cal c__law_same hr (pa_cns (pv 0) (pa_cns (pv 1) pa_nil))⟩)) pa_nil))))) pss_nil)
      (pss_one (ps_ret (pe_and (pe_callB isi0 rfl T.isinstance_ bt_isinstance (pa_cns (pv 0) (pa_cns (pe_bltn (v := .ty "int") rfl T.int_ bt_int rfl) pa_nil))) (pe_and (pe_not (pe_callB isi0 rfl T.isinstance_ bt_isinstance (pa_cns (pv 0) (pa_cns (pe_bltn (v := .ty "bool") rfl T.bool_ bt_bool rfl) pa_nil)))) (pe_one (pe_cmpR op_eq (pv 0) (pv 1) (nomark _))))))), ?_⟩
    rw [show L2.start ["_law_found", "_law_due_here"] [.int i, .int d] = [some (.int i), some (.int d)] from rfl]
    (walk_at "rd")
    exact q
def L4 (c a b : Addr) (ns ms : List Int) (G : Hp) (i : Nat) (σ : St) (H : Hp) : Prop := ∃ (v1 v2 : Option V), σ = [v1, v2] ∧ SameX c G H ∧ H c = some (.lst ((((ns.zip ms).take i).map fun p => decide (p.1 = p.2)).map V.bl))
theorem all_eq : ∀ (ns ms : List Int), ns.length = ms.length → (((ns.zip ms).map fun p => decide (p.1 = p.2)).all id) = decide (ns = ms)
  | [], [], _ => rfl
  | n :: ns, m :: ms, h => by
    have ih := all_eq ns ms (by simpa using h)
    rw [List.zip_cons_cons, List.map_cons, List.all_cons, ih]
    by_cases e : n = m <;> by_cases e2 : ns = ms <;> simp [e, e2]
  | [], _ :: _, h => by simp at h
  | _ :: _, [], h => by simp at h
def sp_same : Sp := fun vs H Q E => sp_same1 vs H Q E ∨ sp_same2 vs H Q E
theorem ok_same2 (F : Fun K "_law_same" "_law_same" s__law_same f fd) (hm : mg "_law_same" = some (.ref f)) (hb : Binds K fd ["_law_found", "_law_due_here"] []) (T : Txt mg) (c__law_same : Cal P w K mg base "_law_same" ["_law_found", "_law_due_here"] 1 sp_same1) : Cal P w K mg base "_law_same" ["_law_found", "_law_due_here"] 2 sp_same := by
  refine cal_of F hm hb sc__law_same (fun vs H Q E h => ?_) (fun cdv A outer s H vs Q E hr h => ?_)
  · rcases h with h | h
    · obtain ⟨_, _, rfl, _⟩ := h; rfl
    · obtain ⟨_, _, _, _, rfl, _⟩ := h; rfl
  · rcases h with h | h
    · obtain ⟨i, d, rfl, q⟩ := h
      have sc := sc__law_same
      refine ⟨_, pss_cons (ps_if (pt_val (pe_callB isi0 rfl T.isinstance_ bt_isinstance (pa_cns (pv 1) (pa_cns (pe_bltn (v := .ty "tuple") rfl T.tuple_ bt_tuple rfl) pa_nil)))) (pss_cons (ps_if (PW.pt (pw_or (pt_not (pt_val (pe_callB isi0 rfl T.isinstance_ bt_isinstance (pa_cns (pv 0) (pa_cns (pe_bltn (v := .ty "tuple") rfl T.tuple_ bt_tuple rfl) pa_nil))))) (pw_or1 (pt_cmpR op_ne (pe_callB len0 rfl T.len_ bt_len (pa_cns (pv 0) pa_nil)) (pe_callB len0 rfl T.len_ bt_len (pa_cns (pv 1) pa_nil)) (nomark _))))) (pss_one (ps_ret pe_bl)) pss_nil)
      (pss_one (ps_ret (pe_callB (all0 rfl) rfl T.all_ bt_all (pa_cns (pe_lc (N := ["_law_mine", "_law_its"]) (fr := [none, none]) rfl (pi_zip rfl T.zip_ (pa_cns (pv 0) (pa_cns (pv 1) pa_nil))) (CScope.of rfl rfl rfl) rfl (fun _ _ _ => ⟨pg_tup0 (n := 2) rfl (pgs_cons (pg_name (i := 0) (show List.Nodup (α := Str) ["_law_mine", "_law_its"] by decide +kernel) rfl (Or.inl rfl)) (pgs_cons (pg_name (i := 1) (show List.Nodup (α := Str) ["_law_mine", "_law_its"] by decide +kernel) rfl (Or.inl rfl)) pgs_nil)), pif_nil, pe_cal c__law_same hr (pa_cns (pv 0) (pa_cns (pv 1) pa_nil))⟩)) pa_nil))))) pss_nil)
      (pss_one (ps_ret (pe_and (pe_callB isi0 rfl T.isinstance_ bt_isinstance (pa_cns (pv 0) (pa_cns (pe_bltn (v := .ty "int") rfl T.int_ bt_int rfl) pa_nil))) (pe_and (pe_not (pe_callB isi0 rfl T.isinstance_ bt_isinstance (pa_cns (pv 0) (pa_cns (pe_bltn (v := .ty "bool") rfl T.bool_ bt_bool rfl) pa_nil)))) (pe_one (pe_cmpR op_eq (pv 0) (pv 1) (nomark _))))))), ?_⟩
      rw [show L2.start ["_law_found", "_law_due_here"] [.int i, .int d] = [some (.int i), some (.int d)] from rfl]
      (walk_at "rd")
      exact q
    obtain ⟨a, b, ns, ms, rfl, ha, hb', hsm, q⟩ := h
    have sc := sc__law_same
    refine ⟨_, pss_cons (ps_if (pt_val (pe_callB isi0 rfl T.isinstance_ bt_isinstance (pa_cns (pv 1) (pa_cns (pe_bltn (v := .ty "tuple") rfl T.tuple_ bt_tuple rfl) pa_nil)))) (pss_cons (ps_if (PW.pt (pw_or (pt_not (pt_val (pe_callB isi0 rfl T.isinstance_ bt_isinstance (pa_cns (pv 0) (pa_cns (pe_bltn (v := .ty "tuple") rfl T.tuple_ bt_tuple rfl) pa_nil))))) (pw_or1 (pt_cmpR op_ne (pe_callB len0 rfl T.len_ bt_len (pa_cns (pv 0) pa_nil)) (pe_callB len0 rfl T.len_ bt_len (pa_cns (pv 1) pa_nil)) (nomark _))))) (pss_one (ps_ret pe_bl)) pss_nil)
      (pss_one (ps_ret (pe_callB (all0 rfl) rfl T.all_ bt_all (pa_cns (pe_lc (N := ["_law_mine", "_law_its"]) (fr := [none, none]) rfl (pi_zip rfl T.zip_ (pa_cns (pv 0) (pa_cns (pv 1) pa_nil))) (CScope.of rfl rfl rfl) rfl (fun _ _ _ => ⟨pg_tup0 (n := 2) rfl (pgs_cons (pg_name (i := 0) (show List.Nodup (α := Str) ["_law_mine", "_law_its"] by decide +kernel) rfl (Or.inl rfl)) (pgs_cons (pg_name (i := 1) (show List.Nodup (α := Str) ["_law_mine", "_law_its"] by decide +kernel) rfl (Or.inl rfl)) pgs_nil)), pif_nil, pe_cal c__law_same hr (pa_cns (pv 0) (pa_cns (pv 1) pa_nil))⟩)) pa_nil))))) pss_nil)
      (pss_one (ps_ret (pe_and (pe_callB isi0 rfl T.isinstance_ bt_isinstance (pa_cns (pv 0) (pa_cns (pe_bltn (v := .ty "int") rfl T.int_ bt_int rfl) pa_nil))) (pe_and (pe_not (pe_callB isi0 rfl T.isinstance_ bt_isinstance (pa_cns (pv 0) (pa_cns (pe_bltn (v := .ty "bool") rfl T.bool_ bt_bool rfl) pa_nil)))) (pe_one (pe_cmpR op_eq (pv 0) (pv 1) (nomark _))))))), ?_⟩
    have hsa := sq_tup ha
    have hsb := sq_tup hb'
    rw [show L2.start ["_law_found", "_law_due_here"] [.ref a, .ref b] = [some (.ref a), some (.ref b)] from rfl]
    (try simp only [a_iDk, a_rGetI, a_rSetI, a_tDGetI, V.str.injEq, HO.dK.injEq, a_tAug, a_tDisp, a_prs0, a_prs, a_rGetK, a_rSetK, a_tAugS, a_ipI, a_tPop0, a_tCalK, g3r_is, g2r_is, g2_is, g1_is, a_tSeqL, a_tChain, a_tDict, a_tLstA, a_rMulT, a_rEqT, a_tIns, a_tRev, a_rSlA, a_rCatA, a_rCatL, a_tSeq, a_tFor, a_rIxL, a_iZip, a_tSortR, a_tSl, a_rSlL0, a_tNoPart, a_tPart, a_tApp, a_tRet, a_tRetN, a_tNext, a_tDrop, a_tAsg, a_gSub, a_gName, a_gNil, a_gCons, a_gTup0, a_rSetL, a_tIfS, a_tAnd, a_tOr, a_tNot, a_tTest, a_tB, a_tTrue, a_tIf, a_tAndV, a_tOrV, a_tNotV, a_tOp, a_tUn, a_rU, a_tVar, a_tC, a_rI0, a_rI, a_rEq, a_rNe, a_rIx0, a_rIn0, a_tCB, a_tCal, a_tCons, a_tNil, a_tTupA, a_tLst, a_tPar, a_tBits, a_tLC, a_iRng1, a_iRng2, a_iT0, a_iL0, a_tEmit, frS, scal, V.ty.injEq, tyN, subN, String.reduceEq, String.reduceBEq, Bool.true_or, Bool.false_or, Bool.or_false, Bool.true_and, Bool.false_and, Bool.and_false, or_true, true_or, beq_self_eq_true, decide_true, decide_false, List.map_cons, List.map_nil, List.length_cons, List.length_nil, List.getElem?_cons_zero, List.getElem?_cons_succ, List.getElem?_nil, List.set_cons_zero, List.set_cons_succ, Option.some.injEq, Option.bind_some, Option.bind_none, id, exists_eq_left', exists_eq_left, exists_and_left, exists_eq_right, V.int.injEq, V.bl.injEq, V.ref.injEq, List.cons.injEq, and_true, true_and, and_assoc, exists_const, atI0, atI1, atI2, ixN30, ixN31, ixN32, upd_same, upd_upd, sq_updL, sq_updT, Nat.zero_add, Nat.reduceAdd, reduceCtorEq, false_and, and_false, exists_false, false_or, or_false, List.length_map, HO.lst.injEq, HO.tup.injEq, Bool.false_eq_true, if_false, if_true, decide_eq_true_eq, ite_true, ite_false, reduceIte, Int.reduceLT, Int.reduceLE, Nat.reduceLT, Int.zero_add, Bool.not_true, Bool.not_false, ha, hb', hsa, hsb])
    by_cases hl' : ns.length = ms.length
    · rw [if_neg (by simp [hl'])]
      refine ⟨_, _, _, .inr ⟨rfl, ha⟩, _, .inr ⟨rfl, hb'⟩, fun c nc => ?_⟩
      have nca : a ≠ c := ne_of_none ha nc
      have ncb : b ≠ c := ne_of_none hb' nc
      refine cl_zip (L4 c a b ns ms H) ⟨none, none, rfl, SameX.upd, upd_same⟩ (fun i σ H1 ⟨_, _, _, s, _⟩ => ⟨.inr ⟨rfl, s _ _ nca ha⟩, .inr ⟨rfl, s _ _ ncb hb'⟩⟩) ?_ ?_
      · rintro i u v t σ H1 H2 hu hv ⟨v1, v2, rfl, s1, e1⟩ nt s2 e2
        rw [List.getElem?_map] at hu hv
        obtain ⟨n, hn, rfl⟩ := Option.map_eq_some_iff.mp hu
        obtain ⟨m, hm', rfl⟩ := Option.map_eq_some_iff.mp hv
        have ec2 := s2 _ _ e1
        (try simp only [a_iDk, a_rGetI, a_rSetI, a_tDGetI, V.str.injEq, HO.dK.injEq, a_tAug, a_tDisp, a_prs0, a_prs, a_rGetK, a_rSetK, a_tAugS, a_ipI, a_tPop0, a_tCalK, g3r_is, g2r_is, g2_is, g1_is, a_tSeqL, a_tChain, a_tDict, a_tLstA, a_rMulT, a_rEqT, a_tIns, a_tRev, a_rSlA, a_rCatA, a_rCatL, a_tSeq, a_tFor, a_rIxL, a_iZip, a_tSortR, a_tSl, a_rSlL0, a_tNoPart, a_tPart, a_tApp, a_tRet, a_tRetN, a_tNext, a_tDrop, a_tAsg, a_gSub, a_gName, a_gNil, a_gCons, a_gTup0, a_rSetL, a_tIfS, a_tAnd, a_tOr, a_tNot, a_tTest, a_tB, a_tTrue, a_tIf, a_tAndV, a_tOrV, a_tNotV, a_tOp, a_tUn, a_rU, a_tVar, a_tC, a_rI0, a_rI, a_rEq, a_rNe, a_rIx0, a_rIn0, a_tCB, a_tCal, a_tCons, a_tNil, a_tTupA, a_tLst, a_tPar, a_tBits, a_tLC, a_iRng1, a_iRng2, a_iT0, a_iL0, a_tEmit, frS, scal, V.ty.injEq, tyN, subN, String.reduceEq, String.reduceBEq, Bool.true_or, Bool.false_or, Bool.or_false, Bool.true_and, Bool.false_and, Bool.and_false, or_true, true_or, beq_self_eq_true, decide_true, decide_false, List.map_cons, List.map_nil, List.length_cons, List.length_nil, List.getElem?_cons_zero, List.getElem?_cons_succ, List.getElem?_nil, List.set_cons_zero, List.set_cons_succ, Option.some.injEq, Option.bind_some, Option.bind_none, id, exists_eq_left', exists_eq_left, exists_and_left, exists_eq_right, V.int.injEq, V.bl.injEq, V.ref.injEq, List.cons.injEq, and_true, true_and, and_assoc, exists_const, atI0, atI1, atI2, ixN30, ixN31, ixN32, upd_same, upd_upd, sq_updL, sq_updT, Nat.zero_add, Nat.reduceAdd, reduceCtorEq, false_and, and_false, exists_false, false_or, or_false, List.length_map, HO.lst.injEq, HO.tup.injEq, Bool.false_eq_true, if_false, if_true, decide_eq_true_eq, ite_true, ite_false, reduceIte, Int.reduceLT, Int.reduceLE, Nat.reduceLT, Int.zero_add, Bool.not_true, Bool.not_false, e2])
        refine ⟨n, m, rfl, ?_⟩
        (try simp only [a_iDk, a_rGetI, a_rSetI, a_tDGetI, V.str.injEq, HO.dK.injEq, a_tAug, a_tDisp, a_prs0, a_prs, a_rGetK, a_rSetK, a_tAugS, a_ipI, a_tPop0, a_tCalK, g3r_is, g2r_is, g2_is, g1_is, a_tSeqL, a_tChain, a_tDict, a_tLstA, a_rMulT, a_rEqT, a_tIns, a_tRev, a_rSlA, a_rCatA, a_rCatL, a_tSeq, a_tFor, a_rIxL, a_iZip, a_tSortR, a_tSl, a_rSlL0, a_tNoPart, a_tPart, a_tApp, a_tRet, a_tRetN, a_tNext, a_tDrop, a_tAsg, a_gSub, a_gName, a_gNil, a_gCons, a_gTup0, a_rSetL, a_tIfS, a_tAnd, a_tOr, a_tNot, a_tTest, a_tB, a_tTrue, a_tIf, a_tAndV, a_tOrV, a_tNotV, a_tOp, a_tUn, a_rU, a_tVar, a_tC, a_rI0, a_rI, a_rEq, a_rNe, a_rIx0, a_rIn0, a_tCB, a_tCal, a_tCons, a_tNil, a_tTupA, a_tLst, a_tPar, a_tBits, a_tLC, a_iRng1, a_iRng2, a_iT0, a_iL0, a_tEmit, frS, scal, V.ty.injEq, tyN, subN, String.reduceEq, String.reduceBEq, Bool.true_or, Bool.false_or, Bool.or_false, Bool.true_and, Bool.false_and, Bool.and_false, or_true, true_or, beq_self_eq_true, decide_true, decide_false, List.map_cons, List.map_nil, List.length_cons, List.length_nil, List.getElem?_cons_zero, List.getElem?_cons_succ, List.getElem?_nil, List.set_cons_zero, List.set_cons_succ, Option.some.injEq, Option.bind_some, Option.bind_none, id, exists_eq_left', exists_eq_left, exists_and_left, exists_eq_right, V.int.injEq, V.bl.injEq, V.ref.injEq, List.cons.injEq, and_true, true_and, and_assoc, exists_const, atI0, atI1, atI2, ixN30, ixN31, ixN32, upd_same, upd_upd, sq_updL, sq_updT, Nat.zero_add, Nat.reduceAdd, reduceCtorEq, false_and, and_false, exists_false, false_or, or_false, List.length_map, HO.lst.injEq, HO.tup.injEq, Bool.false_eq_true, if_false, if_true, decide_eq_true_eq, ite_true, ite_false, reduceIte, Int.reduceLT, Int.reduceLE, Nat.reduceLT, Int.zero_add, Bool.not_true, Bool.not_false, ec2])
        have hi : i < ns.length := (List.getElem?_eq_some_iff.mp hn).1
        refine ⟨small1000 (by rw [List.length_take, List.length_zip]; omega), ⟨_, _, rfl, (s1.trans s2.x).trans SameX.upd, ?_⟩⟩
        have hz : (ns.zip ms)[i]? = some (n, m) := by rw [List.getElem?_zip_eq_some]; exact ⟨hn, hm'⟩
        rw [upd_same, List.take_add_one, hz]
        simp
      · rintro σ H1 ⟨v1, v2, rfl, s1, e1⟩
        rw [List.length_map, List.length_map, List.take_of_length_le (by rw [List.length_zip]; omega)] at e1
        refine ⟨_, sq_lst e1, ?_⟩
        rw [all_eq ns ms hl']
        exact q H1 (s1.same nc)
    · rw [if_pos (by simp; omega)]
      have : ns ≠ ms := by rintro rfl; exact hl' rfl
      have q' := q H (Same.refl H)
      rw [decide_eq_false this] at q'
      exact q'
def lessI (a b : Int) : Int := a - Builtin.bitAnd a b
def sp_less : Sp := fun vs H Q _ => ∃ a b : Int, vs = [.int a, .int b] ∧ Q (.int (lessI a b)) H
theorem sc_less : FnScope ["one", "other"] ["one", "other"] (defScope s_less) := ⟨rfl, rfl, rfl, by decide +kernel, rfl, by decide +kernel, by decide +kernel⟩
theorem ok_less (F : Fun K "less" "less" s_less f fd) (hm : mg "less" = some (.ref f)) (hb : Binds K fd ["one", "other"] []) (T : Txt mg) : Cal P w K mg base "less" ["one", "other"] 1 sp_less := by
  refine cal_of F hm hb sc_less (fun vs H Q E h => ?_) (fun cdv A outer s H vs Q E hr h => ?_)
  · obtain ⟨_, _, rfl, _⟩ := h; rfl
  · obtain ⟨h, t, rfl, q⟩ := h
    have sc := sc_less
    refine ⟨_, pss_one (ps_ret (pe_op op_sub (pv 0) (pe_op op_and (pv 0) (pv 1)))), ?_⟩
    rw [show L2.start ["one", "other"] [.int h, .int t] = [some (.int h), some (.int t)] from rfl]
    (walk_at "rd")
    exact q
def sp_within : Sp := fun vs H Q _ => ∃ a b : Int, vs = [.int a, .int b] ∧ Q (.bl (decide (lessI a b = 0))) H
theorem sc_is_within : FnScope ["one", "other"] ["one", "other"] (defScope s_is_within) := ⟨rfl, rfl, rfl, by decide +kernel, rfl, by decide +kernel, by decide +kernel⟩
theorem ok_within (F : Fun K "is_within" "is_within" s_is_within f fd) (hm : mg "is_within" = some (.ref f)) (hb : Binds K fd ["one", "other"] []) (T : Txt mg) (c_less : Cal P w K mg base "less" ["one", "other"] 1 sp_less) : Cal P w K mg base "is_within" ["one", "other"] 2 sp_within := by
  refine cal_of F hm hb sc_is_within (fun vs H Q E h => ?_) (fun cdv A outer s H vs Q E hr h => ?_)
  · obtain ⟨_, _, rfl, _⟩ := h; rfl
  · obtain ⟨h, t, rfl, q⟩ := h
    have sc := sc_is_within
    refine ⟨_, pss_one (ps_ret (pe_cmpR op_eq (pe_cal c_less hr (pa_cns (pv 0) (pa_cns (pv 1) pa_nil))) pe_int (nomark _))), ?_⟩
    rw [show L2.start ["one", "other"] [.int h, .int t] = [some (.int h), some (.int t)] from rfl]
    (try simp only [a_iDk, a_rGetI, a_rSetI, a_tDGetI, V.str.injEq, HO.dK.injEq, a_tAug, a_tDisp, a_prs0, a_prs, a_rGetK, a_rSetK, a_tAugS, a_ipI, a_tPop0, a_tCalK, g3r_is, g2r_is, g2_is, g1_is, a_tSeqL, a_tChain, a_tDict, a_tLstA, a_rMulT, a_rEqT, a_tIns, a_tRev, a_rSlA, a_rCatA, a_rCatL, a_tSeq, a_tFor, a_rIxL, a_iZip, a_tSortR, a_tSl, a_rSlL0, a_tNoPart, a_tPart, a_tApp, a_tRet, a_tRetN, a_tNext, a_tDrop, a_tAsg, a_gSub, a_gName, a_gNil, a_gCons, a_gTup0, a_rSetL, a_tIfS, a_tAnd, a_tOr, a_tNot, a_tTest, a_tB, a_tTrue, a_tIf, a_tAndV, a_tOrV, a_tNotV, a_tOp, a_tUn, a_rU, a_tVar, a_tC, a_rI0, a_rI, a_rEq, a_rNe, a_rIx0, a_rIn0, a_tCB, a_tCal, a_tCons, a_tNil, a_tTupA, a_tLst, a_tPar, a_tBits, a_tLC, a_iRng1, a_iRng2, a_iT0, a_iL0, a_tEmit, frS, scal, V.ty.injEq, tyN, subN, String.reduceEq, String.reduceBEq, Bool.true_or, Bool.false_or, Bool.or_false, Bool.true_and, Bool.false_and, Bool.and_false, or_true, true_or, beq_self_eq_true, decide_true, decide_false, List.map_cons, List.map_nil, List.length_cons, List.length_nil, List.getElem?_cons_zero, List.getElem?_cons_succ, List.getElem?_nil, List.set_cons_zero, List.set_cons_succ, Option.some.injEq, Option.bind_some, Option.bind_none, id, exists_eq_left', exists_eq_left, exists_and_left, exists_eq_right, V.int.injEq, V.bl.injEq, V.ref.injEq, List.cons.injEq, and_true, true_and, and_assoc, exists_const, atI0, atI1, atI2, ixN30, ixN31, ixN32, upd_same, upd_upd, sq_updL, sq_updT, Nat.zero_add, Nat.reduceAdd, reduceCtorEq, false_and, and_false, exists_false, false_or, or_false, List.length_map, HO.lst.injEq, HO.tup.injEq, Bool.false_eq_true, if_false, if_true, decide_eq_true_eq, ite_true, ite_false, reduceIte, Int.reduceLT, Int.reduceLE, Nat.reduceLT, Int.zero_add, Bool.not_true, Bool.not_false, sp_less])
    exact q
def out (h t : Nat) : Nat := if h / 2 ^ t % 2 = 1 then h - 2 ^ t else h
def bitOn (h t : Nat) : Bool := decide (h / 2 ^ t % 2 = 1)
theorem pow32 {m : Nat} (h : m ≤ 5) : 2 ^ m ≤ 32 ∧ 0 < 2 ^ m := by
  have h6 : m = 0 ∨ m = 1 ∨ m = 2 ∨ m = 3 ∨ m = 4 ∨ m = 5 := by omega
  rcases h6 with e | e | e | e | e | e <;> rw [e] <;> decide
theorem at_int {ns : List Int} {n : Nat} (h : n < ns.length) : atI (ns.map V.int) (n : Int) = some (V.int (ns.getD n 0)) := atI_nat (by simp [h, List.getD_eq_getElem?_getD])
theorem getD_ext {l m : List Int} (hl : l.length = m.length) (h : ∀ i, i < l.length → l.getD i 0 = m.getD i 0) : l = m := by
  apply List.ext_getElem hl
  intro i q1 q2
  have := h i q1
  simpa [List.getD_eq_getElem?_getD, q1, q2] using this
def inB (p h : Nat) : Bool := decide (lessI (p : Int) (h : Int) = 0)
theorem part_facts {p h : Nat} (hh : h < 32) (hp : p ≤ h) : inB p h = true → lessI (h : Int) (p : Int) = ((h - p : Nat) : Int) ∧ inB (h - p) h = true := by
  have key : ∀ (a b : _root_.Fin 32), b.val ≤ a.val → inB b.val a.val = true → lessI (a.val : Int) (b.val : Int) = ((a.val - b.val : Nat) : Int) ∧ inB (a.val - b.val) a.val = true := by decide +kernel
  exact key ⟨h, hh⟩ ⟨p, by omega⟩ hp
theorem self_in {h : Nat} (hh : h < 32) : inB h h = true ∧ inB 0 h = true := by
  have key : ∀ a : _root_.Fin 32, inB a.val a.val = true ∧ inB 0 a.val = true := by decide +kernel
  exact key ⟨h, hh⟩
theorem sub_bits {p h t : Nat} (hh : h < 32) (hp : p ≤ h) (ht : t < 5) (s : inB p h = true) (b : bitOn p t = true) : bitOn h t = true := by
  have key : ∀ (x y : _root_.Fin 32) (t : _root_.Fin 5), inB x.val y.val = true → bitOn x.val t.val = true → bitOn y.val t.val = true := by decide +kernel
  exact key ⟨p, by omega⟩ ⟨h, hh⟩ ⟨t, ht⟩ s b
theorem sub_le {p h : Nat} (hp : p < 32) (hh : h < 32) (s : inB p h = true) : p ≤ h := by
  have key : ∀ (x y : _root_.Fin 32), inB x.val y.val = true → x.val ≤ y.val := by decide +kernel
  exact key ⟨p, hp⟩ ⟨h, hh⟩ s
theorem diff_bits {p h t : Nat} (hh : h < 32) (hp : p ≤ h) (ht : t < 5) (s : inB p h = true) : bitOn (h - p) t = (bitOn h t && !bitOn p t) := by
  have key : ∀ (x y : _root_.Fin 32) (t : _root_.Fin 5), inB x.val y.val = true → bitOn (y.val - x.val) t.val = (bitOn y.val t.val && !bitOn x.val t.val) := by decide +kernel
  exact key ⟨p, by omega⟩ ⟨h, hh⟩ ⟨t, ht⟩ s
theorem sub_of {p h : Nat} (hp : p < 32) (hh : h < 32) (b : ∀ t, t < 5 → bitOn p t = true → bitOn h t = true) : inB p h = true := by
  have key : ∀ (x y : _root_.Fin 32), (∀ t : _root_.Fin 5, bitOn x.val t.val = true → bitOn y.val t.val = true) → inB x.val y.val = true := by decide +kernel
  exact key ⟨p, hp⟩ ⟨h, hh⟩ fun t => b t.val t.isLt
structure WB (ns : List Int) (m : Nat) (top : Int) : Prop where
  len : ns.length = 2 ^ m
  zero : ns.getD 0 0 = 0
  bd : ∀ h, h < 2 ^ m → 0 ≤ ns.getD h 0 ∧ ns.getD h 0 ≤ top
  mono : ∀ h t, h < 2 ^ m → t < 5 → ns.getD (out h t) 0 ≤ ns.getD h 0
def pairAt (ns : List Int) (pr : Nat) (wt : Int) (h : Nat) : Int := if inB pr h = true then (if ns.getD h 0 < ns.getD (h - pr) 0 + wt then ns.getD (h - pr) 0 + wt else ns.getD h 0) else ns.getD h 0
def pairT (ns : List Int) (pr : Nat) (wt : Int) : List Int := (List.range ns.length).map (pairAt ns pr wt)
theorem pairT_len (ns : List Int) (pr : Nat) (wt : Int) : (pairT ns pr wt).length = ns.length := by unfold pairT; simp
theorem pairT_at {ns : List Int} {pr h : Nat} {wt : Int} (hh : h < ns.length) : (pairT ns pr wt).getD h 0 = pairAt ns pr wt h := by
  unfold pairT
  simp [List.getD_eq_getElem?_getD, hh]
def sp_wp : Sp := fun vs H Q _ => ∃ (a : Addr) (ns : List Int) (pr : Nat) (wt : Int), vs = [.ref a, .int (pr : Int), .int wt] ∧ H a = some (.tup (ns.map V.int)) ∧ ns.length ≤ 32 ∧ pr < 32 ∧ ∀ (l : Addr) (H' : Hp), Same H H' → H' l = some (.tup ((pairT ns pr wt).map V.int)) → Q (.ref l) H'
def LWP (a c : Addr) (ns : List Int) (pr : Nat) (wt : Int) (G : Hp) (i : Nat) (σ : St) (H : Hp) : Prop := ∃ v, σ = [v, some (.int (pr : Int)), some (.ref a), some (.int wt)] ∧ SameX c G H ∧ H c = some (.lst (((List.range i).map (pairAt ns pr wt)).map V.int))
theorem sc_with_pair : FnScope ["want", "pair", "worth"] ["want", "pair", "worth"] (defScope s_with_pair) := ⟨rfl, rfl, rfl, by decide +kernel, rfl, by decide +kernel, by decide +kernel⟩
theorem ok_wp (F : Fun K "with_pair" "with_pair" s_with_pair f fd) (hm : mg "with_pair" = some (.ref f)) (hb : Binds K fd ["want", "pair", "worth"] []) (T : Txt mg) (c_less : Cal P w K mg base "less" ["one", "other"] 1 sp_less) (c_is_within : Cal P w K mg base "is_within" ["one", "other"] 2 sp_within) : Cal P w K mg base "with_pair" ["want", "pair", "worth"] 3 sp_wp := by
  refine cal_of F hm hb sc_with_pair (fun vs H Q E h => ?_) (fun cdv A outer s H vs Q E hr h => ?_)
  · obtain ⟨_, _, _, _, rfl, _⟩ := h; rfl
  · obtain ⟨a, ns, pr, wt, rfl, ha, l32, p32, q⟩ := h
    have sc := sc_with_pair
    refine ⟨_, pss_one (ps_ret (pe_callTy tupA0 rfl T.tuple_ bt_tuple (pa_cns (pe_lc (N := ["heap", "pair", "want", "worth"]) (fr := [none, some 1, some 0, some 2]) rfl (pi_range1 rfl T.range_ (pa_cns (pe_callB len0 rfl T.len_ bt_len (pa_cns (pv 0) pa_nil)) pa_nil)) (CScope.of rfl rfl rfl) rfl (fun _ _ _ => ⟨pg_name (i := 0) (show List.Nodup (α := Str) ["heap", "pair", "want", "worth"] by decide +kernel) rfl (Or.inl rfl), pif_nil, pe_ifExp (pt_val (pe_cal c_is_within hr (pa_cns (pv 1) (pa_cns (pv 0) pa_nil)))) (pe_callB (call_max2 rfl) rfl T.max_ bt_max (pa_cns (pe_ix ix0 (pv 2) (pv 0) (fun _ _ => rfl)) (pa_cns (pe_op op_add (pe_ix ix0 (pv 2) (pe_cal c_less hr (pa_cns (pv 0) (pa_cns (pv 1) pa_nil))) (fun _ _ => rfl)) (pv 3)) pa_nil))) (pe_ix ix0 (pv 2) (pv 0) (fun _ _ => rfl))⟩)) pa_nil))), ?_⟩
    rw [show L2.start ["want", "pair", "worth"] [.ref a, .int (pr : Int), .int wt] = [some (.ref a), some (.int (pr : Int)), some (.int wt)] from rfl]
    have hsa := sq_tup ha
    (try simp only [a_iDk, a_rGetI, a_rSetI, a_tDGetI, V.str.injEq, HO.dK.injEq, a_tAug, a_tDisp, a_prs0, a_prs, a_rGetK, a_rSetK, a_tAugS, a_ipI, a_tPop0, a_tCalK, g3r_is, g2r_is, g2_is, g1_is, a_tSeqL, a_tChain, a_tDict, a_tLstA, a_rMulT, a_rEqT, a_tIns, a_tRev, a_rSlA, a_rCatA, a_rCatL, a_tSeq, a_tFor, a_rIxL, a_iZip, a_tSortR, a_tSl, a_rSlL0, a_tNoPart, a_tPart, a_tApp, a_tRet, a_tRetN, a_tNext, a_tDrop, a_tAsg, a_gSub, a_gName, a_gNil, a_gCons, a_gTup0, a_rSetL, a_tIfS, a_tAnd, a_tOr, a_tNot, a_tTest, a_tB, a_tTrue, a_tIf, a_tAndV, a_tOrV, a_tNotV, a_tOp, a_tUn, a_rU, a_tVar, a_tC, a_rI0, a_rI, a_rEq, a_rNe, a_rIx0, a_rIn0, a_tCB, a_tCal, a_tCons, a_tNil, a_tTupA, a_tLst, a_tPar, a_tBits, a_tLC, a_iRng1, a_iRng2, a_iT0, a_iL0, a_tEmit, frS, scal, V.ty.injEq, tyN, subN, String.reduceEq, String.reduceBEq, Bool.true_or, Bool.false_or, Bool.or_false, Bool.true_and, Bool.false_and, Bool.and_false, or_true, true_or, beq_self_eq_true, decide_true, decide_false, List.map_cons, List.map_nil, List.length_cons, List.length_nil, List.getElem?_cons_zero, List.getElem?_cons_succ, List.getElem?_nil, List.set_cons_zero, List.set_cons_succ, Option.some.injEq, Option.bind_some, Option.bind_none, id, exists_eq_left', exists_eq_left, exists_and_left, exists_eq_right, V.int.injEq, V.bl.injEq, V.ref.injEq, List.cons.injEq, and_true, true_and, and_assoc, exists_const, atI0, atI1, atI2, ixN30, ixN31, ixN32, upd_same, upd_upd, sq_updL, sq_updT, Nat.zero_add, Nat.reduceAdd, reduceCtorEq, false_and, and_false, exists_false, false_or, or_false, List.length_map, HO.lst.injEq, HO.tup.injEq, Bool.false_eq_true, if_false, if_true, decide_eq_true_eq, ite_true, ite_false, reduceIte, Int.reduceLT, Int.reduceLE, Nat.reduceLT, Int.zero_add, Bool.not_true, Bool.not_false, hsa])
    refine ⟨by omega, by omega, fun c nc => ?_⟩
    have nac : a ≠ c := ne_of_none ha nc
    refine cl_range (LWP a c ns pr wt H) ⟨none, rfl, SameX.upd, upd_same⟩ ?_ ?_
    · rintro h σ H1 hh ⟨v, rfl, s1, e1⟩
      rw [Int.toNat_natCast] at hh
      have hsa1 := sq_tup (s1 _ _ nac ha)
      have hat := at_int (ns := ns) (n := h) hh
      (try simp only [a_iDk, a_rGetI, a_rSetI, a_tDGetI, V.str.injEq, HO.dK.injEq, a_tAug, a_tDisp, a_prs0, a_prs, a_rGetK, a_rSetK, a_tAugS, a_ipI, a_tPop0, a_tCalK, g3r_is, g2r_is, g2_is, g1_is, a_tSeqL, a_tChain, a_tDict, a_tLstA, a_rMulT, a_rEqT, a_tIns, a_tRev, a_rSlA, a_rCatA, a_rCatL, a_tSeq, a_tFor, a_rIxL, a_iZip, a_tSortR, a_tSl, a_rSlL0, a_tNoPart, a_tPart, a_tApp, a_tRet, a_tRetN, a_tNext, a_tDrop, a_tAsg, a_gSub, a_gName, a_gNil, a_gCons, a_gTup0, a_rSetL, a_tIfS, a_tAnd, a_tOr, a_tNot, a_tTest, a_tB, a_tTrue, a_tIf, a_tAndV, a_tOrV, a_tNotV, a_tOp, a_tUn, a_rU, a_tVar, a_tC, a_rI0, a_rI, a_rEq, a_rNe, a_rIx0, a_rIn0, a_tCB, a_tCal, a_tCons, a_tNil, a_tTupA, a_tLst, a_tPar, a_tBits, a_tLC, a_iRng1, a_iRng2, a_iT0, a_iL0, a_tEmit, frS, scal, V.ty.injEq, tyN, subN, String.reduceEq, String.reduceBEq, Bool.true_or, Bool.false_or, Bool.or_false, Bool.true_and, Bool.false_and, Bool.and_false, or_true, true_or, beq_self_eq_true, decide_true, decide_false, List.map_cons, List.map_nil, List.length_cons, List.length_nil, List.getElem?_cons_zero, List.getElem?_cons_succ, List.getElem?_nil, List.set_cons_zero, List.set_cons_succ, Option.some.injEq, Option.bind_some, Option.bind_none, id, exists_eq_left', exists_eq_left, exists_and_left, exists_eq_right, V.int.injEq, V.bl.injEq, V.ref.injEq, List.cons.injEq, and_true, true_and, and_assoc, exists_const, atI0, atI1, atI2, ixN30, ixN31, ixN32, upd_same, upd_upd, sq_updL, sq_updT, Nat.zero_add, Nat.reduceAdd, reduceCtorEq, false_and, and_false, exists_false, false_or, or_false, List.length_map, HO.lst.injEq, HO.tup.injEq, Bool.false_eq_true, if_false, if_true, decide_eq_true_eq, ite_true, ite_false, reduceIte, Int.reduceLT, Int.reduceLE, Nat.reduceLT, Int.zero_add, Bool.not_true, Bool.not_false, hsa1, hat, sp_less, sp_within])
      by_cases z : inB pr h = true
      · have z' : lessI (pr : Int) (h : Int) = 0 := of_decide_eq_true z
        have pl := sub_le p32 (by omega) z
        obtain ⟨lf, _⟩ := part_facts (show h < 32 by omega) pl z
        have hat2 := at_int (ns := ns) (n := h - pr) (by omega)
        rw [if_pos z', lf]
        refine ⟨_, hat2, _, rfl, _, e1, small1000 (by simp; omega), _, rfl, s1.trans SameX.upd, ?_⟩
        rw [upd_same, List.range_succ, List.map_append, List.map_append]
        simp only [List.map_cons, List.map_nil]
        unfold pairAt
        rw [if_pos z]
      · have z' : ¬ lessI (pr : Int) (h : Int) = 0 := fun y => z (decide_eq_true y)
        rw [if_neg z']
        refine ⟨_, e1, small1000 (by simp; omega), _, rfl, s1.trans SameX.upd, ?_⟩
        rw [upd_same, List.range_succ, List.map_append, List.map_append]
        simp only [List.map_cons, List.map_nil]
        have : pairAt ns pr wt h = ns.getD h 0 := by unfold pairAt; rw [if_neg z]
        rw [this]
    · rintro σ H1 ⟨v, rfl, s1, e1⟩
      rw [Int.toNat_natCast] at e1
      (walk_at "rd")
      refine ⟨_, e1, fun l H2 nl s2 e2 => ?_⟩
      exact q l H2 ((s1.same nc).trans s2) e2
theorem two_le {t : Nat} (h : t < 5) : (0 : Int) ≤ 2 ^ t ∧ (2 : Int) ^ t ≤ 16 := by
  have h5 : t = 0 ∨ t = 1 ∨ t = 2 ∨ t = 3 ∨ t = 4 := by omega
  rcases h5 with rfl | rfl | rfl | rfl | rfl <;> decide
def sp_hp : Sp := fun vs H Q _ => ∃ (a : Addr) (i j : Nat), vs = [.ref a] ∧ H a = some (.tup [.int (i : Int), .int (j : Int)]) ∧ i < 5 ∧ j < 5 ∧ ∀ H', Same H H' → Q (.int ((2 ^ i + 2 ^ j : Nat) : Int)) H'
def LHP (c : Addr) (ts : List Nat) (G : Hp) (i : Nat) (σ : St) (H : Hp) : Prop := ∃ v, σ = [v] ∧ SameX c G H ∧ H c = some (.lst (((ts.take i).map fun t : Nat => (2 : Int) ^ t).map V.int))
theorem sc_heap_of : FnScope ["things"] ["things"] (defScope s_heap_of) := ⟨rfl, rfl, rfl, by decide +kernel, rfl, by decide +kernel, by decide +kernel⟩
theorem ok_hp (F : Fun K "heap_of" "heap_of" s_heap_of f fd) (hm : mg "heap_of" = some (.ref f)) (hb : Binds K fd ["things"] []) (T : Txt mg) : Cal P w K mg base "heap_of" ["things"] 1 sp_hp := by
  refine cal_of F hm hb sc_heap_of (fun vs H Q E h => ?_) (fun cdv A outer s H vs Q E hr h => ?_)
  · obtain ⟨_, _, _, rfl, _⟩ := h; rfl
  · obtain ⟨a, i, j, rfl, ha, hi, hj, q⟩ := h
    have sc := sc_heap_of
    refine ⟨_, pss_one (ps_ret (pe_callB (sum0 rfl) rfl T.sum_ bt_sum (pa_cns (pe_lc (N := ["thing"]) (fr := [none]) rfl (pi_t0 (pv 0)) (CScope.of rfl rfl rfl) rfl (fun _ _ _ => ⟨pg_name (i := 0) (show List.Nodup (α := Str) ["thing"] by decide +kernel) rfl (Or.inl rfl), pif_nil, pe_op op_shl pe_int (pv 0)⟩)) pa_nil))), ?_⟩
    rw [show L2.start ["things"] [.ref a] = [some (.ref a)] from rfl]
    (try simp only [a_iDk, a_rGetI, a_rSetI, a_tDGetI, V.str.injEq, HO.dK.injEq, a_tAug, a_tDisp, a_prs0, a_prs, a_rGetK, a_rSetK, a_tAugS, a_ipI, a_tPop0, a_tCalK, g3r_is, g2r_is, g2_is, g1_is, a_tSeqL, a_tChain, a_tDict, a_tLstA, a_rMulT, a_rEqT, a_tIns, a_tRev, a_rSlA, a_rCatA, a_rCatL, a_tSeq, a_tFor, a_rIxL, a_iZip, a_tSortR, a_tSl, a_rSlL0, a_tNoPart, a_tPart, a_tApp, a_tRet, a_tRetN, a_tNext, a_tDrop, a_tAsg, a_gSub, a_gName, a_gNil, a_gCons, a_gTup0, a_rSetL, a_tIfS, a_tAnd, a_tOr, a_tNot, a_tTest, a_tB, a_tTrue, a_tIf, a_tAndV, a_tOrV, a_tNotV, a_tOp, a_tUn, a_rU, a_tVar, a_tC, a_rI0, a_rI, a_rEq, a_rNe, a_rIx0, a_rIn0, a_tCB, a_tCal, a_tCons, a_tNil, a_tTupA, a_tLst, a_tPar, a_tBits, a_tLC, a_iRng1, a_iRng2, a_iT0, a_iL0, a_tEmit, frS, scal, V.ty.injEq, tyN, subN, String.reduceEq, String.reduceBEq, Bool.true_or, Bool.false_or, Bool.or_false, Bool.true_and, Bool.false_and, Bool.and_false, or_true, true_or, beq_self_eq_true, decide_true, decide_false, List.map_cons, List.map_nil, List.length_cons, List.length_nil, List.getElem?_cons_zero, List.getElem?_cons_succ, List.getElem?_nil, List.set_cons_zero, List.set_cons_succ, Option.some.injEq, Option.bind_some, Option.bind_none, id, exists_eq_left', exists_eq_left, exists_and_left, exists_eq_right, V.int.injEq, V.bl.injEq, V.ref.injEq, List.cons.injEq, and_true, true_and, and_assoc, exists_const, atI0, atI1, atI2, ixN30, ixN31, ixN32, upd_same, upd_upd, sq_updL, sq_updT, Nat.zero_add, Nat.reduceAdd, reduceCtorEq, false_and, and_false, exists_false, false_or, or_false, List.length_map, HO.lst.injEq, HO.tup.injEq, Bool.false_eq_true, if_false, if_true, decide_eq_true_eq, ite_true, ite_false, reduceIte, Int.reduceLT, Int.reduceLE, Nat.reduceLT, Int.zero_add, Bool.not_true, Bool.not_false, ha])
    intro c nc
    have nac : a ≠ c := ne_of_none ha nc
    refine cl_seq (LHP c [i, j] H) ⟨none, rfl, SameX.upd, upd_same⟩ (fun k σ H' _ ⟨_, _, s, _⟩ => s _ _ nac ha) ?_ ?_
    · rintro k x σ H1 hx ⟨v, rfl, s1, e1⟩
      have hx' : ([i, j].map fun t : Nat => V.int (t : Int))[k]? = some x := hx
      rw [List.getElem?_map] at hx'
      obtain ⟨t, ht, rfl⟩ := Option.map_eq_some_iff.mp hx'
      have hk : k < [i, j].length := (List.getElem?_eq_some_iff.mp ht).1
      have t5 : t < 5 := by
        have := List.mem_of_getElem? ht
        simp at this
        omega
      (try simp only [a_iDk, a_rGetI, a_rSetI, a_tDGetI, V.str.injEq, HO.dK.injEq, a_tAug, a_tDisp, a_prs0, a_prs, a_rGetK, a_rSetK, a_tAugS, a_ipI, a_tPop0, a_tCalK, g3r_is, g2r_is, g2_is, g1_is, a_tSeqL, a_tChain, a_tDict, a_tLstA, a_rMulT, a_rEqT, a_tIns, a_tRev, a_rSlA, a_rCatA, a_rCatL, a_tSeq, a_tFor, a_rIxL, a_iZip, a_tSortR, a_tSl, a_rSlL0, a_tNoPart, a_tPart, a_tApp, a_tRet, a_tRetN, a_tNext, a_tDrop, a_tAsg, a_gSub, a_gName, a_gNil, a_gCons, a_gTup0, a_rSetL, a_tIfS, a_tAnd, a_tOr, a_tNot, a_tTest, a_tB, a_tTrue, a_tIf, a_tAndV, a_tOrV, a_tNotV, a_tOp, a_tUn, a_rU, a_tVar, a_tC, a_rI0, a_rI, a_rEq, a_rNe, a_rIx0, a_rIn0, a_tCB, a_tCal, a_tCons, a_tNil, a_tTupA, a_tLst, a_tPar, a_tBits, a_tLC, a_iRng1, a_iRng2, a_iT0, a_iL0, a_tEmit, frS, scal, V.ty.injEq, tyN, subN, String.reduceEq, String.reduceBEq, Bool.true_or, Bool.false_or, Bool.or_false, Bool.true_and, Bool.false_and, Bool.and_false, or_true, true_or, beq_self_eq_true, decide_true, decide_false, List.map_cons, List.map_nil, List.length_cons, List.length_nil, List.getElem?_cons_zero, List.getElem?_cons_succ, List.getElem?_nil, List.set_cons_zero, List.set_cons_succ, Option.some.injEq, Option.bind_some, Option.bind_none, id, exists_eq_left', exists_eq_left, exists_and_left, exists_eq_right, V.int.injEq, V.bl.injEq, V.ref.injEq, List.cons.injEq, and_true, true_and, and_assoc, exists_const, atI0, atI1, atI2, ixN30, ixN31, ixN32, upd_same, upd_upd, sq_updL, sq_updT, Nat.zero_add, Nat.reduceAdd, reduceCtorEq, false_and, and_false, exists_false, false_or, or_false, List.length_map, HO.lst.injEq, HO.tup.injEq, Bool.false_eq_true, if_false, if_true, decide_eq_true_eq, ite_true, ite_false, reduceIte, Int.reduceLT, Int.reduceLE, Nat.reduceLT, Int.zero_add, Bool.not_true, Bool.not_false, e1])
      refine ⟨⟨by omega, by omega, by decide⟩, small1000 (by rw [List.length_take]; simp at hk ⊢; omega), ⟨_, rfl, s1.trans SameX.upd, ?_⟩⟩
      rw [upd_same, List.take_add_one, ht]
      simp
    · rintro σ H1 ⟨v, rfl, s1, e1⟩
      have e1' : H1 c = some (.lst ([(2 : Int) ^ i, (2 : Int) ^ j].map V.int)) := e1
      have b1 := two_le hi
      have b2 := two_le hj
      refine ⟨_, sq_lst e1', sumFits_of (fun n hn => ?_) (by simp), ?_⟩
      · simp at hn
        rcases hn with rfl | rfl <;> omega
      · have : [(2 : Int) ^ i, (2 : Int) ^ j].sum = ((2 ^ i + 2 ^ j : Nat) : Int) := by
          rw [Int.natCast_add, Int.natCast_pow, Int.natCast_pow]
          simp
        rw [this]
        exact q H1 (s1.same nc)
theorem pair_one {i j m : Nat} (hm : m ≤ 5) (hi : i < m) (hj : j < m) (ne : i ≠ j) : 1 ≤ 2 ^ i + 2 ^ j ∧ 2 ^ i + 2 ^ j < 32 := by
  have key : ∀ (a b : _root_.Fin 5), a.val ≠ b.val → 1 ≤ 2 ^ a.val + 2 ^ b.val ∧ 2 ^ a.val + 2 ^ b.val < 32 := by decide
  exact key ⟨i, by omega⟩ ⟨j, by omega⟩ ne
abbrev PRow := Nat × Nat × Int
def pr (r : PRow) : Nat := 2 ^ r.1 + 2 ^ r.2.1
structure ROk (m : Nat) (r : PRow) : Prop where
  ne : r.1 ≠ r.2.1
  i : r.1 < m
  j : r.2.1 < m
  w0 : 0 ≤ r.2.2
def pstep (ns : List Int) (r : PRow) : List Int := pairT ns (pr r) r.2.2
theorem pstep_len (ns : List Int) (r : PRow) : (pstep ns r).length = ns.length := pairT_len _ _ _
theorem pstep_at {ns : List Int} {r : PRow} {h : Nat} (hh : h < ns.length) : (pstep ns r).getD h 0 = pairAt ns (pr r) r.2.2 h := pairT_at hh
def pfold (m : Nat) (ps : List PRow) : List Int := ps.foldl pstep (List.replicate (2 ^ m) 0)
theorem fold_len {m : Nat} : ∀ (ps : List PRow) (a : List Int), a.length = 2 ^ m → (ps.foldl pstep a).length = 2 ^ m
  | [], _, h => h
  | r :: ps, a, h => fold_len ps _ (by rw [pstep_len, h])
theorem pfold_len (m : Nat) (ps : List PRow) : (pfold m ps).length = 2 ^ m := fold_len ps _ (by simp)
theorem zeros_at (m h : Nat) : (List.replicate (2 ^ m) (0 : Int)).getD h 0 = 0 := by
  rw [List.getD_eq_getElem?_getD, List.getElem?_replicate]
  split <;> rfl
theorem pair_lt {i j m : Nat} (m5 : m ≤ 5) (hi : i < m) (hj : j < m) (ne : i ≠ j) : 2 ^ i + 2 ^ j < 2 ^ m := by
  have key : ∀ (n : _root_.Fin 6) (a b : _root_.Fin 5), a.val < n.val → b.val < n.val → a.val ≠ b.val → 2 ^ a.val + 2 ^ b.val < 2 ^ n.val := by decide
  exact key ⟨m, by omega⟩ ⟨i, by omega⟩ ⟨j, by omega⟩ hi hj ne
end
end K10
end
section
set_option Elab.async false
set_option linter.all false
set_option maxRecDepth 100000
set_option maxHeartbeats 8000000
namespace K10
open PySem L2
local macro_rules | `(tactic| walk_at "rd") => `(tactic| (try simp only [a_iDk, a_rGetI, a_rSetI, a_tDGetI, V.str.injEq, HO.dK.injEq, a_tAug, a_tDisp, a_prs0, a_prs, a_rGetK, a_rSetK, a_tAugS, a_ipI, a_tPop0, a_tCalK, g3r_is, g2r_is, g2_is, g1_is, a_tSeqL, a_tChain, a_tDict, a_tLstA, a_rMulT, a_rEqT, a_tIns, a_tRev, a_rSlA, a_rCatA, a_rCatL, a_tSeq, a_tFor, a_rIxL, a_iZip, a_tSortR, a_tSl, a_rSlL0, a_tNoPart, a_tPart, a_tApp, a_tRet, a_tRetN, a_tNext, a_tDrop, a_tAsg, a_gSub, a_gName, a_gNil, a_gCons, a_gTup0, a_rSetL, a_tIfS, a_tAnd, a_tOr, a_tNot, a_tTest, a_tB, a_tTrue, a_tIf, a_tAndV, a_tOrV, a_tNotV, a_tOp, a_tUn, a_rU, a_tVar, a_tC, a_rI0, a_rI, a_rEq, a_rNe, a_rIx0, a_rIn0, a_tCB, a_tCal, a_tCons, a_tNil, a_tTupA, a_tLst, a_tPar, a_tBits, a_tLC, a_iRng1, a_iRng2, a_iT0, a_iL0, a_tEmit, frS, scal, V.ty.injEq, tyN, subN, String.reduceEq, String.reduceBEq, Bool.true_or, Bool.false_or, Bool.or_false, Bool.true_and, Bool.false_and, Bool.and_false, or_true, true_or, beq_self_eq_true, decide_true, decide_false, List.map_cons, List.map_nil, List.length_cons, List.length_nil, List.getElem?_cons_zero, List.getElem?_cons_succ, List.getElem?_nil, List.set_cons_zero, List.set_cons_succ, Option.some.injEq, Option.bind_some, Option.bind_none, id, exists_eq_left', exists_eq_left, exists_and_left, exists_eq_right, V.int.injEq, V.bl.injEq, V.ref.injEq, List.cons.injEq, and_true, true_and, and_assoc, exists_const, atI0, atI1, atI2, ixN30, ixN31, ixN32, upd_same, upd_upd, sq_updL, sq_updT, Nat.zero_add, Nat.reduceAdd, reduceCtorEq, false_and, and_false, exists_false, false_or, or_false, List.length_map, HO.lst.injEq, HO.tup.injEq, Bool.false_eq_true, if_false, if_true, decide_eq_true_eq, ite_true, ite_false, reduceIte, Int.reduceLT, Int.reduceLE, Nat.reduceLT, Int.zero_add, Bool.not_true, Bool.not_false]))
section
variable {P : Program} {w : World} {K : PySem.W.Frag} {mg : Str → Option Value} {base : Heap} {f : Addr} {fd : FuncData}
theorem box_ne_tup {H : Hp} {p t : Addr} {xs : List V} (bx : Box H p) (e : H t = some (.tup xs)) : t ≠ p := by
  rintro rfl
  obtain ⟨_, _, _, z⟩ := bx
  rw [e] at z
  cases z
structure Sd (ss : List Int) : Prop where
  one : 1 ≤ ss.length
  five : ss.length ≤ 5
  bd : ∀ x ∈ ss, x = 0 ∨ x = 1
def HR (H : Hp) (rs : List (Addr × PRow)) : Prop := ∀ r ∈ rs, H r.1 = some (.tup [.int (r.2.1 : Int), .int (r.2.2.1 : Int), .int r.2.2.2])
theorem HR.same {H H' : Hp} {rs : List (Addr × PRow)} (h : HR H rs) (s : Same H H') : HR H' rs := fun r hr => s _ _ (h r hr)
theorem HR.keep {H H' : Hp} {p c : Addr} {rs : List (Addr × PRow)} {zs : List V} (h : HR H rs) (bx : Box H p) (hc : H c = some (.lst zs)) (k : ∀ b o, b ≠ p → b ≠ c → H b = some o → H' b = some o) : HR H' rs := fun r hr => by
  have e := h r hr
  refine k _ _ (box_ne_tup bx e) (fun z => ?_) e
  rw [z, hc] at e
  cases e
def refsP (rs : List (Addr × PRow)) : List V := rs.map fun r => V.ref r.1
theorem refsP_len (rs : List (Addr × PRow)) : (refsP rs).length = rs.length := by unfold refsP; simp
def rowsP (rs : List (Addr × PRow)) : List PRow := rs.map fun r => r.2
def sp_paired : Sp := fun vs H Q _ => ∃ (a b : Addr) (ss : List Int) (rs : List (Addr × PRow)), vs = [.ref a, .ref b] ∧ H a = some (.tup (ss.map V.int)) ∧ ss.length ≤ 5 ∧ H b = some (.tup (refsP rs)) ∧ HR H rs ∧ (∀ r ∈ rs, ROk ss.length r.2) ∧ ∀ (l : Addr) (H' : Hp), Same H H' → H' l = some (.tup ((pfold ss.length (rowsP rs)).map V.int)) → Q (.ref l) H'
def LPD (a b : Addr) (m : Nat) (rs : List (Addr × PRow)) (G : Hp) (i : Nat) (σ : St) (H : Hp) : Prop := ∃ (v3 v4 v5 : Option V) (wa : Addr), σ = [some (.ref a), some (.ref b), some (.ref wa), v3, v4, v5] ∧ Same G H ∧ H wa = some (.tup ((pfold m (rowsP (rs.take i))).map V.int))
theorem sc_paired : FnScope ["sides", "rows", "want", "i", "j", "worth"] ["sides", "rows"] (defScope s_paired) := ⟨rfl, rfl, rfl, by decide +kernel, rfl, by decide +kernel, by decide +kernel⟩
theorem ok_paired (F : Fun K "paired" "paired" s_paired f fd) (T : Txt mg) (c_with_pair : Cal P w K mg base "with_pair" ["want", "pair", "worth"] 3 sp_wp) (c_heap_of : Cal P w K mg base "heap_of" ["things"] 1 sp_hp) :
    FnOk P w K mg base CX0 4 f fd ["sides", "rows"] sp_paired := by
  refine F.ok sc_paired (fun vs H Q E h => ?_) (fun cdv A outer s H vs Q E hr h => ?_)
  · obtain ⟨_, _, _, _, rfl, _⟩ := h; rfl
  · obtain ⟨a, b, ss, rs, rfl, ha, s5, hb', R, ok, q⟩ := h
    have sc := sc_paired
    have hp := pow32 s5
    refine ⟨_, pss_cons (ps_set (i := 2) sc.nd rfl (Or.inl rfl) (pe_op mulT0 (pe_tupA (pa_cns pe_int pa_nil)) (pe_op op_shl pe_int (pe_callB len0 rfl T.len_ bt_len (pa_cns (pv 0) pa_nil)))))
      (pss_cons (ps_for PassesOwn.never rfl (pi_t0 (pv 1)) (pg_tup0 (n := 3) rfl (pgs_cons (pg_name (i := 3) sc.nd rfl (Or.inl rfl)) (pgs_cons (pg_name (i := 4) sc.nd rfl (Or.inl rfl)) (pgs_cons (pg_name (i := 5) sc.nd rfl (Or.inl rfl)) pgs_nil))))
        (pss_one (ps_set (i := 2) sc.nd rfl (Or.inl rfl) (pe_cal c_with_pair hr (pa_cns (pv 2) (pa_cns (pe_cal c_heap_of hr (pa_cns (pe_tupA (pa_cns (pv 3) (pa_cns (pv 4) pa_nil))) pa_nil)) (pa_cns (pv 5) pa_nil)))))))
      (pss_one (ps_ret (pv 2)))), ?_⟩
    rw [show L2.start ["sides", "rows", "want", "i", "j", "worth"] [.ref a, .ref b] = [some (.ref a), some (.ref b), none, none, none, none] from rfl]
    (walk_at "rd")
    refine ⟨by decide, fun z K1 nz k1 ez => ?_⟩
    have hs1 := sq_tup (k1 _ _ ha)
    (try simp only [a_iDk, a_rGetI, a_rSetI, a_tDGetI, V.str.injEq, HO.dK.injEq, a_tAug, a_tDisp, a_prs0, a_prs, a_rGetK, a_rSetK, a_tAugS, a_ipI, a_tPop0, a_tCalK, g3r_is, g2r_is, g2_is, g1_is, a_tSeqL, a_tChain, a_tDict, a_tLstA, a_rMulT, a_rEqT, a_tIns, a_tRev, a_rSlA, a_rCatA, a_rCatL, a_tSeq, a_tFor, a_rIxL, a_iZip, a_tSortR, a_tSl, a_rSlL0, a_tNoPart, a_tPart, a_tApp, a_tRet, a_tRetN, a_tNext, a_tDrop, a_tAsg, a_gSub, a_gName, a_gNil, a_gCons, a_gTup0, a_rSetL, a_tIfS, a_tAnd, a_tOr, a_tNot, a_tTest, a_tB, a_tTrue, a_tIf, a_tAndV, a_tOrV, a_tNotV, a_tOp, a_tUn, a_rU, a_tVar, a_tC, a_rI0, a_rI, a_rEq, a_rNe, a_rIx0, a_rIn0, a_tCB, a_tCal, a_tCons, a_tNil, a_tTupA, a_tLst, a_tPar, a_tBits, a_tLC, a_iRng1, a_iRng2, a_iT0, a_iL0, a_tEmit, frS, scal, V.ty.injEq, tyN, subN, String.reduceEq, String.reduceBEq, Bool.true_or, Bool.false_or, Bool.or_false, Bool.true_and, Bool.false_and, Bool.and_false, or_true, true_or, beq_self_eq_true, decide_true, decide_false, List.map_cons, List.map_nil, List.length_cons, List.length_nil, List.getElem?_cons_zero, List.getElem?_cons_succ, List.getElem?_nil, List.set_cons_zero, List.set_cons_succ, Option.some.injEq, Option.bind_some, Option.bind_none, id, exists_eq_left', exists_eq_left, exists_and_left, exists_eq_right, V.int.injEq, V.bl.injEq, V.ref.injEq, List.cons.injEq, and_true, true_and, and_assoc, exists_const, atI0, atI1, atI2, ixN30, ixN31, ixN32, upd_same, upd_upd, sq_updL, sq_updT, Nat.zero_add, Nat.reduceAdd, reduceCtorEq, false_and, and_false, exists_false, false_or, or_false, List.length_map, HO.lst.injEq, HO.tup.injEq, Bool.false_eq_true, if_false, if_true, decide_eq_true_eq, ite_true, ite_false, reduceIte, Int.reduceLT, Int.reduceLE, Nat.reduceLT, Int.zero_add, Bool.not_true, Bool.not_false, hs1])
    have hpow : (1 : Int) * 2 ^ (ss.length : Int).toNat = ((2 ^ ss.length : Nat) : Int) := by rw [Int.one_mul, Int.toNat_natCast]; norm_cast
    rw [hpow]
    refine ⟨⟨by omega, by omega, by decide⟩, 2 ^ ss.length, rfl, [.int 0], ez, by simp; omega, by omega, fun wh K2 k2 ewh => ?_⟩
    have ezr : (List.replicate (2 ^ ss.length) [V.int 0]).flatten = (pfold ss.length (rowsP (rs.take 0))).map V.int := by simp [pfold, rowsP]
    rw [ezr] at ewh
    have S2 := k1.trans k2
    have eb2 := S2 _ _ hb'
    (try simp only [a_iDk, a_rGetI, a_rSetI, a_tDGetI, V.str.injEq, HO.dK.injEq, a_tAug, a_tDisp, a_prs0, a_prs, a_rGetK, a_rSetK, a_tAugS, a_ipI, a_tPop0, a_tCalK, g3r_is, g2r_is, g2_is, g1_is, a_tSeqL, a_tChain, a_tDict, a_tLstA, a_rMulT, a_rEqT, a_tIns, a_tRev, a_rSlA, a_rCatA, a_rCatL, a_tSeq, a_tFor, a_rIxL, a_iZip, a_tSortR, a_tSl, a_rSlL0, a_tNoPart, a_tPart, a_tApp, a_tRet, a_tRetN, a_tNext, a_tDrop, a_tAsg, a_gSub, a_gName, a_gNil, a_gCons, a_gTup0, a_rSetL, a_tIfS, a_tAnd, a_tOr, a_tNot, a_tTest, a_tB, a_tTrue, a_tIf, a_tAndV, a_tOrV, a_tNotV, a_tOp, a_tUn, a_rU, a_tVar, a_tC, a_rI0, a_rI, a_rEq, a_rNe, a_rIx0, a_rIn0, a_tCB, a_tCal, a_tCons, a_tNil, a_tTupA, a_tLst, a_tPar, a_tBits, a_tLC, a_iRng1, a_iRng2, a_iT0, a_iL0, a_tEmit, frS, scal, V.ty.injEq, tyN, subN, String.reduceEq, String.reduceBEq, Bool.true_or, Bool.false_or, Bool.or_false, Bool.true_and, Bool.false_and, Bool.and_false, or_true, true_or, beq_self_eq_true, decide_true, decide_false, List.map_cons, List.map_nil, List.length_cons, List.length_nil, List.getElem?_cons_zero, List.getElem?_cons_succ, List.getElem?_nil, List.set_cons_zero, List.set_cons_succ, Option.some.injEq, Option.bind_some, Option.bind_none, id, exists_eq_left', exists_eq_left, exists_and_left, exists_eq_right, V.int.injEq, V.bl.injEq, V.ref.injEq, List.cons.injEq, and_true, true_and, and_assoc, exists_const, atI0, atI1, atI2, ixN30, ixN31, ixN32, upd_same, upd_upd, sq_updL, sq_updT, Nat.zero_add, Nat.reduceAdd, reduceCtorEq, false_and, and_false, exists_false, false_or, or_false, List.length_map, HO.lst.injEq, HO.tup.injEq, Bool.false_eq_true, if_false, if_true, decide_eq_true_eq, ite_true, ite_false, reduceIte, Int.reduceLT, Int.reduceLE, Nat.reduceLT, Int.zero_add, Bool.not_true, Bool.not_false, eb2])
    refine fl_seq (LPD a b ss.length rs K2) ⟨_, _, _, wh, rfl, Same.refl _, ewh⟩ (fun j σ H' _ ⟨_, _, _, _, _, s, _⟩ => s _ _ eb2) ?_ ?_
    · rintro k x σ K3 hx ⟨v3, v4, v5, wa, rfl, k3, ewa⟩
      unfold refsP at hx
      rw [List.getElem?_map] at hx
      obtain ⟨r, hr', rfl⟩ := Option.map_eq_some_iff.mp hx
      have er := R r (List.mem_of_getElem? hr')
      have er3 := (S2.trans k3) _ _ er
      have ok' := ok r (List.mem_of_getElem? hr')
      obtain ⟨r0, i, j, wt⟩ := r
      obtain ⟨o1, o2, o3, o4⟩ := ok'
      simp only at o1 o2 o3 o4
      obtain ⟨p1, p32⟩ := pair_one s5 o2 o3 o1
      (try simp only [a_iDk, a_rGetI, a_rSetI, a_tDGetI, V.str.injEq, HO.dK.injEq, a_tAug, a_tDisp, a_prs0, a_prs, a_rGetK, a_rSetK, a_tAugS, a_ipI, a_tPop0, a_tCalK, g3r_is, g2r_is, g2_is, g1_is, a_tSeqL, a_tChain, a_tDict, a_tLstA, a_rMulT, a_rEqT, a_tIns, a_tRev, a_rSlA, a_rCatA, a_rCatL, a_tSeq, a_tFor, a_rIxL, a_iZip, a_tSortR, a_tSl, a_rSlL0, a_tNoPart, a_tPart, a_tApp, a_tRet, a_tRetN, a_tNext, a_tDrop, a_tAsg, a_gSub, a_gName, a_gNil, a_gCons, a_gTup0, a_rSetL, a_tIfS, a_tAnd, a_tOr, a_tNot, a_tTest, a_tB, a_tTrue, a_tIf, a_tAndV, a_tOrV, a_tNotV, a_tOp, a_tUn, a_rU, a_tVar, a_tC, a_rI0, a_rI, a_rEq, a_rNe, a_rIx0, a_rIn0, a_tCB, a_tCal, a_tCons, a_tNil, a_tTupA, a_tLst, a_tPar, a_tBits, a_tLC, a_iRng1, a_iRng2, a_iT0, a_iL0, a_tEmit, frS, scal, V.ty.injEq, tyN, subN, String.reduceEq, String.reduceBEq, Bool.true_or, Bool.false_or, Bool.or_false, Bool.true_and, Bool.false_and, Bool.and_false, or_true, true_or, beq_self_eq_true, decide_true, decide_false, List.map_cons, List.map_nil, List.length_cons, List.length_nil, List.getElem?_cons_zero, List.getElem?_cons_succ, List.getElem?_nil, List.set_cons_zero, List.set_cons_succ, Option.some.injEq, Option.bind_some, Option.bind_none, id, exists_eq_left', exists_eq_left, exists_and_left, exists_eq_right, V.int.injEq, V.bl.injEq, V.ref.injEq, List.cons.injEq, and_true, true_and, and_assoc, exists_const, atI0, atI1, atI2, ixN30, ixN31, ixN32, upd_same, upd_upd, sq_updL, sq_updT, Nat.zero_add, Nat.reduceAdd, reduceCtorEq, false_and, and_false, exists_false, false_or, or_false, List.length_map, HO.lst.injEq, HO.tup.injEq, Bool.false_eq_true, if_false, if_true, decide_eq_true_eq, ite_true, ite_false, reduceIte, Int.reduceLT, Int.reduceLE, Nat.reduceLT, Int.zero_add, Bool.not_true, Bool.not_false, er3])
      refine ⟨by decide, fun y K4 ny k4 ey => ?_⟩
      refine ⟨y, i, j, rfl, ey, by omega, by omega, fun K5 k5 => ?_⟩
      (walk_at "rd")
      refine ⟨wa, _, 2 ^ i + 2 ^ j, wt, rfl, (k4.trans k5) _ _ ewa, by rw [pfold_len]; exact hp.1, p32, fun l K6 k6 el => ?_⟩
      (walk_at "rd")
      refine ⟨_, _, _, l, rfl, ((k3.trans k4).trans k5).trans k6, ?_⟩
      rw [el]
      congr 3
      unfold rowsP pfold
      rw [List.take_add_one, hr', Option.toList_some, List.map_append, List.foldl_append]
      rfl
    · rintro σ K3 ⟨v3, v4, v5, wa, rfl, k3, ewa⟩
      rw [refsP_len, List.take_length] at ewa
      (walk_at "rd")
      exact q wa K3 (S2.trans k3) ewa
structure RInv (ss : List Int) (rs : List (Addr × PRow)) : Prop where
  ok : ∀ r ∈ rs, ROk ss.length r.2 ∧ ss.getD r.2.1 0 = 0 ∧ ss.getD r.2.2.1 0 = 1 ∧ r.2.2.2 ≤ 1000
  nd : (rs.map fun r => (r.2.1, r.2.2.1)).Nodup
theorem ins_rows (rs : List (Addr × PRow)) (r : Nat) (x : Addr × PRow) : insV (refsP rs) r (.ref x.1) = refsP (rs.take r ++ x :: rs.drop r) := by
  unfold insV refsP
  simp
theorem mem_ins {α : Type} {l : List α} {r : Nat} {x y : α} (h : y ∈ l.take r ++ x :: l.drop r) : y = x ∨ y ∈ l := by
  rcases List.mem_append.mp h with z | z
  · exact .inr (List.mem_of_mem_take z)
  · rcases List.mem_cons.mp z with z | z
    · exact .inl z
    · exact .inr (List.mem_of_mem_drop z)
theorem RInv.ins {ss : List Int} {rs : List (Addr × PRow)} (I : RInv ss rs) (n : Nat) {x : Addr × PRow} (ok : ROk ss.length x.2 ∧ ss.getD x.2.1 0 = 0 ∧ ss.getD x.2.2.1 0 = 1 ∧ x.2.2.2 ≤ 1000) (new : ∀ r ∈ rs, ¬ (r.2.1 = x.2.1 ∧ r.2.2.1 = x.2.2.1)) : RInv ss (rs.take n ++ x :: rs.drop n) := by
  refine ⟨fun r hr => ?_, ?_⟩
  · rcases mem_ins hr with rfl | z
    · exact ok
    · exact I.ok r z
  · have p : (rs.take n ++ x :: rs.drop n).Perm (x :: rs) := by
      have := List.perm_middle (l₁ := rs.take n) (a := x) (l₂ := rs.drop n)
      rwa [List.take_append_drop] at this
    rw [(p.map fun r => (r.2.1, r.2.2.1)).nodup_iff, List.map_cons, List.nodup_cons]
    refine ⟨fun z => ?_, I.nd⟩
    obtain ⟨r, hr, e⟩ := List.mem_map.mp z
    injection e with e1 e2
    exact new r hr ⟨e1, e2⟩
def sp_rows : Sp := fun vs H Q _ => ∃ (p a : Addr) (ss : List Int), vs = [.ref p, .ref a] ∧ Box H p ∧ H a = some (.tup (ss.map V.int)) ∧ Sd ss ∧ ∀ (t : Addr) (rs : List (Addr × PRow)) (H' : Hp), rs.length ≤ 25 → RInv ss rs → HR H' rs → Box H' p → SameX p H H' → H' t = some (.tup (refsP rs)) → Q (.ref t) H'
def R1 (p a c : Addr) (ss : List Int) (G : Hp) (i : Nat) (σ : St) (H : Hp) : Prop := ∃ (v3 v4 v5 : Option V) (rs : List (Addr × PRow)), σ = [some (.ref p), some (.ref a), some (.ref c), v3, v4, v5] ∧ rs.length ≤ 5 * i ∧ RInv ss rs ∧ (∀ r ∈ rs, r.2.1 < i) ∧ HR H rs ∧ Box H p ∧ (∀ b o, b ≠ p → b ≠ c → G b = some o → H b = some o) ∧ H c = some (.lst (refsP rs))
def R2 (p a c : Addr) (ss : List Int) (i : Nat) (G : Hp) (j : Nat) (σ : St) (H : Hp) : Prop := ∃ (v4 v5 : Option V) (rs : List (Addr × PRow)), σ = [some (.ref p), some (.ref a), some (.ref c), some (.int (i : Int)), v4, v5] ∧ rs.length ≤ 5 * i + j ∧ RInv ss rs ∧ (∀ r ∈ rs, r.2.1 < i ∨ (r.2.1 = i ∧ r.2.2.1 < j)) ∧ HR H rs ∧ Box H p ∧ (∀ b o, b ≠ p → b ≠ c → G b = some o → H b = some o) ∧ H c = some (.lst (refsP rs))
theorem sc__law_rows : FnScope ["_law_box_here", "_law_sides", "_law_found", "_law_one", "_law_other", "_law_row"] ["_law_box_here", "_law_sides"] (defScope s__law_rows) := ⟨rfl, rfl, rfl, by decide +kernel, rfl, by decide +kernel, by decide +kernel⟩
theorem ok_rows (F : Fun K "_law_rows" "_law_rows" s__law_rows f fd) (hm : mg "_law_rows" = some (.ref f)) (hb : Binds K fd ["_law_box_here", "_law_sides"] []) (T : Txt mg) (c__law_take : Cal P w K mg base "_law_take" ["_law_box_here", "_law_many_here"] 1 spTake) : Cal P w K mg base "_law_rows" ["_law_box_here", "_law_sides"] 2 sp_rows := by
  refine cal_of F hm hb sc__law_rows (fun vs H Q E h => ?_) (fun cdv A outer s H vs Q E hr h => ?_)
  · obtain ⟨_, _, _, rfl, _⟩ := h; rfl
  · obtain ⟨p, a, ss, rfl, bx, ha, W, q⟩ := h
    have sc := sc__law_rows
    have w5 := W.five
    have nap := box_ne_tup bx ha
    refine ⟨_, pss_cons (ps_set (i := 2) sc.nd rfl (Or.inl rfl) (pe_lst pa_nil))
      (pss_cons (ps_for PassesOwn.never rfl (pi_range1 rfl T.range_ (pa_cns (pe_callB len0 rfl T.len_ bt_len (pa_cns (pv 1) pa_nil)) pa_nil)) (pg_name (i := 3) sc.nd rfl (Or.inl rfl))
        (pss_one (ps_for PassesOwn.never rfl (pi_range1 rfl T.range_ (pa_cns (pe_callB len0 rfl T.len_ bt_len (pa_cns (pv 1) pa_nil)) pa_nil)) (pg_name (i := 4) sc.nd rfl (Or.inl rfl))
        (pss_one (ps_if (PW.pt (pw_and (pt_cmpR op_eq (pe_ix ix0 (pv 1) (pv 3) (fun _ _ => rfl)) pe_int (nomark _)) (pw_and (pt_cmpR op_eq (pe_ix ix0 (pv 1) (pv 4) (fun _ _ => rfl)) pe_int (nomark _)) (pw_and1 (pt_cmpR op_gt (pe_cal c__law_take hr (pa_cns (pv 0) (pa_cns pe_int pa_nil))) pe_int (nomark _)))))) (pss_cons (ps_set (i := 5) sc.nd rfl (Or.inl rfl) (pe_tupA (pa_cns (pv 3) (pa_cns (pv 4) (pa_cns (pe_cal c__law_take hr (pa_cns (pv 0) (pa_cns (pe_ix ix0 (pe_lst (pa_cns pe_int (pa_cns pe_int (pa_cns pe_int pa_nil)))) (pe_cal c__law_take hr (pa_cns (pv 0) (pa_cns pe_int pa_nil))) (fun _ _ => rfl)) pa_nil))) pa_nil)))))
      (pss_one (ps_expr (pe_insert (pv 2) (pa_cns (pe_cal c__law_take hr (pa_cns (pv 0) (pa_cns (pe_op op_add (pe_callB len0 rfl T.len_ bt_len (pa_cns (pv 2) pa_nil)) pe_int) pa_nil))) (pa_cns (pv 5) pa_nil)))))) pss_nil)))))
      (pss_one (ps_ret (pe_callTy tupA0 rfl T.tuple_ bt_tuple (pa_cns (pv 2) pa_nil))))), ?_⟩
    rw [show L2.start ["_law_box_here", "_law_sides", "_law_found", "_law_one", "_law_other", "_law_row"] [.ref p, .ref a] = [some (.ref p), some (.ref a), none, none, none, none] from rfl]
    (walk_at "rd")
    refine ⟨by decide, fun c nc => ?_⟩
    have npc := bx.ne nc
    have nac : a ≠ c := ne_of_none ha nc
    have hs0 := sq_tup (show upd H c (.lst []) a = _ by rw [upd_ne nac]; exact ha)
    (try simp only [a_iDk, a_rGetI, a_rSetI, a_tDGetI, V.str.injEq, HO.dK.injEq, a_tAug, a_tDisp, a_prs0, a_prs, a_rGetK, a_rSetK, a_tAugS, a_ipI, a_tPop0, a_tCalK, g3r_is, g2r_is, g2_is, g1_is, a_tSeqL, a_tChain, a_tDict, a_tLstA, a_rMulT, a_rEqT, a_tIns, a_tRev, a_rSlA, a_rCatA, a_rCatL, a_tSeq, a_tFor, a_rIxL, a_iZip, a_tSortR, a_tSl, a_rSlL0, a_tNoPart, a_tPart, a_tApp, a_tRet, a_tRetN, a_tNext, a_tDrop, a_tAsg, a_gSub, a_gName, a_gNil, a_gCons, a_gTup0, a_rSetL, a_tIfS, a_tAnd, a_tOr, a_tNot, a_tTest, a_tB, a_tTrue, a_tIf, a_tAndV, a_tOrV, a_tNotV, a_tOp, a_tUn, a_rU, a_tVar, a_tC, a_rI0, a_rI, a_rEq, a_rNe, a_rIx0, a_rIn0, a_tCB, a_tCal, a_tCons, a_tNil, a_tTupA, a_tLst, a_tPar, a_tBits, a_tLC, a_iRng1, a_iRng2, a_iT0, a_iL0, a_tEmit, frS, scal, V.ty.injEq, tyN, subN, String.reduceEq, String.reduceBEq, Bool.true_or, Bool.false_or, Bool.or_false, Bool.true_and, Bool.false_and, Bool.and_false, or_true, true_or, beq_self_eq_true, decide_true, decide_false, List.map_cons, List.map_nil, List.length_cons, List.length_nil, List.getElem?_cons_zero, List.getElem?_cons_succ, List.getElem?_nil, List.set_cons_zero, List.set_cons_succ, Option.some.injEq, Option.bind_some, Option.bind_none, id, exists_eq_left', exists_eq_left, exists_and_left, exists_eq_right, V.int.injEq, V.bl.injEq, V.ref.injEq, List.cons.injEq, and_true, true_and, and_assoc, exists_const, atI0, atI1, atI2, ixN30, ixN31, ixN32, upd_same, upd_upd, sq_updL, sq_updT, Nat.zero_add, Nat.reduceAdd, reduceCtorEq, false_and, and_false, exists_false, false_or, or_false, List.length_map, HO.lst.injEq, HO.tup.injEq, Bool.false_eq_true, if_false, if_true, decide_eq_true_eq, ite_true, ite_false, reduceIte, Int.reduceLT, Int.reduceLE, Nat.reduceLT, Int.zero_add, Bool.not_true, Bool.not_false, hs0])
    refine ⟨by omega, by omega, fl_range (R1 p a c ss H) ⟨none, none, none, [], rfl, by simp, ⟨fun r hr => by simp at hr, by simp⟩, fun r hr => by simp at hr, fun r hr => by simp at hr, bx.upd npc, fun b o _ n e => by rw [upd_ne n]; exact e, upd_same⟩ ?_ ?_⟩
    · rintro i σ H1 hi ⟨v3, v4, v5, rs, rfl, rl, RI, lt1, R, bx1, k1, e1⟩
      rw [Int.toNat_natCast] at hi
      have hs1 := sq_tup (k1 _ _ nap nac ha)
      (try simp only [a_iDk, a_rGetI, a_rSetI, a_tDGetI, V.str.injEq, HO.dK.injEq, a_tAug, a_tDisp, a_prs0, a_prs, a_rGetK, a_rSetK, a_tAugS, a_ipI, a_tPop0, a_tCalK, g3r_is, g2r_is, g2_is, g1_is, a_tSeqL, a_tChain, a_tDict, a_tLstA, a_rMulT, a_rEqT, a_tIns, a_tRev, a_rSlA, a_rCatA, a_rCatL, a_tSeq, a_tFor, a_rIxL, a_iZip, a_tSortR, a_tSl, a_rSlL0, a_tNoPart, a_tPart, a_tApp, a_tRet, a_tRetN, a_tNext, a_tDrop, a_tAsg, a_gSub, a_gName, a_gNil, a_gCons, a_gTup0, a_rSetL, a_tIfS, a_tAnd, a_tOr, a_tNot, a_tTest, a_tB, a_tTrue, a_tIf, a_tAndV, a_tOrV, a_tNotV, a_tOp, a_tUn, a_rU, a_tVar, a_tC, a_rI0, a_rI, a_rEq, a_rNe, a_rIx0, a_rIn0, a_tCB, a_tCal, a_tCons, a_tNil, a_tTupA, a_tLst, a_tPar, a_tBits, a_tLC, a_iRng1, a_iRng2, a_iT0, a_iL0, a_tEmit, frS, scal, V.ty.injEq, tyN, subN, String.reduceEq, String.reduceBEq, Bool.true_or, Bool.false_or, Bool.or_false, Bool.true_and, Bool.false_and, Bool.and_false, or_true, true_or, beq_self_eq_true, decide_true, decide_false, List.map_cons, List.map_nil, List.length_cons, List.length_nil, List.getElem?_cons_zero, List.getElem?_cons_succ, List.getElem?_nil, List.set_cons_zero, List.set_cons_succ, Option.some.injEq, Option.bind_some, Option.bind_none, id, exists_eq_left', exists_eq_left, exists_and_left, exists_eq_right, V.int.injEq, V.bl.injEq, V.ref.injEq, List.cons.injEq, and_true, true_and, and_assoc, exists_const, atI0, atI1, atI2, ixN30, ixN31, ixN32, upd_same, upd_upd, sq_updL, sq_updT, Nat.zero_add, Nat.reduceAdd, reduceCtorEq, false_and, and_false, exists_false, false_or, or_false, List.length_map, HO.lst.injEq, HO.tup.injEq, Bool.false_eq_true, if_false, if_true, decide_eq_true_eq, ite_true, ite_false, reduceIte, Int.reduceLT, Int.reduceLE, Nat.reduceLT, Int.zero_add, Bool.not_true, Bool.not_false, hs1])
      refine ⟨by omega, by omega, fl_range (R2 p a c ss i H) ⟨_, _, rs, rfl, by omega, RI, fun r hr => .inl (lt1 r hr), R, bx1, k1, e1⟩ ?_ ?_⟩
      · rintro j σ H2 hj ⟨w4, w5', rs2, rfl, rl2, RI2, lt2, R2', bx2, k2, e2⟩
        rw [Int.toNat_natCast] at hj
        have hs2 := sq_tup (k2 _ _ nap nac ha)
        have at1 := at_int (ns := ss) (n := i) hi
        have at2 := at_int (ns := ss) (n := j) hj
        have stay : ∀ H3, (∀ b o, b ≠ p → b ≠ c → H2 b = some o → H3 b = some o) → Box H3 p → H3 c = some (.lst (refsP rs2)) → R2 p a c ss i H (j + 1) [some (.ref p), some (.ref a), some (.ref c), some (.int (i : Int)), some (.int (j : Int)), w5'] H3 := fun H3 k3 bx3 e3 => ⟨_, _, rs2, rfl, by omega, RI2, fun r hr => by have := lt2 r hr; omega, R2'.keep bx2 e2 k3, bx3, fun b o n1 n2 e => k3 b o n1 n2 (k2 b o n1 n2 e), e3⟩
        (try simp only [a_iDk, a_rGetI, a_rSetI, a_tDGetI, V.str.injEq, HO.dK.injEq, a_tAug, a_tDisp, a_prs0, a_prs, a_rGetK, a_rSetK, a_tAugS, a_ipI, a_tPop0, a_tCalK, g3r_is, g2r_is, g2_is, g1_is, a_tSeqL, a_tChain, a_tDict, a_tLstA, a_rMulT, a_rEqT, a_tIns, a_tRev, a_rSlA, a_rCatA, a_rCatL, a_tSeq, a_tFor, a_rIxL, a_iZip, a_tSortR, a_tSl, a_rSlL0, a_tNoPart, a_tPart, a_tApp, a_tRet, a_tRetN, a_tNext, a_tDrop, a_tAsg, a_gSub, a_gName, a_gNil, a_gCons, a_gTup0, a_rSetL, a_tIfS, a_tAnd, a_tOr, a_tNot, a_tTest, a_tB, a_tTrue, a_tIf, a_tAndV, a_tOrV, a_tNotV, a_tOp, a_tUn, a_rU, a_tVar, a_tC, a_rI0, a_rI, a_rEq, a_rNe, a_rIx0, a_rIn0, a_tCB, a_tCal, a_tCons, a_tNil, a_tTupA, a_tLst, a_tPar, a_tBits, a_tLC, a_iRng1, a_iRng2, a_iT0, a_iL0, a_tEmit, frS, scal, V.ty.injEq, tyN, subN, String.reduceEq, String.reduceBEq, Bool.true_or, Bool.false_or, Bool.or_false, Bool.true_and, Bool.false_and, Bool.and_false, or_true, true_or, beq_self_eq_true, decide_true, decide_false, List.map_cons, List.map_nil, List.length_cons, List.length_nil, List.getElem?_cons_zero, List.getElem?_cons_succ, List.getElem?_nil, List.set_cons_zero, List.set_cons_succ, Option.some.injEq, Option.bind_some, Option.bind_none, id, exists_eq_left', exists_eq_left, exists_and_left, exists_eq_right, V.int.injEq, V.bl.injEq, V.ref.injEq, List.cons.injEq, and_true, true_and, and_assoc, exists_const, atI0, atI1, atI2, ixN30, ixN31, ixN32, upd_same, upd_upd, sq_updL, sq_updT, Nat.zero_add, Nat.reduceAdd, reduceCtorEq, false_and, and_false, exists_false, false_or, or_false, List.length_map, HO.lst.injEq, HO.tup.injEq, Bool.false_eq_true, if_false, if_true, decide_eq_true_eq, ite_true, ite_false, reduceIte, Int.reduceLT, Int.reduceLE, Nat.reduceLT, Int.zero_add, Bool.not_true, Bool.not_false, hs2, at1, at2])
        by_cases z1 : ss.getD i 0 = 0
        · rw [if_pos (by simpa using z1)]
          by_cases z2 : ss.getD j 0 = 1
          · rw [if_pos (by simpa using z2)]
            have nij : i ≠ j := fun z => by rw [z, z2] at z1; cases z1
            (walk_at "rd")
            refine ⟨p, 4, rfl, bx2, by decide, by decide, fun r3 H3 r30 r31 bx3 bt3 => ?_⟩
            have e3 : H3 c = some (.lst (refsP rs2)) := by rw [bt3 c npc.symm]; exact e2
            have k3 : ∀ b o, b ≠ p → b ≠ c → H2 b = some o → H3 b = some o := fun b o n1 _ e => by rw [bt3 b n1]; exact e
            (walk_at "rd")
            split
            · (walk_at "rd")
              refine ⟨by decide, fun d nd => ?_⟩
              have npd := bx3.ne nd
              refine ⟨p, 3, rfl, bx3.upd npd, by decide, by decide, fun r4 H4 r40 r41 bx4 bt4 => ?_⟩
              have hs4 := sq_lst (show H4 d = _ by rw [bt4 d npd.symm]; exact upd_same)
              obtain ⟨most, hat4, mo0, mo1⟩ : ∃ most : Int, atI [V.int 3, V.int 10, V.int 1001] r4 = some (.int most) ∧ 0 < most ∧ most ≤ 1001 := by
                have h3 : r4 = 0 ∨ r4 = 1 ∨ r4 = 2 := by omega
                rcases h3 with rfl | rfl | rfl
                · exact ⟨3, rfl, by decide, by decide⟩
                · exact ⟨10, rfl, by decide, by decide⟩
                · exact ⟨1001, rfl, by decide, by decide⟩
              (try simp only [a_iDk, a_rGetI, a_rSetI, a_tDGetI, V.str.injEq, HO.dK.injEq, a_tAug, a_tDisp, a_prs0, a_prs, a_rGetK, a_rSetK, a_tAugS, a_ipI, a_tPop0, a_tCalK, g3r_is, g2r_is, g2_is, g1_is, a_tSeqL, a_tChain, a_tDict, a_tLstA, a_rMulT, a_rEqT, a_tIns, a_tRev, a_rSlA, a_rCatA, a_rCatL, a_tSeq, a_tFor, a_rIxL, a_iZip, a_tSortR, a_tSl, a_rSlL0, a_tNoPart, a_tPart, a_tApp, a_tRet, a_tRetN, a_tNext, a_tDrop, a_tAsg, a_gSub, a_gName, a_gNil, a_gCons, a_gTup0, a_rSetL, a_tIfS, a_tAnd, a_tOr, a_tNot, a_tTest, a_tB, a_tTrue, a_tIf, a_tAndV, a_tOrV, a_tNotV, a_tOp, a_tUn, a_rU, a_tVar, a_tC, a_rI0, a_rI, a_rEq, a_rNe, a_rIx0, a_rIn0, a_tCB, a_tCal, a_tCons, a_tNil, a_tTupA, a_tLst, a_tPar, a_tBits, a_tLC, a_iRng1, a_iRng2, a_iT0, a_iL0, a_tEmit, frS, scal, V.ty.injEq, tyN, subN, String.reduceEq, String.reduceBEq, Bool.true_or, Bool.false_or, Bool.or_false, Bool.true_and, Bool.false_and, Bool.and_false, or_true, true_or, beq_self_eq_true, decide_true, decide_false, List.map_cons, List.map_nil, List.length_cons, List.length_nil, List.getElem?_cons_zero, List.getElem?_cons_succ, List.getElem?_nil, List.set_cons_zero, List.set_cons_succ, Option.some.injEq, Option.bind_some, Option.bind_none, id, exists_eq_left', exists_eq_left, exists_and_left, exists_eq_right, V.int.injEq, V.bl.injEq, V.ref.injEq, List.cons.injEq, and_true, true_and, and_assoc, exists_const, atI0, atI1, atI2, ixN30, ixN31, ixN32, upd_same, upd_upd, sq_updL, sq_updT, Nat.zero_add, Nat.reduceAdd, reduceCtorEq, false_and, and_false, exists_false, false_or, or_false, List.length_map, HO.lst.injEq, HO.tup.injEq, Bool.false_eq_true, if_false, if_true, decide_eq_true_eq, ite_true, ite_false, reduceIte, Int.reduceLT, Int.reduceLE, Nat.reduceLT, Int.zero_add, Bool.not_true, Bool.not_false, hs4, hat4])
              refine ⟨p, most, rfl, bx4, mo0, by omega, fun wt H5 wt0 wt1 bx5 bt5 => ?_⟩
              (walk_at "rd")
              refine ⟨by decide, fun y H6 ny s6 e6 => ?_⟩
              have k56 : ∀ b o, b ≠ p → H3 b = some o → H6 b = some o := fun b o n e => s6 _ _ (by rw [bt5 b n, bt4 b n, upd_ne (ne_of_none e nd)]; exact e)
              have e6c := k56 _ _ npc.symm e3
              have hs6 := sq_lst e6c
              have bx6 := bx5.same s6
              (try simp only [a_iDk, a_rGetI, a_rSetI, a_tDGetI, V.str.injEq, HO.dK.injEq, a_tAug, a_tDisp, a_prs0, a_prs, a_rGetK, a_rSetK, a_tAugS, a_ipI, a_tPop0, a_tCalK, g3r_is, g2r_is, g2_is, g1_is, a_tSeqL, a_tChain, a_tDict, a_tLstA, a_rMulT, a_rEqT, a_tIns, a_tRev, a_rSlA, a_rCatA, a_rCatL, a_tSeq, a_tFor, a_rIxL, a_iZip, a_tSortR, a_tSl, a_rSlL0, a_tNoPart, a_tPart, a_tApp, a_tRet, a_tRetN, a_tNext, a_tDrop, a_tAsg, a_gSub, a_gName, a_gNil, a_gCons, a_gTup0, a_rSetL, a_tIfS, a_tAnd, a_tOr, a_tNot, a_tTest, a_tB, a_tTrue, a_tIf, a_tAndV, a_tOrV, a_tNotV, a_tOp, a_tUn, a_rU, a_tVar, a_tC, a_rI0, a_rI, a_rEq, a_rNe, a_rIx0, a_rIn0, a_tCB, a_tCal, a_tCons, a_tNil, a_tTupA, a_tLst, a_tPar, a_tBits, a_tLC, a_iRng1, a_iRng2, a_iT0, a_iL0, a_tEmit, frS, scal, V.ty.injEq, tyN, subN, String.reduceEq, String.reduceBEq, Bool.true_or, Bool.false_or, Bool.or_false, Bool.true_and, Bool.false_and, Bool.and_false, or_true, true_or, beq_self_eq_true, decide_true, decide_false, List.map_cons, List.map_nil, List.length_cons, List.length_nil, List.getElem?_cons_zero, List.getElem?_cons_succ, List.getElem?_nil, List.set_cons_zero, List.set_cons_succ, Option.some.injEq, Option.bind_some, Option.bind_none, id, exists_eq_left', exists_eq_left, exists_and_left, exists_eq_right, V.int.injEq, V.bl.injEq, V.ref.injEq, List.cons.injEq, and_true, true_and, and_assoc, exists_const, atI0, atI1, atI2, ixN30, ixN31, ixN32, upd_same, upd_upd, sq_updL, sq_updT, Nat.zero_add, Nat.reduceAdd, reduceCtorEq, false_and, and_false, exists_false, false_or, or_false, List.length_map, HO.lst.injEq, HO.tup.injEq, Bool.false_eq_true, if_false, if_true, decide_eq_true_eq, ite_true, ite_false, reduceIte, Int.reduceLT, Int.reduceLE, Nat.reduceLT, Int.zero_add, Bool.not_true, Bool.not_false, e6c, hs6])
              rw [refsP_len]
              refine ⟨p, (rs2.length : Int) + 1, rfl, bx6, by omega, by omega, fun r7 H7 r70 r71 bx7 bt7 => ?_⟩
              obtain ⟨rn, rfl⟩ := Int.eq_ofNat_of_zero_le r70
              have e7c : H7 c = some (.lst (refsP rs2)) := by rw [bt7 c npc.symm]; exact e6c
              have e7y : H7 y = some (.tup [.int (i : Int), .int (j : Int), .int wt]) := by rw [bt7 y (box_ne_tup bx6 e6)]; exact e6
              have nyc : y ≠ c := fun z => by rw [z, e7c] at e7y; cases e7y
              (try simp only [a_iDk, a_rGetI, a_rSetI, a_tDGetI, V.str.injEq, HO.dK.injEq, a_tAug, a_tDisp, a_prs0, a_prs, a_rGetK, a_rSetK, a_tAugS, a_ipI, a_tPop0, a_tCalK, g3r_is, g2r_is, g2_is, g1_is, a_tSeqL, a_tChain, a_tDict, a_tLstA, a_rMulT, a_rEqT, a_tIns, a_tRev, a_rSlA, a_rCatA, a_rCatL, a_tSeq, a_tFor, a_rIxL, a_iZip, a_tSortR, a_tSl, a_rSlL0, a_tNoPart, a_tPart, a_tApp, a_tRet, a_tRetN, a_tNext, a_tDrop, a_tAsg, a_gSub, a_gName, a_gNil, a_gCons, a_gTup0, a_rSetL, a_tIfS, a_tAnd, a_tOr, a_tNot, a_tTest, a_tB, a_tTrue, a_tIf, a_tAndV, a_tOrV, a_tNotV, a_tOp, a_tUn, a_rU, a_tVar, a_tC, a_rI0, a_rI, a_rEq, a_rNe, a_rIx0, a_rIn0, a_tCB, a_tCal, a_tCons, a_tNil, a_tTupA, a_tLst, a_tPar, a_tBits, a_tLC, a_iRng1, a_iRng2, a_iT0, a_iL0, a_tEmit, frS, scal, V.ty.injEq, tyN, subN, String.reduceEq, String.reduceBEq, Bool.true_or, Bool.false_or, Bool.or_false, Bool.true_and, Bool.false_and, Bool.and_false, or_true, true_or, beq_self_eq_true, decide_true, decide_false, List.map_cons, List.map_nil, List.length_cons, List.length_nil, List.getElem?_cons_zero, List.getElem?_cons_succ, List.getElem?_nil, List.set_cons_zero, List.set_cons_succ, Option.some.injEq, Option.bind_some, Option.bind_none, id, exists_eq_left', exists_eq_left, exists_and_left, exists_eq_right, V.int.injEq, V.bl.injEq, V.ref.injEq, List.cons.injEq, and_true, true_and, and_assoc, exists_const, atI0, atI1, atI2, ixN30, ixN31, ixN32, upd_same, upd_upd, sq_updL, sq_updT, Nat.zero_add, Nat.reduceAdd, reduceCtorEq, false_and, and_false, exists_false, false_or, or_false, List.length_map, HO.lst.injEq, HO.tup.injEq, Bool.false_eq_true, if_false, if_true, decide_eq_true_eq, ite_true, ite_false, reduceIte, Int.reduceLT, Int.reduceLE, Nat.reduceLT, Int.zero_add, Bool.not_true, Bool.not_false, e7c])
              refine ⟨_, _, rn, rfl, rfl, rfl, by rw [refsP_len]; omega, small1000 (by rw [refsP_len]; omega), ?_⟩
              rw [ins_rows rs2 rn (y, i, j, wt)]
              have k7 : ∀ b o, b ≠ p → b ≠ c → H2 b = some o → upd H7 c (.lst (refsP (rs2.take rn ++ (y, i, j, wt) :: rs2.drop rn))) b = some o := fun b o n1 n2 e => by
                rw [upd_ne n2, bt7 b n1]
                exact k56 b o n1 (k3 b o n1 n2 e)
              refine ⟨_, _, _, rfl, ?_, RI2.ins rn ⟨⟨nij, hi, hj, wt0⟩, z1, z2, by simp only; omega⟩ fun r hr' => by have := lt2 r hr'; simp only; omega, fun r hr' => ?_, fun r hr' => ?_, bx7.upd npc, fun b o n1 n2 e => k7 b o n1 n2 (k2 b o n1 n2 e), upd_same⟩
              · simp only [List.length_append, List.length_cons, List.length_take, List.length_drop]
                omega
              · rcases mem_ins hr' with rfl | z
                · exact .inr ⟨rfl, by simp only; omega⟩
                · have := lt2 r z
                  omega
              · rcases mem_ins hr' with rfl | z
                · rw [upd_ne nyc]
                  exact e7y
                · exact (R2'.keep bx2 e2 k7) r z
            · (walk_at "rd")
              exact stay H3 k3 bx3 e3
          · rw [if_neg (by simpa using z2)]
            (walk_at "rd")
            exact stay H2 (fun _ _ _ _ e => e) bx2 e2
        · rw [if_neg (by simpa using z1)]
          (walk_at "rd")
          exact stay H2 (fun _ _ _ _ e => e) bx2 e2
      · rintro σ H2 ⟨w4, w5', rs2, rfl, rl2, RI2, lt2, R2', bx2, k2, e2⟩
        rw [Int.toNat_natCast] at rl2
        exact ⟨_, _, _, rs2, rfl, by omega, RI2, fun r hr => by have := lt2 r hr; omega, R2', bx2, k2, e2⟩
    · rintro σ H1 ⟨v3, v4, v5, rs, rfl, rl, RI, lt1, R, bx1, k1, e1⟩
      rw [Int.toNat_natCast] at rl
      (walk_at "rd")
      refine ⟨_, e1, fun l H2 nl s2 e2 => ?_⟩
      exact q l rs H2 (by omega) RI (R.same s2) (bx1.same s2) (fun b o n e => s2 _ _ (k1 b o n (ne_of_none e nc) e)) e2
end
end K10
end
section
set_option Elab.async false
set_option linter.all false
set_option maxRecDepth 100000
set_option maxHeartbeats 8000000
namespace K10
open PySem L2
section
variable {P : Program} {w : World} {K : PySem.W.Frag} {mg : Str → Option Value} {base : Heap} {f : Addr} {fd : FuncData}
def dj (p q : Nat) : Bool := decide (Builtin.bitAnd (p : Int) (q : Int) = 0)
theorem and_part {p h : Nat} (hp : p < 32) (hh : h < 32) : decide (Builtin.bitAnd (p : Int) (h : Int) = (p : Int)) = inB p h := by
  have key : ∀ (x y : _root_.Fin 32), decide (Builtin.bitAnd (x.val : Int) (y.val : Int) = (x.val : Int)) = inB x.val y.val := by decide +kernel
  exact key ⟨p, hp⟩ ⟨h, hh⟩
theorem dj_lt {m p q : Nat} (hm : m ≤ 5) (hp : p < 2 ^ m) (hq : q < 2 ^ m) (d : dj p q = true) : p + q < 2 ^ m := by
  have key : ∀ (n : _root_.Fin 6) (x y : _root_.Fin 32), x.val < 2 ^ n.val → y.val < 2 ^ n.val → dj x.val y.val = true → x.val + y.val < 2 ^ n.val := by decide +kernel
  have h := pow32 hm
  exact key ⟨m, by omega⟩ ⟨p, by omega⟩ ⟨q, by omega⟩ hp hq d
theorem dj_bits {p q t : Nat} (hp : p < 32) (hq : q < 32) (ht : t < 5) (d : dj p q = true) : bitOn (p + q) t = (bitOn p t || bitOn q t) ∧ (bitOn p t = true → bitOn q t = false) := by
  have key : ∀ (x y : _root_.Fin 32) (t : _root_.Fin 5), dj x.val y.val = true → bitOn (x.val + y.val) t.val = (bitOn x.val t.val || bitOn y.val t.val) ∧ (bitOn x.val t.val = true → bitOn y.val t.val = false) := by decide +kernel
  exact key ⟨p, hp⟩ ⟨q, hq⟩ ⟨t, ht⟩ d
theorem dj_of {p q : Nat} (hp : p < 32) (hq : q < 32) (b : ∀ t, t < 5 → bitOn p t = true → bitOn q t = false) : dj p q = true := by
  have key : ∀ (x y : _root_.Fin 32), (∀ t : _root_.Fin 5, bitOn x.val t.val = true → bitOn y.val t.val = false) → dj x.val y.val = true := by decide +kernel
  exact key ⟨p, hp⟩ ⟨q, hq⟩ fun t => b t.val t.isLt
theorem split_in {p q h : Nat} (hp : p < 32) (hq : q < 32) (hs : p + q < 32) (hh : h < 32) (d : dj p q = true) (s : inB (p + q) h = true) : inB q h = true ∧ inB p (h - q) = true := by
  have le := sub_le hs hh s
  have s1 : inB q h = true := sub_of hq hh fun t ht b => sub_bits hh le ht s (by rw [(dj_bits hp hq ht d).1, b, Bool.or_true])
  refine ⟨s1, sub_of hp (by omega) fun t ht b => ?_⟩
  obtain ⟨b1, b2⟩ := dj_bits hp hq ht d
  rw [diff_bits hh (sub_le hq hh s1) ht s1, b2 b, sub_bits hh le ht s (by rw [b1, b, Bool.true_or])]
  rfl
theorem join_in {p q h : Nat} (hp : p < 32) (hq : q < 32) (hh : h < 32) (s1 : inB q h = true) (s2 : inB p (h - q) = true) : dj p q = true ∧ inB (p + q) h = true ∧ p + q ≤ h := by
  have l1 := sub_le hq hh s1
  have l2 := sub_le hp (by omega) s2
  have d : dj p q = true := dj_of hp hq fun t ht b => by
    have := sub_bits (show h - q < 32 by omega) l2 ht s2 b
    rw [diff_bits hh l1 ht s1] at this
    cases e : bitOn q t
    · rfl
    · rw [e] at this
      simp at this
  refine ⟨d, sub_of (by omega) hh fun t ht b => ?_, by omega⟩
  rw [(dj_bits hp hq ht d).1] at b
  cases e : bitOn q t
  · rw [e, Bool.or_false] at b
    have := sub_bits (show h - q < 32 by omega) l2 ht s2 b
    rw [diff_bits hh l1 ht s1] at this
    simp at this
    exact this.1
  · exact sub_bits hh l1 ht s1 e
theorem swap_at {ns : List Int} {p q h : Nat} {v w : Int} (hp : p < 32) (hq : q < 32) (hh : h < ns.length) (l32 : ns.length ≤ 32) : pairAt (pairT ns p v) q w h = pairAt (pairT ns q w) p v h := by
  have key : (inB q h = true ∧ inB p (h - q) = true) ↔ (inB p h = true ∧ inB q (h - p) = true) := by
    constructor
    · rintro ⟨a, b⟩
      obtain ⟨d, s, l⟩ := join_in hp hq (by omega) a b
      have d' : dj q p = true := dj_of hq hp fun t ht b => by
        cases e : bitOn p t
        · rfl
        · rw [(dj_bits hp hq ht d).2 e] at b
          cases b
      rw [Nat.add_comm] at s
      exact split_in hq hp (by omega) (by omega) d' s
    · rintro ⟨a, b⟩
      obtain ⟨d, s, l⟩ := join_in hq hp (by omega) a b
      have d' : dj p q = true := dj_of hp hq fun t ht b => by
        cases e : bitOn q t
        · rfl
        · rw [(dj_bits hq hp ht d).2 e] at b
          cases b
      rw [Nat.add_comm] at s
      exact split_in hp hq (by omega) (by omega) d' s
  have sc : h - q - p = h - p - q := by omega
  have e1 : (pairT ns p v).getD h 0 = pairAt ns p v h := pairT_at hh
  have e2 : (pairT ns q w).getD h 0 = pairAt ns q w h := pairT_at hh
  have e3 : (pairT ns p v).getD (h - q) 0 = pairAt ns p v (h - q) := pairT_at (by omega)
  have e4 : (pairT ns q w).getD (h - p) 0 = pairAt ns q w (h - p) := pairT_at (by omega)
  unfold pairAt
  rw [e1, e2, e3, e4]
  unfold pairAt
  rw [sc]
  generalize ns.getD h 0 = a0
  generalize ns.getD (h - p) 0 = a1
  generalize ns.getD (h - q) 0 = a2
  generalize ns.getD (h - p - q) 0 = a3
  by_cases b1 : inB p h = true <;> by_cases b2 : inB q h = true
  · by_cases b3 : inB p (h - q) = true
    · have b4 := (key.mp ⟨b2, b3⟩).2
      rw [if_pos b1, if_pos b2, if_pos b3, if_pos b4]
      repeat (first | omega | split)
    · have b4 : ¬ inB q (h - p) = true := fun z => b3 (key.mpr ⟨b1, z⟩).2
      rw [if_pos b1, if_pos b2, if_neg b3, if_neg b4]
      repeat (first | omega | split)
  · have b4 : ¬ inB q (h - p) = true := fun z => b2 (key.mpr ⟨b1, z⟩).1
    simp only [if_pos b1, if_neg b2, if_neg b4]
  · have b3 : ¬ inB p (h - q) = true := fun z => b1 (key.mp ⟨b2, z⟩).1
    simp only [if_neg b1, if_pos b2, if_neg b3]
  · simp only [if_neg b1, if_neg b2]
theorem swap_steps {ns : List Int} {r t : PRow} (l32 : ns.length ≤ 32) (hr : pr r < 32) (ht : pr t < 32) : pstep (pstep ns r) t = pstep (pstep ns t) r := by
  refine getD_ext (by rw [pstep_len, pstep_len, pstep_len, pstep_len]) fun h hh => ?_
  rw [pstep_len, pstep_len] at hh
  rw [pstep_at (by rw [pstep_len]; exact hh), pstep_at (by rw [pstep_len]; exact hh)]
  exact swap_at hr ht hh l32
theorem last_first {m : Nat} (m5 : m ≤ 5) (t : PRow) (ht : pr t < 32) : ∀ (ps : List PRow) (a : List Int), a.length = 2 ^ m → (∀ r ∈ ps, pr r < 32) → pstep (ps.foldl pstep a) t = ps.foldl pstep (pstep a t)
  | [], _, _, _ => rfl
  | r :: ps, a, la, ok => by
    have hp := pow32 m5
    rw [List.foldl_cons, List.foldl_cons, last_first m5 t ht ps _ (by rw [pstep_len, la]) fun x hx => ok x (by simp [hx]), swap_steps (by omega) (ok r (by simp)) ht]
theorem fold_rev {m : Nat} (m5 : m ≤ 5) : ∀ (ps : List PRow) (a : List Int), a.length = 2 ^ m → (∀ r ∈ ps, pr r < 32) → ps.reverse.foldl pstep a = ps.foldl pstep a
  | [], _, _, _ => rfl
  | r :: ps, a, la, ok => by
    have ok' : ∀ x ∈ ps, pr x < 32 := fun x hx => ok x (by simp [hx])
    rw [List.reverse_cons, List.foldl_append, fold_rev m5 ps a la ok']
    exact last_first m5 r (ok r (by simp)) ps a la ok'
theorem pfold_rev {m : Nat} (m5 : m ≤ 5) {ps : List PRow} (ok : ∀ r ∈ ps, ROk m r) : pfold m ps.reverse = pfold m ps := fold_rev m5 ps _ (by simp) fun r hr => by
  have o := ok r hr
  exact (pair_one m5 o.i o.j o.ne).2
abbrev Tab := Nat → Option Int
structure Bst (d : Tab) (ns : List Int) (m : Nat) : Prop where
  lt : ∀ p v, d p = some v → p < 2 ^ m ∧ 0 ≤ v
  up : ∀ p v h, d p = some v → h < 2 ^ m → inB p h = true → v ≤ ns.getD h 0
  got : ∀ h, h < 2 ^ m → ∃ p, inB p h = true ∧ d p = some (ns.getD h 0)
structure Way (d0 d : Tab) (q : Nat) (w : Int) (ks : List Nat) : Prop where
  fr : ∀ p v, d0 p = some v → dj p q = true → d p = some v
  src : ∀ x v, d x = some v → d0 x = some v ∨ ∃ p u, d0 p = some u ∧ dj p q = true ∧ x = p + q ∧ v = u + w
  old : ∀ x v, d0 x = some v → ∃ v', d x = some v' ∧ v ≤ v'
  did : ∀ p u, p ∈ ks → d0 p = some u → dj p q = true → ∃ v, d (p + q) = some v ∧ u + w ≤ v
theorem way_zero (d0 : Tab) (q : Nat) (w : Int) : Way d0 d0 q w [] := ⟨fun _ _ h _ => h, fun _ _ h => .inl h, fun _ v h => ⟨v, h, Int.le_refl _⟩, fun _ _ h => by simp at h⟩
def putT (d : Tab) (x : Nat) (v : Int) : Tab := fun y => if y = x then some v else d y
theorem dj_pair {p q : Nat} (hp : p < 32) (hq : q < 32) (q1 : 1 ≤ q) (d : dj p q = true) : dj (p + q) q = false := by
  have key : ∀ (x y : _root_.Fin 32), 1 ≤ y.val → dj x.val y.val = true → dj (x.val + y.val) y.val = false := by decide +kernel
  exact key ⟨p, hp⟩ ⟨q, hq⟩ q1 d
theorem Way.put {d0 d : Tab} {q p : Nat} {w u : Int} {ks : List Nat} (W : Way d0 d q w ks) (hp : p < 32) (hq : q < 32) (q1 : 1 ≤ q) (w0 : 0 ≤ w) (u0 : 0 ≤ u) (e : d0 p = some u) (dd : dj p q = true) :
    Way d0 (putT d (p + q) (if (d (p + q)).getD 0 < u + w then u + w else (d (p + q)).getD 0)) q w (ks ++ [p]) := by
  have nd := dj_pair hp hq q1 dd
  refine ⟨fun x v h1 h2 => ?_, fun x v h => ?_, fun x v h => ?_, fun x v hx h1 h2 => ?_⟩
  · unfold putT
    rw [if_neg (fun z => by rw [z, nd] at h2; cases h2)]
    exact W.fr x v h1 h2
  · unfold putT at h
    by_cases z : x = p + q
    · rw [if_pos z] at h
      injection h with h
      by_cases y : (d (p + q)).getD 0 < u + w
      · rw [if_pos y] at h
        exact .inr ⟨p, u, e, dd, z, h.symm⟩
      · rw [if_neg y] at h
        cases k : d (p + q) with
        | none =>
          rw [k] at h y
          simp at h y
          exact .inr ⟨p, u, e, dd, z, by omega⟩
        | some v0 =>
          rw [k] at h
          simp at h
          rw [z, ← h]
          exact W.src _ _ k
    · rw [if_neg z] at h
      exact W.src x v h
  · obtain ⟨v', h1, h2⟩ := W.old x v h
    unfold putT
    by_cases z : x = p + q
    · rw [if_pos z]
      rw [z] at h1
      rw [h1]
      refine ⟨_, rfl, ?_⟩
      simp only [Option.getD_some]
      split <;> omega
    · rw [if_neg z]
      exact ⟨v', h1, h2⟩
  · unfold putT
    rcases List.mem_append.mp hx with y | y
    · obtain ⟨v', g1, g2⟩ := W.did x v y h1 h2
      by_cases z : x + q = p + q
      · rw [if_pos z]
        rw [z] at g1
        rw [g1]
        refine ⟨_, rfl, ?_⟩
        simp only [Option.getD_some]
        split <;> omega
      · rw [if_neg z]
        exact ⟨v', g1, g2⟩
    · have : x = p := by simpa using y
      subst this
      rw [e] at h1
      cases h1
      rw [if_pos rfl]
      refine ⟨_, rfl, ?_⟩
      split <;> omega
theorem Way.skip {d0 d : Tab} {q p : Nat} {w : Int} {ks : List Nat} (W : Way d0 d q w ks) (dd : dj p q = false) : Way d0 d q w (ks ++ [p]) := ⟨W.fr, W.src, W.old, fun x v hx h1 h2 => by
  rcases List.mem_append.mp hx with y | y
  · exact W.did x v y h1 h2
  · have : x = p := by simpa using y
    rw [this, dd] at h2
    cases h2⟩
theorem Bst.step {d0 d : Tab} {ns : List Int} {m q : Nat} {w : Int} {ks : List Nat} (B : Bst d0 ns m) (m5 : m ≤ 5) (ln : ns.length = 2 ^ m) (hq : q < 2 ^ m) (w0 : 0 ≤ w) (W : Way d0 d q w ks) (all : ∀ p v, d0 p = some v → p ∈ ks) : Bst d (pairT ns q w) m := by
  have hp := pow32 m5
  have ge : ∀ h, ns.getD h 0 ≤ pairAt ns q w h := fun h => by
    unfold pairAt
    repeat (first | omega | split)
  have lt : ∀ p v, d p = some v → p < 2 ^ m ∧ 0 ≤ v := fun p v h => by
    rcases W.src p v h with y | ⟨x, u, h1, h2, h3, h4⟩
    · exact B.lt p v y
    · have := B.lt x u h1
      have := dj_lt m5 this.1 hq h2
      omega
  have up : ∀ p v h, d p = some v → h < 2 ^ m → inB p h = true → v ≤ pairAt ns q w h := fun p v h hd hh s => by
    rcases W.src p v hd with y | ⟨x, u, h1, h2, h3, h4⟩
    · exact Int.le_trans (B.up p v h y hh s) (ge h)
    · subst h3
      have b := B.lt x u h1
      have l := dj_lt m5 b.1 hq h2
      obtain ⟨s1, s2⟩ := split_in (by omega) (by omega) (by omega) (by omega) h2 s
      have := B.up x u (h - q) h1 (by omega) s2
      unfold pairAt
      rw [if_pos s1]
      repeat (first | omega | split)
  refine ⟨lt, fun p v h hd hh s => by rw [pairT_at (by omega)]; exact up p v h hd hh s, fun h hh => ?_⟩
  rw [pairT_at (by omega)]
  have fin : ∀ p v, inB p h = true → d p = some v → pairAt ns q w h ≤ v → ∃ p, inB p h = true ∧ d p = some (pairAt ns q w h) := fun p v s hd le => ⟨p, s, by rw [hd, Int.le_antisymm (up p v h hd hh s) le]⟩
  have c : pairAt ns q w h = ns.getD h 0 ∨ (inB q h = true ∧ pairAt ns q w h = ns.getD (h - q) 0 + w) := by
    unfold pairAt
    by_cases z : inB q h = true
    · rw [if_pos z]
      split
      · exact .inr ⟨z, rfl⟩
      · exact .inl rfl
    · rw [if_neg z]
      exact .inl rfl
  rcases c with c | ⟨z, c⟩
  · obtain ⟨p, s, e⟩ := B.got h hh
    obtain ⟨v', e1, l1⟩ := W.old p _ e
    exact fin p v' s e1 (by omega)
  · obtain ⟨p, s, e⟩ := B.got (h - q) (by omega)
    have b := B.lt p _ e
    obtain ⟨j1, j2, j3⟩ := join_in (by omega) (by omega) (by omega) z s
    obtain ⟨v', e1, l1⟩ := W.did p _ (all p _ e) e j1
    exact fin (p + q) v' j2 e1 (by omega)
theorem bst_zero {m : Nat} (m5 : m ≤ 5) : Bst (fun p => if p = 0 then some 0 else none) (List.replicate (2 ^ m) 0) m := by
  have hp := pow32 m5
  refine ⟨fun p v h => ?_, fun p v h hd hh s => ?_, fun h hh => ⟨0, (self_in (by omega)).2, by rw [zeros_at, if_pos rfl]⟩⟩
  · by_cases z : p = 0
    · rw [if_pos z] at h
      cases h
      exact ⟨by omega, Int.le_refl _⟩
    · rw [if_neg z] at h
      cases h
  · by_cases z : p = 0
    · rw [if_pos z] at hd
      cases hd
      rw [zeros_at]
      exact Int.le_refl _
    · rw [if_neg z] at hd
      cases hd
end
end K10
end
section
set_option Elab.async false
set_option linter.all false
set_option maxRecDepth 100000
set_option maxHeartbeats 8000000
namespace K10
open PySem L2
local macro_rules | `(tactic| walk_at "rd") => `(tactic| (try simp only [a_iDk, a_rGetI, a_rSetI, a_tDGetI, V.str.injEq, HO.dK.injEq, a_tAug, a_tDisp, a_prs0, a_prs, a_rGetK, a_rSetK, a_tAugS, a_ipI, a_tPop0, a_tCalK, g3r_is, g2r_is, g2_is, g1_is, a_tSeqL, a_tChain, a_tDict, a_tLstA, a_rMulT, a_rEqT, a_tIns, a_tRev, a_rSlA, a_rCatA, a_rCatL, a_tSeq, a_tFor, a_rIxL, a_iZip, a_tSortR, a_tSl, a_rSlL0, a_tNoPart, a_tPart, a_tApp, a_tRet, a_tRetN, a_tNext, a_tDrop, a_tAsg, a_gSub, a_gName, a_gNil, a_gCons, a_gTup0, a_rSetL, a_tIfS, a_tAnd, a_tOr, a_tNot, a_tTest, a_tB, a_tTrue, a_tIf, a_tAndV, a_tOrV, a_tNotV, a_tOp, a_tUn, a_rU, a_tVar, a_tC, a_rI0, a_rI, a_rEq, a_rNe, a_rIx0, a_rIn0, a_tCB, a_tCal, a_tCons, a_tNil, a_tTupA, a_tLst, a_tPar, a_tBits, a_tLC, a_iRng1, a_iRng2, a_iT0, a_iL0, a_tEmit, frS, scal, V.ty.injEq, tyN, subN, String.reduceEq, String.reduceBEq, Bool.true_or, Bool.false_or, Bool.or_false, Bool.true_and, Bool.false_and, Bool.and_false, or_true, true_or, beq_self_eq_true, decide_true, decide_false, List.map_cons, List.map_nil, List.length_cons, List.length_nil, List.getElem?_cons_zero, List.getElem?_cons_succ, List.getElem?_nil, List.set_cons_zero, List.set_cons_succ, Option.some.injEq, Option.bind_some, Option.bind_none, id, exists_eq_left', exists_eq_left, exists_and_left, exists_eq_right, V.int.injEq, V.bl.injEq, V.ref.injEq, List.cons.injEq, and_true, true_and, and_assoc, exists_const, atI0, atI1, atI2, ixN30, ixN31, ixN32, upd_same, upd_upd, sq_updL, sq_updT, Nat.zero_add, Nat.reduceAdd, reduceCtorEq, false_and, and_false, exists_false, false_or, or_false, List.length_map, HO.lst.injEq, HO.tup.injEq, Bool.false_eq_true, if_false, if_true, decide_eq_true_eq, ite_true, ite_false, reduceIte, Int.reduceLT, Int.reduceLE, Nat.reduceLT, Int.zero_add, Bool.not_true, Bool.not_false]))
section
variable {P : Program} {w : World} {K : PySem.W.Frag} {mg : Str → Option Value} {base : Heap} {f : Addr} {fd : FuncData}
structure TabIs (kvs : List (Key × V)) (d : Tab) : Prop where
  keys : ∀ kv ∈ kvs, ∃ p : Nat, kv.1 = Sum.inl (p : Int) ∧ p < 32
  val : ∀ p : Nat, valV kvs (Sum.inl (p : Int)) = (d p).map V.int
  nd : (kvs.map (·.1)).Nodup
def keyN (kvs : List (Key × V)) : List Nat := kvs.map fun kv => match kv.1 with | .inl i => i.toNat | .inr _ => 0
theorem TabIs.keysV {kvs : List (Key × V)} {d : Tab} (T : TabIs kvs d) : L2.keysV kvs = (keyN kvs).map fun p : Nat => V.int (p : Int) := by
  unfold L2.keysV keyN
  rw [List.map_map]
  refine List.map_congr_left fun kv hk => ?_
  obtain ⟨p, e, _⟩ := T.keys kv hk
  simp only [Function.comp, e]
  rfl
theorem TabIs.mem {kvs : List (Key × V)} {d : Tab} (T : TabIs kvs d) {p : Nat} (h : p ∈ keyN kvs) : p < 32 ∧ ∃ v, d p = some v := by
  unfold keyN at h
  obtain ⟨kv, hk, e⟩ := List.mem_map.mp h
  obtain ⟨x, ex, hx⟩ := T.keys kv hk
  rw [ex] at e
  have e' : x = p := by simpa using e
  subst e'
  refine ⟨hx, ?_⟩
  have a : (kvs.any fun kv => decide (kv.1 = Sum.inl (x : Int))) = true := List.any_eq_true.mpr ⟨kv, hk, by simp [ex]⟩
  rw [valV_any, T.val] at a
  cases k : d x with
  | none => rw [k] at a; simp at a
  | some v => exact ⟨v, rfl⟩
theorem TabIs.in {kvs : List (Key × V)} {d : Tab} (T : TabIs kvs d) {p : Nat} {v : Int} (h : d p = some v) : p ∈ keyN kvs := by
  have a : (kvs.any fun kv => decide (kv.1 = Sum.inl (p : Int))) = true := by rw [valV_any, T.val, h]; rfl
  obtain ⟨kv, hk, e⟩ := List.any_eq_true.mp a
  have e' : kv.1 = Sum.inl (p : Int) := by simpa using e
  unfold keyN
  exact List.mem_map.mpr ⟨kv, hk, by rw [e']; simp⟩
theorem nodup_len : ∀ (n : Nat) (l : List Nat), l.Nodup → (∀ x ∈ l, x < n) → l.length ≤ n
  | 0, l, _, h => by
    cases l with
    | nil => simp
    | cons x l => exact absurd (h x (by simp)) (by omega)
  | n + 1, l, nd, h => by
    by_cases z : n ∈ l
    · have := nodup_len n (l.erase n) (nd.erase n) fun x hx => by
        have h1 := h x (List.mem_of_mem_erase hx)
        have h2 : x ≠ n := ((List.Nodup.mem_erase_iff nd).mp hx).1
        omega
      rw [List.length_erase_of_mem z] at this
      omega
    · have := nodup_len n l nd fun x hx => by
        have h1 := h x hx
        have h2 : x ≠ n := fun e => z (e ▸ hx)
        omega
      omega
theorem TabIs.len {kvs : List (Key × V)} {d : Tab} (T : TabIs kvs d) : kvs.length ≤ 32 := by
  have e : kvs.map (·.1) = (keyN kvs).map fun p : Nat => (Sum.inl (p : Int) : Key) := by
    unfold keyN
    rw [List.map_map]
    refine List.map_congr_left fun kv hk => ?_
    obtain ⟨p, e, _⟩ := T.keys kv hk
    simp only [Function.comp, e]
    rfl
  have nd := T.nd
  rw [e] at nd
  have := nodup_len 32 (keyN kvs) (List.Pairwise.of_map _ (fun a b h e => h (by rw [e])) nd) fun x hx => (T.mem hx).1
  unfold keyN at this
  rwa [List.length_map] at this
theorem putK_keys (kvs : List (Key × V)) (k : Key) (v : V) : (putK kvs k v).map (·.1) = kvs.map (·.1) ∨ (k ∉ kvs.map (·.1) ∧ (putK kvs k v).map (·.1) = kvs.map (·.1) ++ [k]) := by
  unfold putK
  by_cases a : (kvs.any fun kv => decide (kv.1 = k)) = true
  · rw [if_pos a]
    left
    rw [List.map_map]
    refine List.map_congr_left fun kv _ => ?_
    simp only [Function.comp]
    split <;> rfl
  · rw [if_neg a]
    right
    refine ⟨fun h => a ?_, by simp⟩
    obtain ⟨kv, hk, e⟩ := List.mem_map.mp h
    exact List.any_eq_true.mpr ⟨kv, hk, by simp [e]⟩
theorem TabIs.put {kvs : List (Key × V)} {d : Tab} (T : TabIs kvs d) {q : Nat} (v : Int) (hq : q < 32) : TabIs (putK kvs (Sum.inl (q : Int)) (.int v)) (putT d q v) := by
  refine ⟨fun kv hk => ?_, fun p => ?_, ?_⟩
  · have m : kv.1 ∈ (putK kvs (Sum.inl (q : Int)) (.int v)).map (·.1) := List.mem_map.mpr ⟨kv, hk, rfl⟩
    rcases putK_keys kvs (Sum.inl (q : Int)) (.int v) with e | ⟨_, e⟩
    · rw [e] at m
      obtain ⟨kv', hk', e'⟩ := List.mem_map.mp m
      rw [← e']
      exact T.keys kv' hk'
    · rw [e] at m
      rcases List.mem_append.mp m with m | m
      · obtain ⟨kv', hk', e'⟩ := List.mem_map.mp m
        rw [← e']
        exact T.keys kv' hk'
      · exact ⟨q, by simpa using m, hq⟩
  · rw [valV_put]
    unfold putT
    by_cases z : p = q
    · rw [if_pos (by rw [z]), if_pos z]
      rfl
    · rw [if_neg (fun e => z (by injection e with e; omega)), if_neg z]
      exact T.val p
  · rcases putK_keys kvs (Sum.inl (q : Int)) (.int v) with e | ⟨n, e⟩
    · rw [e]
      exact T.nd
    · rw [e]
      refine List.nodup_append.mpr ⟨T.nd, by simp, fun a ha b hb e => n ?_⟩
      have hb2 : b = Sum.inl (q : Int) := List.mem_singleton.mp hb
      rw [← hb2, ← e]
      exact ha
theorem tab_zero : TabIs [(Sum.inl 0, V.int 0)] (fun p => if p = 0 then some 0 else none) := by
  refine ⟨fun kv hk => ⟨0, by have : kv = (Sum.inl 0, V.int 0) := by simpa using hk
                              rw [this]; rfl, by decide⟩, fun p => ?_, by simp⟩
  by_cases z : p = 0
  · rw [if_pos z, z]
    exact valV_pos rfl
  · rw [if_neg z]
    have : ¬ (Sum.inl 0 : Key) = Sum.inl (p : Int) := fun e => z (by injection e with e; omega)
    rw [valV_neg this]
    rfl
def sp_sums : Sp := fun vs H Q _ => ∃ (b : Addr) (m : Nat) (rs : List (Addr × PRow)), vs = [.ref b] ∧ H b = some (.tup (refsP rs)) ∧ m ≤ 5 ∧ HR H rs ∧ (∀ r ∈ rs, ROk m r.2) ∧ ∀ (l : Addr) (kvs : List (Key × V)) (d : Tab) (H' : Hp), H l = none → Same H H' → H' l = some (.dK kvs) → TabIs kvs d → Bst d (pfold m (rowsP rs)) m → Q (.ref l) H'
def LS1 (b l : Addr) (m : Nat) (rs : List (Addr × PRow)) (G : Hp) (i : Nat) (σ : St) (H : Hp) : Prop := ∃ (v2 v3 v4 v5 v6 : Option V) (kvs : List (Key × V)) (d : Tab), σ = [some (.ref b), some (.ref l), v2, v3, v4, v5, v6] ∧ Same G H ∧ H l = some (.dK kvs) ∧ TabIs kvs d ∧ Bst d (pfold m (rowsP (rs.take i))) m
def LS2 (b l : Addr) (x y q m : Nat) (wt : Int) (d0 : Tab) (ks : List Nat) (G : Hp) (i : Nat) (σ : St) (H : Hp) : Prop := ∃ (v6 : Option V) (kvs : List (Key × V)) (d : Tab), σ = [some (.ref b), some (.ref l), some (.int (x : Int)), some (.int (y : Int)), some (.int wt), some (.int (q : Int)), v6] ∧ SameX l G H ∧ H l = some (.dK kvs) ∧ TabIs kvs d ∧ Way d0 d q wt (ks.take i)
theorem sc__law_sums : FnScope ["_law_rows_here", "_law_best", "_law_one", "_law_other", "_law_worth", "_law_pair", "_law_heap"] ["_law_rows_here"] (defScope s__law_sums) := ⟨rfl, rfl, rfl, by decide +kernel, rfl, by decide +kernel, by decide +kernel⟩
theorem ok_sums (F : Fun K "_law_sums" "_law_sums" s__law_sums f fd) (hm : mg "_law_sums" = some (.ref f)) (hb : Binds K fd ["_law_rows_here"] []) (T : Txt mg) : Cal P w K mg base "_law_sums" ["_law_rows_here"] 1 sp_sums := by
  refine cal_of F hm hb sc__law_sums (fun vs H Q E h => ?_) (fun cdv A outer s H vs Q E hr h => ?_)
  · obtain ⟨_, _, _, rfl, _⟩ := h; rfl
  · obtain ⟨b, m, rs, rfl, hb', m5, R, ok, q⟩ := h
    have sc := sc__law_sums
    have hp := pow32 m5
    refine ⟨_, pss_cons (ps_set (i := 1) sc.nd rfl (Or.inl rfl) (pe_disp (pps_cons pe_int pe_int pps_nil) rfl rfl (by decide) (by decide)))
      (pss_cons (ps_for PassesOwn.never rfl (pi_t0 (pv 0)) (pg_tup0 (n := 3) rfl (pgs_cons (pg_name (i := 2) sc.nd rfl (Or.inl rfl)) (pgs_cons (pg_name (i := 3) sc.nd rfl (Or.inl rfl)) (pgs_cons (pg_name (i := 4) sc.nd rfl (Or.inl rfl)) pgs_nil))))
        (pss_cons (ps_set (i := 5) sc.nd rfl (Or.inl rfl) (pe_op op_add (pe_op op_shl pe_int (pv 2)) (pe_op op_shl pe_int (pv 3))))
      (pss_one (ps_for PassesOwn.never rfl (pi_l0 (pe_callTy (listD0 rfl) rfl T.list_ bt_list (pa_cns (pv 1) pa_nil))) (pg_name (i := 6) sc.nd rfl (Or.inl rfl))
        (pss_one (ps_if (pt_cmpR op_eq (pe_op op_and (pv 6) (pv 5)) pe_int (nomark _)) (pss_one (ps_asg (pe_callB (call_max2 rfl) rfl T.max_ bt_max (pa_cns (pe_igetD (hu_of hr) (pv 1) (pe_op op_add (pv 6) (pv 5)) pe_int ⟨rfl, rfl, rfl, rfl⟩) (pa_cns (pe_op op_add (pe_iget (hu_of hr) (pv 1) (pv 6) (fun _ _ => rfl)) (pv 4)) pa_nil))) (pg_sub (pv 1) (pe_op op_add (pv 6) (pv 5)) (set_int (hu_of hr))))) pss_nil))))))
      (pss_one (ps_ret (pv 1)))), ?_⟩
    rw [show L2.start ["_law_rows_here", "_law_best", "_law_one", "_law_other", "_law_worth", "_law_pair", "_law_heap"] [.ref b] = [some (.ref b), none, none, none, none, none, none] from rfl]
    (walk_at "rd")
    refine fun l nl => ⟨[(Sum.inl 0, .int 0)], rfl, by decide, ?_⟩
    have em : mergeK [] [((Sum.inl 0 : Key), V.int 0)] = [((Sum.inl 0 : Key), V.int 0)] := rfl
    rw [em]
    have nbl : b ≠ l := ne_of_none hb' nl
    refine ⟨_, by rw [upd_ne nbl]; exact hb', ?_⟩
    refine fl_seq (LS1 b l m rs H) ⟨none, none, none, none, none, _, _, rfl, same_upd nl, upd_same, tab_zero, bst_zero m5⟩ (fun j σ H' _ ⟨_, _, _, _, _, _, _, _, s, _⟩ => s _ _ hb') ?_ ?_
    · rintro k x σ H1 hx ⟨v2, v3, v4, v5, v6, kvs, d, rfl, s1, e1, T1, B1⟩
      unfold refsP at hx
      rw [List.getElem?_map] at hx
      obtain ⟨r, hr', rfl⟩ := Option.map_eq_some_iff.mp hx
      have er := s1 _ _ (R r (List.mem_of_getElem? hr'))
      have ok' := ok r (List.mem_of_getElem? hr')
      obtain ⟨r0, i, j, wt⟩ := r
      obtain ⟨o1, o2, o3, o4⟩ := ok'
      simp only at o1 o2 o3 o4
      obtain ⟨p1, p32⟩ := pair_one m5 o2 o3 o1
      have plt := pair_lt m5 o2 o3 o1
      have epr : (1 : Int) * 2 ^ (i : Int).toNat + 1 * 2 ^ (j : Int).toNat = ((2 ^ i + 2 ^ j : Nat) : Int) := by
        rw [Int.natCast_add, Int.natCast_pow, Int.natCast_pow, Int.toNat_natCast, Int.toNat_natCast]
        simp
      (try simp only [a_iDk, a_rGetI, a_rSetI, a_tDGetI, V.str.injEq, HO.dK.injEq, a_tAug, a_tDisp, a_prs0, a_prs, a_rGetK, a_rSetK, a_tAugS, a_ipI, a_tPop0, a_tCalK, g3r_is, g2r_is, g2_is, g1_is, a_tSeqL, a_tChain, a_tDict, a_tLstA, a_rMulT, a_rEqT, a_tIns, a_tRev, a_rSlA, a_rCatA, a_rCatL, a_tSeq, a_tFor, a_rIxL, a_iZip, a_tSortR, a_tSl, a_rSlL0, a_tNoPart, a_tPart, a_tApp, a_tRet, a_tRetN, a_tNext, a_tDrop, a_tAsg, a_gSub, a_gName, a_gNil, a_gCons, a_gTup0, a_rSetL, a_tIfS, a_tAnd, a_tOr, a_tNot, a_tTest, a_tB, a_tTrue, a_tIf, a_tAndV, a_tOrV, a_tNotV, a_tOp, a_tUn, a_rU, a_tVar, a_tC, a_rI0, a_rI, a_rEq, a_rNe, a_rIx0, a_rIn0, a_tCB, a_tCal, a_tCons, a_tNil, a_tTupA, a_tLst, a_tPar, a_tBits, a_tLC, a_iRng1, a_iRng2, a_iT0, a_iL0, a_tEmit, frS, scal, V.ty.injEq, tyN, subN, String.reduceEq, String.reduceBEq, Bool.true_or, Bool.false_or, Bool.or_false, Bool.true_and, Bool.false_and, Bool.and_false, or_true, true_or, beq_self_eq_true, decide_true, decide_false, List.map_cons, List.map_nil, List.length_cons, List.length_nil, List.getElem?_cons_zero, List.getElem?_cons_succ, List.getElem?_nil, List.set_cons_zero, List.set_cons_succ, Option.some.injEq, Option.bind_some, Option.bind_none, id, exists_eq_left', exists_eq_left, exists_and_left, exists_eq_right, V.int.injEq, V.bl.injEq, V.ref.injEq, List.cons.injEq, and_true, true_and, and_assoc, exists_const, atI0, atI1, atI2, ixN30, ixN31, ixN32, upd_same, upd_upd, sq_updL, sq_updT, Nat.zero_add, Nat.reduceAdd, reduceCtorEq, false_and, and_false, exists_false, false_or, or_false, List.length_map, HO.lst.injEq, HO.tup.injEq, Bool.false_eq_true, if_false, if_true, decide_eq_true_eq, ite_true, ite_false, reduceIte, Int.reduceLT, Int.reduceLE, Nat.reduceLT, Int.zero_add, Bool.not_true, Bool.not_false, er, e1])
      rw [epr]
      have tl := T1.len
      refine ⟨⟨by omega, by omega, by decide⟩, ⟨by omega, by omega, by decide⟩, by omega, fun c H2 nc s2 ec => ⟨_, ec, ?_⟩⟩
      have e2 := s2 _ _ e1
      have nlc : l ≠ c := ne_of_none e1 nc
      rw [T1.keysV] at ec ⊢
      refine fl_seq (LS2 b l i j (2 ^ i + 2 ^ j) m wt d (keyN kvs) H2) ⟨v6, kvs, d, rfl, fun _ _ _ e => e, e2, T1, way_zero _ _ _⟩ (fun n σ H' _ ⟨_, _, _, _, s, _⟩ => s _ _ nlc.symm ec) ?_ ?_
      · rintro n x σ H3 hx ⟨w6, kvs3, d3, rfl, s3, e3, T3, W3⟩
        rw [List.getElem?_map] at hx
        obtain ⟨p, hp', rfl⟩ := Option.map_eq_some_iff.mp hx
        obtain ⟨pl, u, hu⟩ := T1.mem (List.mem_of_getElem? hp')
        obtain ⟨pm, u0⟩ := B1.lt p u hu
        have tl3 := T3.len
        have etk : (keyN kvs).take (n + 1) = (keyN kvs).take n ++ [p] := by rw [List.take_add_one, hp', Option.toList_some]
        (try simp only [a_iDk, a_rGetI, a_rSetI, a_tDGetI, V.str.injEq, HO.dK.injEq, a_tAug, a_tDisp, a_prs0, a_prs, a_rGetK, a_rSetK, a_tAugS, a_ipI, a_tPop0, a_tCalK, g3r_is, g2r_is, g2_is, g1_is, a_tSeqL, a_tChain, a_tDict, a_tLstA, a_rMulT, a_rEqT, a_tIns, a_tRev, a_rSlA, a_rCatA, a_rCatL, a_tSeq, a_tFor, a_rIxL, a_iZip, a_tSortR, a_tSl, a_rSlL0, a_tNoPart, a_tPart, a_tApp, a_tRet, a_tRetN, a_tNext, a_tDrop, a_tAsg, a_gSub, a_gName, a_gNil, a_gCons, a_gTup0, a_rSetL, a_tIfS, a_tAnd, a_tOr, a_tNot, a_tTest, a_tB, a_tTrue, a_tIf, a_tAndV, a_tOrV, a_tNotV, a_tOp, a_tUn, a_rU, a_tVar, a_tC, a_rI0, a_rI, a_rEq, a_rNe, a_rIx0, a_rIn0, a_tCB, a_tCal, a_tCons, a_tNil, a_tTupA, a_tLst, a_tPar, a_tBits, a_tLC, a_iRng1, a_iRng2, a_iT0, a_iL0, a_tEmit, frS, scal, V.ty.injEq, tyN, subN, String.reduceEq, String.reduceBEq, Bool.true_or, Bool.false_or, Bool.or_false, Bool.true_and, Bool.false_and, Bool.and_false, or_true, true_or, beq_self_eq_true, decide_true, decide_false, List.map_cons, List.map_nil, List.length_cons, List.length_nil, List.getElem?_cons_zero, List.getElem?_cons_succ, List.getElem?_nil, List.set_cons_zero, List.set_cons_succ, Option.some.injEq, Option.bind_some, Option.bind_none, id, exists_eq_left', exists_eq_left, exists_and_left, exists_eq_right, V.int.injEq, V.bl.injEq, V.ref.injEq, List.cons.injEq, and_true, true_and, and_assoc, exists_const, atI0, atI1, atI2, ixN30, ixN31, ixN32, upd_same, upd_upd, sq_updL, sq_updT, Nat.zero_add, Nat.reduceAdd, reduceCtorEq, false_and, and_false, exists_false, false_or, or_false, List.length_map, HO.lst.injEq, HO.tup.injEq, Bool.false_eq_true, if_false, if_true, decide_eq_true_eq, ite_true, ite_false, reduceIte, Int.reduceLT, Int.reduceLE, Nat.reduceLT, Int.zero_add, Bool.not_true, Bool.not_false, e3])
        cases hd : dj p (2 ^ i + 2 ^ j) with
        | false =>
          rw [if_neg (of_decide_eq_false hd)]
          (walk_at "rd")
          exact ⟨_, _, _, rfl, s3, e3, T3, by rw [etk]; exact W3.skip hd⟩
        | true =>
          rw [if_pos (of_decide_eq_true hd)]
          have lt := dj_lt m5 pm plt hd
          have eu := W3.fr p u hu hd
          have ev := T3.val p
          rw [eu] at ev
          have eg : ((valV kvs3 (Sum.inl ((p : Int) + ((2 ^ i + 2 ^ j : Nat) : Int)))).getD (V.int 0)) = V.int ((d3 (p + (2 ^ i + 2 ^ j))).getD 0) := by
            rw [← Int.natCast_add, T3.val]
            cases d3 (p + (2 ^ i + 2 ^ j)) <;> rfl
          (walk_at "rd")
          refine ⟨_, .inl e3, .inl e3, ?_⟩
          rw [eg]
          refine ⟨_, .inl e3, _, ev, _, rfl, _, rfl, small1000 (by omega), _, _, putT d3 (p + (2 ^ i + 2 ^ j)) _, rfl, s3.trans SameX.upd, upd_same, ?_, by rw [etk]; exact W3.put (by omega) (by omega) p1 o4 u0 hu hd⟩
          rw [← Int.natCast_add]
          exact T3.put _ (by omega)
      · rintro σ H3 ⟨w6, kvs3, d3, rfl, s3, e3, T3, W3⟩
        rw [List.length_map, List.take_length] at W3
        refine ⟨_, _, _, _, _, kvs3, d3, rfl, fun b o e => s3 _ _ (ne_of_none e nl) (s2 _ _ (s1 _ _ e)), e3, T3, ?_⟩
        have B3 := B1.step m5 (pfold_len _ _) plt o4 W3 fun p v h => T1.in h
        have er' : pfold m (rowsP (rs.take (k + 1))) = pairT (pfold m (rowsP (rs.take k))) (2 ^ i + 2 ^ j) wt := by
          unfold rowsP pfold
          rw [List.take_add_one, hr', Option.toList_some, List.map_append, List.foldl_append]
          rfl
        rw [er']
        exact B3
    · rintro σ H1 ⟨v2, v3, v4, v5, v6, kvs, d, rfl, s1, e1, T1, B1⟩
      rw [refsP_len, List.take_length] at B1
      (walk_at "rd")
      exact q l kvs d H1 nl s1 e1 T1 B1
def sp_due : Sp := fun vs H Q _ => ∃ (b : Addr) (m : Nat) (rs : List (Addr × PRow)), vs = [.ref b, .int (m : Int)] ∧ H b = some (.tup (refsP rs)) ∧ m ≤ 5 ∧ HR H rs ∧ (∀ r ∈ rs, ROk m r.2) ∧ ∀ (l : Addr) (H' : Hp), Same H H' → H' l = some (.tup ((pfold m (rowsP rs)).map V.int)) → Q (.ref l) H'
def LD1 (l c : Addr) (kvs : List (Key × V)) (ns : List Int) (G : Hp) (i : Nat) (σ : St) (H : Hp) : Prop := ∃ v : Option V, σ = [v, some (.ref l)] ∧ Rd H l (.dK kvs) ∧ (∀ b o, b ≠ l → b ≠ c → G b = some o → H b = some o) ∧ H c = some (.lst (((List.range i).map fun h => ns.getD h 0).map V.int))
def pvals (d : Tab) (h : Nat) (ks : List Nat) : List Int := (ks.filter fun p => inB p h).map fun p => (d p).getD 0
theorem pvals_snoc (d : Tab) (h : Nat) (ks : List Nat) (p : Nat) : pvals d h (ks ++ [p]) = pvals d h ks ++ if inB p h = true then [(d p).getD 0] else [] := by
  unfold pvals
  rw [List.filter_append, List.map_append]
  congr 1
  cases e : inB p h <;> simp [List.filter, e]
theorem pvals_len (d : Tab) (h : Nat) (ks : List Nat) : (pvals d h ks).length ≤ ks.length := by
  unfold pvals
  rw [List.length_map]
  exact List.length_filter_le _ _
def LD2 (l c : Addr) (d : Tab) (h : Nat) (ks : List Nat) (G : Hp) (i : Nat) (σ : St) (H : Hp) : Prop := ∃ v : Option V, σ = [v, some (.ref l), some (.int (h : Int))] ∧ SameX c G H ∧ H c = some (.lst ((pvals d h (ks.take i)).map V.int))
theorem keyN_len (kvs : List (Key × V)) : (keyN kvs).length = kvs.length := by unfold keyN; rw [List.length_map]
theorem sc__law_due : FnScope ["_law_rows_here", "_law_many_here", "_law_best"] ["_law_rows_here", "_law_many_here"] (defScope s__law_due) := ⟨rfl, rfl, rfl, by decide +kernel, rfl, by decide +kernel, by decide +kernel⟩
theorem ok_due (F : Fun K "_law_due" "_law_due" s__law_due f fd) (hm : mg "_law_due" = some (.ref f)) (hb : Binds K fd ["_law_rows_here", "_law_many_here"] []) (T : Txt mg) (c__law_sums : Cal P w K mg base "_law_sums" ["_law_rows_here"] 1 sp_sums) : Cal P w K mg base "_law_due" ["_law_rows_here", "_law_many_here"] 2 sp_due := by
  refine cal_of F hm hb sc__law_due (fun vs H Q E h => ?_) (fun cdv A outer s H vs Q E hr h => ?_)
  · obtain ⟨_, _, _, rfl, _⟩ := h; rfl
  · obtain ⟨b, m, rs, rfl, hb', m5, R, ok, q⟩ := h
    have sc := sc__law_due
    have hp := pow32 m5
    refine ⟨_, pss_cons (ps_set (i := 2) sc.nd rfl (Or.inr rfl) (pe_cal c__law_sums hr (pa_cns (pv 0) pa_nil)))
      (pss_one (ps_ret (pe_callTy tupA0 rfl T.tuple_ bt_tuple (pa_cns (pe_lcK (N := ["_law_heap", "_law_best"]) (fr := [none, some 2]) "_law_heap" rfl (pi_range1 rfl T.range_ (pa_cns (pe_op op_shl pe_int (pv 1)) pa_nil)) (CScope1.of rfl rfl rfl rfl (fun _ _ => rfl) (fun _ => rfl)) rfl (fun _ _ _ => ⟨pg_name (i := 0) (show List.Nodup (α := Str) ["_law_heap", "_law_best"] by decide +kernel) rfl (Or.inr rfl), pif_nil, pe_callB (max0 rfl) rfl T.max_ bt_max (pa_cns (pe_lc (N := ["_law_part", "_law_best", "_law_heap"]) (fr := [none, some 1, some 0]) rfl (pi_dk (pv 1)) (CScope.of rfl rfl rfl) rfl (fun _ _ _ => ⟨pg_name (i := 0) (show List.Nodup (α := Str) ["_law_part", "_law_best", "_law_heap"] by decide +kernel) rfl (Or.inl rfl), pif_one (pt_cmpR op_eq (pe_op op_and (pv 0) (pv 2)) (pv 0) (nomark _)), pe_iget (hu_of hr) (pv 1) (pv 0) (fun _ _ => rfl)⟩)) pa_nil)⟩)) pa_nil)))), ?_⟩
    rw [show L2.start ["_law_rows_here", "_law_many_here", "_law_best"] [.ref b, .int (m : Int)] = [some (.ref b), some (.int (m : Int)), none] from rfl]
    (walk_at "rd")
    refine ⟨b, m, rs, rfl, hb', m5, R, ok, fun l kvs d H1 nl s1 e1 T1 B1 => ?_⟩
    have pfl := pfold_len m (rowsP rs)
    generalize hpf : pfold m (rowsP rs) = ns at *
    (walk_at "rd")
    have hpow : (1 : Int) * 2 ^ (m : Int).toNat = ((2 ^ m : Nat) : Int) := by rw [Int.one_mul, Int.toNat_natCast]; norm_cast
    rw [hpow]
    refine ⟨⟨by omega, by omega, by decide⟩, by omega, by omega, fun c nc => ?_⟩
    have nlc : l ≠ c := ne_of_none e1 nc
    have tl := T1.len
    refine cl_range (LD1 l c kvs ns H1) ⟨none, rfl, .inl (by rw [upd_ne nlc]; exact e1), fun b o _ n e => by rw [upd_ne n]; exact e, upd_same⟩ ?_ ?_
    · rintro h σ H2 hh ⟨v, rfl, r2, k2, e2⟩
      rw [Int.toNat_natCast] at hh
      (walk_at "rd")
      refine ⟨kvs, r2, fun o H3 e3 b3 c2 nc2 => ?_⟩
      have nlc2 : l ≠ c2 := ne_of_none e3 nc2
      rw [T1.keysV]
      refine cl_seq (LD2 l c2 d h (keyN kvs) H3) ⟨none, rfl, SameX.upd, upd_same⟩ (fun k σ H' _ ⟨_, _, s, _⟩ => s _ _ nlc2 e3) ?_ ?_
      · rintro k x σ H4 hx ⟨v4, rfl, s4, e4⟩
        rw [List.getElem?_map] at hx
        obtain ⟨p, hp', rfl⟩ := Option.map_eq_some_iff.mp hx
        have hk : k < (keyN kvs).length := (List.getElem?_eq_some_iff.mp hp').1
        rw [keyN_len] at hk
        obtain ⟨pl, u, hu⟩ := T1.mem (List.mem_of_getElem? hp')
        have ap := and_part pl (show h < 32 by omega)
        have ev := T1.val p
        rw [hu] at ev
        have etk : (keyN kvs).take (k + 1) = (keyN kvs).take k ++ [p] := by rw [List.take_add_one, hp', Option.toList_some]
        have pvl := pvals_len d h ((keyN kvs).take k)
        rw [List.length_take] at pvl
        have e4l := s4 _ _ nlc2 e3
        (walk_at "rd")
        cases hd : inB p h with
        | true =>
          rw [hd] at ap
          rw [if_pos (of_decide_eq_true ap)]
          (try simp only [a_iDk, a_rGetI, a_rSetI, a_tDGetI, V.str.injEq, HO.dK.injEq, a_tAug, a_tDisp, a_prs0, a_prs, a_rGetK, a_rSetK, a_tAugS, a_ipI, a_tPop0, a_tCalK, g3r_is, g2r_is, g2_is, g1_is, a_tSeqL, a_tChain, a_tDict, a_tLstA, a_rMulT, a_rEqT, a_tIns, a_tRev, a_rSlA, a_rCatA, a_rCatL, a_tSeq, a_tFor, a_rIxL, a_iZip, a_tSortR, a_tSl, a_rSlL0, a_tNoPart, a_tPart, a_tApp, a_tRet, a_tRetN, a_tNext, a_tDrop, a_tAsg, a_gSub, a_gName, a_gNil, a_gCons, a_gTup0, a_rSetL, a_tIfS, a_tAnd, a_tOr, a_tNot, a_tTest, a_tB, a_tTrue, a_tIf, a_tAndV, a_tOrV, a_tNotV, a_tOp, a_tUn, a_rU, a_tVar, a_tC, a_rI0, a_rI, a_rEq, a_rNe, a_rIx0, a_rIn0, a_tCB, a_tCal, a_tCons, a_tNil, a_tTupA, a_tLst, a_tPar, a_tBits, a_tLC, a_iRng1, a_iRng2, a_iT0, a_iL0, a_tEmit, frS, scal, V.ty.injEq, tyN, subN, String.reduceEq, String.reduceBEq, Bool.true_or, Bool.false_or, Bool.or_false, Bool.true_and, Bool.false_and, Bool.and_false, or_true, true_or, beq_self_eq_true, decide_true, decide_false, List.map_cons, List.map_nil, List.length_cons, List.length_nil, List.getElem?_cons_zero, List.getElem?_cons_succ, List.getElem?_nil, List.set_cons_zero, List.set_cons_succ, Option.some.injEq, Option.bind_some, Option.bind_none, id, exists_eq_left', exists_eq_left, exists_and_left, exists_eq_right, V.int.injEq, V.bl.injEq, V.ref.injEq, List.cons.injEq, and_true, true_and, and_assoc, exists_const, atI0, atI1, atI2, ixN30, ixN31, ixN32, upd_same, upd_upd, sq_updL, sq_updT, Nat.zero_add, Nat.reduceAdd, reduceCtorEq, false_and, and_false, exists_false, false_or, or_false, List.length_map, HO.lst.injEq, HO.tup.injEq, Bool.false_eq_true, if_false, if_true, decide_eq_true_eq, ite_true, ite_false, reduceIte, Int.reduceLT, Int.reduceLE, Nat.reduceLT, Int.zero_add, Bool.not_true, Bool.not_false, e4])
          refine ⟨_, .inr ⟨o, e4l⟩, _, ev, small1000 (by omega), _, rfl, s4.trans SameX.upd, ?_⟩
          rw [upd_same, etk, pvals_snoc, if_pos hd, hu]
          simp
        | false =>
          rw [hd] at ap
          rw [if_neg (of_decide_eq_false ap)]
          exact ⟨_, rfl, s4, by rw [e4, etk, pvals_snoc, if_neg (by rw [hd]; decide), List.append_nil]⟩
      · rintro σ H4 ⟨v4, rfl, s4, e4⟩
        rw [List.length_map, List.take_length] at e4
        obtain ⟨p0, g1, g2⟩ := B1.got h hh
        have mem0 : ns.getD h 0 ∈ pvals d h (keyN kvs) := by
          unfold pvals
          exact List.mem_map.mpr ⟨p0, List.mem_filter.mpr ⟨T1.in g2, g1⟩, by rw [g2]; rfl⟩
        refine ⟨_, sq_lst e4, fun z => by rw [z] at mem0; simp at mem0, fun x hx mx => ?_⟩
        have ex : x = ns.getD h 0 := by
          refine Int.le_antisymm ?_ (mx _ mem0)
          unfold pvals at hx
          obtain ⟨p, hp1, hp2⟩ := List.mem_map.mp hx
          obtain ⟨hp3, hp4⟩ := List.mem_filter.mp hp1
          obtain ⟨_, u, hu⟩ := T1.mem hp3
          rw [hu] at hp2
          have hp5 : u = x := hp2
          exact B1.up p x h (by rw [hu, hp5]) hh hp4
        have ncc2 : c ≠ c2 := fun z => by
          rw [← z, b3 c nlc.symm, e2] at nc2
          cases nc2
        have e4c : H4 c = some (.lst (((List.range h).map fun h => ns.getD h 0).map V.int)) := s4 _ _ ncc2 (by rw [b3 c nlc.symm]; exact e2)
        refine ⟨_, e4c, small1000 (by simp; omega), _, rfl, .inr ⟨o, by rw [upd_ne nlc]; exact s4 _ _ nlc2 e3⟩, fun b' o' n1 n2 e => ?_, ?_⟩
        · rw [upd_ne n2]
          have e' : H3 b' = some o' := by rw [b3 b' n1]; exact k2 b' o' n1 n2 e
          exact s4 _ _ (ne_of_none e' nc2) e'
        · rw [upd_same, List.range_succ, List.map_append, List.map_append, ex]
          simp
    · rintro σ H2 ⟨v, rfl, r2, k2, e2⟩
      rw [Int.toNat_natCast] at e2
      refine ⟨_, e2, fun t H3 nt s3 e3 => ?_⟩
      refine q t H3 (fun b o e => s3 _ _ (k2 b o (ne_of_none e nl) (fun z => ?_) (s1 _ _ e))) ?_
      · have := s1 _ _ e
        rw [z, nc] at this
        cases this
      · rw [e3]
        congr 3
        refine getD_ext (by simp [pfl]) fun i hi => ?_
        simp at hi
        simp [List.getD_eq_getElem?_getD, hi]
end
end K10
end
section
set_option Elab.async false
set_option linter.all false
set_option maxRecDepth 100000
set_option maxHeartbeats 8000000
namespace K10
open PySem L2
local macro_rules | `(tactic| walk_at "rd") => `(tactic| (try simp only [a_iDk, a_rGetI, a_rSetI, a_tDGetI, V.str.injEq, HO.dK.injEq, a_tAug, a_tDisp, a_prs0, a_prs, a_rGetK, a_rSetK, a_tAugS, a_ipI, a_tPop0, a_tCalK, g3r_is, g2r_is, g2_is, g1_is, a_tSeqL, a_tChain, a_tDict, a_tLstA, a_rMulT, a_rEqT, a_tIns, a_tRev, a_rSlA, a_rCatA, a_rCatL, a_tSeq, a_tFor, a_rIxL, a_iZip, a_tSortR, a_tSl, a_rSlL0, a_tNoPart, a_tPart, a_tApp, a_tRet, a_tRetN, a_tNext, a_tDrop, a_tAsg, a_gSub, a_gName, a_gNil, a_gCons, a_gTup0, a_rSetL, a_tIfS, a_tAnd, a_tOr, a_tNot, a_tTest, a_tB, a_tTrue, a_tIf, a_tAndV, a_tOrV, a_tNotV, a_tOp, a_tUn, a_rU, a_tVar, a_tC, a_rI0, a_rI, a_rEq, a_rNe, a_rIx0, a_rIn0, a_tCB, a_tCal, a_tCons, a_tNil, a_tTupA, a_tLst, a_tPar, a_tBits, a_tLC, a_iRng1, a_iRng2, a_iT0, a_iL0, a_tEmit, frS, scal, V.ty.injEq, tyN, subN, String.reduceEq, String.reduceBEq, Bool.true_or, Bool.false_or, Bool.or_false, Bool.true_and, Bool.false_and, Bool.and_false, or_true, true_or, beq_self_eq_true, decide_true, decide_false, List.map_cons, List.map_nil, List.length_cons, List.length_nil, List.getElem?_cons_zero, List.getElem?_cons_succ, List.getElem?_nil, List.set_cons_zero, List.set_cons_succ, Option.some.injEq, Option.bind_some, Option.bind_none, id, exists_eq_left', exists_eq_left, exists_and_left, exists_eq_right, V.int.injEq, V.bl.injEq, V.ref.injEq, List.cons.injEq, and_true, true_and, and_assoc, exists_const, atI0, atI1, atI2, ixN30, ixN31, ixN32, upd_same, upd_upd, sq_updL, sq_updT, Nat.zero_add, Nat.reduceAdd, reduceCtorEq, false_and, and_false, exists_false, false_or, or_false, List.length_map, HO.lst.injEq, HO.tup.injEq, Bool.false_eq_true, if_false, if_true, decide_eq_true_eq, ite_true, ite_false, reduceIte, Int.reduceLT, Int.reduceLE, Nat.reduceLT, Int.zero_add, Bool.not_true, Bool.not_false]))
section
variable {P : Program} {w : World} {K : PySem.W.Frag} {mg : Str → Option Value} {base : Heap} {f : Addr} {fd : FuncData}
def sp_law (K : PySem.W.Frag) : Sp := fun vs H Q _ => ∃ (a : Addr) (ns : List Int), vs = [.ref a] ∧ Scr K a ns H ∧ ns.length ≤ 63 ∧ ∀ H', Q (.bl true) H'
def J0 (K : PySem.W.Frag) (a : Addr) (ns : List Int) (i : Nat) (σ : St) (H : Hp) : Prop := ∃ v1 v2 v3 v4 v5 v6, σ = [some (.ref a), v1, v2, v3, v4, v5, v6] ∧ Scr K a ns H
def LS (p c : Addr) (G : Hp) (i : Nat) (σ : St) (H : Hp) : Prop := ∃ (v : Option V) (ss : List Int), σ = [v, some (.ref p)] ∧ ss.length = i ∧ (∀ x ∈ ss, x = 0 ∨ x = 1) ∧ Box H p ∧ (∀ b o, b ≠ p → b ≠ c → G b = some o → H b = some o) ∧ H c = some (.lst (ss.map V.int))
theorem sc_law : FnScope ["_law_script", "_law_k", "_law_box_here", "_law_many_here", "_law_sides", "_law_rows_here", "_law_found"] ["_law_script"] (defScope s_law) := ⟨rfl, rfl, rfl, by decide +kernel, rfl, by decide +kernel, by decide +kernel⟩
theorem ok_law (F : Fun K "law" "law" s_law f fd) (T : Txt mg) (c__law_box : Cal P w K mg base "_law_box" ["_law_script", "_law_k"] 1 (spBox K)) (c__law_take : Cal P w K mg base "_law_take" ["_law_box_here", "_law_many_here"] 1 spTake) (c__law_many : Cal P w K mg base "_law_many" ["_law_box_here"] 2 sp_many) (c__law_rows : Cal P w K mg base "_law_rows" ["_law_box_here", "_law_sides"] 2 sp_rows) (c_paired : Cal P w K mg base "paired" ["sides", "rows"] 4 sp_paired) (c__law_same : Cal P w K mg base "_law_same" ["_law_found", "_law_due_here"] 2 sp_same) (c__law_due : Cal P w K mg base "_law_due" ["_law_rows_here", "_law_many_here"] 2 sp_due) :
    FnOk P w K mg base CX0 5 f fd ["_law_script"] (sp_law K) := by
  refine F.ok sc_law (fun vs H Q E h => ?_) (fun cdv A outer s H vs Q E hr h => ?_)
  · obtain ⟨_, _, rfl, _⟩ := h; rfl
  · obtain ⟨a, ns, rfl, hq, hlen, q⟩ := h
    have sc := sc_law
    refine ⟨_, pss_consL (ps_for PassesOwn.never rfl (pi_range1 rfl T.range_ (pa_cns (pe_op op_add pe_int (pe_callB (call_min2 rfl) rfl T.min_ bt_min (pa_cns pe_int (pa_cns (pe_callB call_len_seq rfl T.len_ bt_len (pa_cons (pv 0) pa_nil)) pa_nil)))) pa_nil)) (pg_name (i := 1) sc.nd rfl (Or.inl rfl))
        (pss_consL (ps_set (i := 2) sc.nd rfl (Or.inr rfl) (pe_cal c__law_box hr (pa_cns (pv 0) (pa_cns (pv 1) pa_nil))))
      (pss_consL (ps_set (i := 3) sc.nd rfl (Or.inl rfl) (pe_cal c__law_many hr (pa_cns (pv 2) pa_nil)))
      (pss_consL (ps_set (i := 4) sc.nd rfl (Or.inl rfl) (pe_callTy tupA0 rfl T.tuple_ bt_tuple (pa_cns (pe_lc (N := ["_law_t", "_law_box_here"]) (fr := [none, some 2]) rfl (pi_range1 rfl T.range_ (pa_cns (pv 3) pa_nil)) (CScope.of rfl rfl rfl) rfl (fun _ _ _ => ⟨pg_name (i := 0) (show List.Nodup (α := Str) ["_law_t", "_law_box_here"] by decide +kernel) rfl (Or.inl rfl), pif_nil, pe_cal c__law_take hr (pa_cns (pv 1) (pa_cns pe_int pa_nil))⟩)) pa_nil)))
      (pss_consL (ps_set (i := 5) sc.nd rfl (Or.inl rfl) (pe_cal c__law_rows hr (pa_cns (pv 2) (pa_cns (pv 4) pa_nil))))
      (pss_consL (ps_set (i := 6) sc.nd rfl (Or.inl rfl) (pe_cal c_paired hr (pa_cns (pv 4) (pa_cns (pv 5) pa_nil))))
      (pss_consL (ps_if (PW.pt (pw_or (pt_not (pt_val (pe_cal c__law_same hr (pa_cns (pv 6) (pa_cns (pe_cal c__law_due hr (pa_cns (pv 5) (pa_cns (pv 3) pa_nil))) pa_nil))))) (pw_or1 (pt_cmpR (neT0 hr.units0) (pe_cal c_paired hr (pa_cns (pv 4) (pa_cns (pe_rev (pv 5) (pe_un un_neg pe_int) (fun _ _ _ h => ⟨_, rfl, h⟩)) pa_nil))) (pv 6) (nomark _))))) (pss_one (ps_ret pe_bl)) pss_nil)
      (pss_one (ps_if (pt_not (pt_val (pe_cal c__law_same hr (pa_cns (pe_cal c_paired hr (pa_cns (pv 4) (pa_cns (pe_tupA pa_nil) pa_nil))) (pa_cns (pe_op mulT0 (pe_tupA (pa_cns pe_int pa_nil)) (pe_op op_shl pe_int (pv 3))) pa_nil))))) (pss_one (ps_ret pe_bl)) pss_nil)))))))))
      (pss_one (ps_ret (pe_cal c__law_same hr (pa_cns (pe_cal c_paired hr (pa_cns (pe_tupA (pa_cns pe_int (pa_cns pe_int pa_nil))) (pa_cns (pe_tupA (pa_cns (pe_tupA (pa_cns pe_int (pa_cns pe_int (pa_cns pe_int pa_nil)))) pa_nil)) pa_nil))) (pa_cns (pe_tupA (pa_cns pe_int (pa_cns pe_int (pa_cns pe_int (pa_cns pe_int pa_nil))))) pa_nil))))), ?_⟩
    rw [show L2.start ["_law_script", "_law_k", "_law_box_here", "_law_many_here", "_law_sides", "_law_rows_here", "_law_found"] [.ref a] = [some (.ref a), none, none, none, none, none, none] from rfl]
    (walk_at "rd")
    refine ⟨_, .inl hq, ?_⟩
    (walk_at "rd")
    have hn : (1 + if (ns.length : Int) < 10 then (ns.length : Int) else 10).toNat ≤ 11 := by split <;> omega
    refine ⟨by split <;> omega, by split <;> omega, fl_range (J0 K a ns) ⟨none, none, none, none, none, none, rfl, hq⟩ ?_ ?_⟩
    · rintro i σ H1 hi ⟨v1, v2, v3, v4, v5, v6, rfl, hq1⟩
      (walk_at "rd")
      refine ⟨a, i, ns, rfl, hq1, by omega, fun p H2 np bx2 bt2 => ?_⟩
      (walk_at "rd")
      (simp only [a_later])
      (walk_at "rd")
      refine ⟨p, rfl, bx2, fun m H3 m1 m5 bx3 sx3 => ?_⟩
      (walk_at "rd")
      (simp only [a_later])
      (walk_at "rd")
      refine ⟨by omega, by omega, fun c nc => ?_⟩
      have npc := bx3.ne nc
      refine cl_range (LS p c H3) ⟨none, [], rfl, rfl, fun _ z => absurd z (by simp), bx3.upd npc, fun b o _ n e => by rw [upd_ne n]; exact e, upd_same⟩ ?_ ?_
      · rintro t σ H4 ht ⟨v, ss, rfl, hl, hbd, bx4, k4, e4⟩
        (walk_at "rd")
        refine ⟨p, 2, rfl, bx4, by decide, by decide, fun r H5 r0 r1 bx5 bt5 => ?_⟩
        have e5 : H5 c = some (.lst (ss.map V.int)) := by rw [bt5 c npc.symm]; exact e4
        (try simp only [a_iDk, a_rGetI, a_rSetI, a_tDGetI, V.str.injEq, HO.dK.injEq, a_tAug, a_tDisp, a_prs0, a_prs, a_rGetK, a_rSetK, a_tAugS, a_ipI, a_tPop0, a_tCalK, g3r_is, g2r_is, g2_is, g1_is, a_tSeqL, a_tChain, a_tDict, a_tLstA, a_rMulT, a_rEqT, a_tIns, a_tRev, a_rSlA, a_rCatA, a_rCatL, a_tSeq, a_tFor, a_rIxL, a_iZip, a_tSortR, a_tSl, a_rSlL0, a_tNoPart, a_tPart, a_tApp, a_tRet, a_tRetN, a_tNext, a_tDrop, a_tAsg, a_gSub, a_gName, a_gNil, a_gCons, a_gTup0, a_rSetL, a_tIfS, a_tAnd, a_tOr, a_tNot, a_tTest, a_tB, a_tTrue, a_tIf, a_tAndV, a_tOrV, a_tNotV, a_tOp, a_tUn, a_rU, a_tVar, a_tC, a_rI0, a_rI, a_rEq, a_rNe, a_rIx0, a_rIn0, a_tCB, a_tCal, a_tCons, a_tNil, a_tTupA, a_tLst, a_tPar, a_tBits, a_tLC, a_iRng1, a_iRng2, a_iT0, a_iL0, a_tEmit, frS, scal, V.ty.injEq, tyN, subN, String.reduceEq, String.reduceBEq, Bool.true_or, Bool.false_or, Bool.or_false, Bool.true_and, Bool.false_and, Bool.and_false, or_true, true_or, beq_self_eq_true, decide_true, decide_false, List.map_cons, List.map_nil, List.length_cons, List.length_nil, List.getElem?_cons_zero, List.getElem?_cons_succ, List.getElem?_nil, List.set_cons_zero, List.set_cons_succ, Option.some.injEq, Option.bind_some, Option.bind_none, id, exists_eq_left', exists_eq_left, exists_and_left, exists_eq_right, V.int.injEq, V.bl.injEq, V.ref.injEq, List.cons.injEq, and_true, true_and, and_assoc, exists_const, atI0, atI1, atI2, ixN30, ixN31, ixN32, upd_same, upd_upd, sq_updL, sq_updT, Nat.zero_add, Nat.reduceAdd, reduceCtorEq, false_and, and_false, exists_false, false_or, or_false, List.length_map, HO.lst.injEq, HO.tup.injEq, Bool.false_eq_true, if_false, if_true, decide_eq_true_eq, ite_true, ite_false, reduceIte, Int.reduceLT, Int.reduceLE, Nat.reduceLT, Int.zero_add, Bool.not_true, Bool.not_false, e5])
        refine ⟨small1000 (by omega), ⟨_, ss ++ [r], rfl, by rw [List.length_append, hl]; rfl, fun x hx => ?_, bx5.upd npc, fun b o n1 n2 e => by rw [upd_ne n2, bt5 b n1]; exact k4 b o n1 n2 e, by rw [upd_same]; simp⟩⟩
        rcases List.mem_append.mp hx with z | z
        · exact hbd x z
        · have : x = r := by simpa using z
          omega
      · rintro σ H4 ⟨v, ss, rfl, hl, hbd, bx4, k4, e4⟩
        have hl' : ss.length = m := by omega
        refine ⟨_, e4, fun ka H5 nl s5 e5 => ?_⟩
        have bx5 := bx4.same s5
        have W : Sd ss := ⟨by omega, by omega, hbd⟩
        have w5 := W.five
        have hp := pow32 w5
        have sx5 : SameX p H1 H5 := fun b o n e => by
          have e3 := (bt2.x.trans sx3) b o n e
          exact s5 _ _ (k4 b o n (ne_of_none e3 nc) e3)
        (walk_at "rd")
        (simp only [a_later])
        (walk_at "rd")
        refine ⟨p, ka, ss, rfl, bx5, e5, W, fun lo rs H6 rl RI R6 bx6 sx6 e6 => ?_⟩
        have nkp := box_ne_tup bx5 e5
        have e6k := sx6 _ _ nkp e5
        have ok6 : ∀ r ∈ rs, ROk ss.length r.2 := fun r hr' => (RI.ok r hr').1
        (walk_at "rd")
        (simp only [a_later])
        (walk_at "rd")
        refine ⟨ka, lo, ss, rs, rfl, e6k, w5, e6, R6, ok6, fun fo H7 s7 e7 => ?_⟩
        have e7k := s7 _ _ e6k
        have e7l := s7 _ _ e6
        have R7 := R6.same s7
        have bx7 := bx6.same s7
        have sx7 : SameX p H1 H7 := (sx5.trans sx6).trans s7.x
        have pfl := pfold_len ss.length (rowsP rs)
        have okr : ∀ r ∈ rowsP rs, ROk ss.length r := fun r hr' => by
          unfold rowsP at hr'
          obtain ⟨x, hx, rfl⟩ := List.mem_map.mp hr'
          exact ok6 x hx
        have prv := pfold_rev w5 okr
        (walk_at "rd")
        (simp only [a_later])
        (walk_at "rd")
        refine ⟨lo, ss.length, rs, by rw [hl'], e7l, w5, R7, ok6, fun du H8 s8 e8 => ?_⟩
        refine .inr ⟨fo, du, _, _, rfl, s8 _ _ e7, e8, by rw [pfl]; omega, fun H9 s9 => ?_⟩
        rw [decide_eq_true rfl]
        have S9 := s8.trans s9
        have e9l := S9 _ _ e7l
        (try simp only [a_iDk, a_rGetI, a_rSetI, a_tDGetI, V.str.injEq, HO.dK.injEq, a_tAug, a_tDisp, a_prs0, a_prs, a_rGetK, a_rSetK, a_tAugS, a_ipI, a_tPop0, a_tCalK, g3r_is, g2r_is, g2_is, g1_is, a_tSeqL, a_tChain, a_tDict, a_tLstA, a_rMulT, a_rEqT, a_tIns, a_tRev, a_rSlA, a_rCatA, a_rCatL, a_tSeq, a_tFor, a_rIxL, a_iZip, a_tSortR, a_tSl, a_rSlL0, a_tNoPart, a_tPart, a_tApp, a_tRet, a_tRetN, a_tNext, a_tDrop, a_tAsg, a_gSub, a_gName, a_gNil, a_gCons, a_gTup0, a_rSetL, a_tIfS, a_tAnd, a_tOr, a_tNot, a_tTest, a_tB, a_tTrue, a_tIf, a_tAndV, a_tOrV, a_tNotV, a_tOp, a_tUn, a_rU, a_tVar, a_tC, a_rI0, a_rI, a_rEq, a_rNe, a_rIx0, a_rIn0, a_tCB, a_tCal, a_tCons, a_tNil, a_tTupA, a_tLst, a_tPar, a_tBits, a_tLC, a_iRng1, a_iRng2, a_iT0, a_iL0, a_tEmit, frS, scal, V.ty.injEq, tyN, subN, String.reduceEq, String.reduceBEq, Bool.true_or, Bool.false_or, Bool.or_false, Bool.true_and, Bool.false_and, Bool.and_false, or_true, true_or, beq_self_eq_true, decide_true, decide_false, List.map_cons, List.map_nil, List.length_cons, List.length_nil, List.getElem?_cons_zero, List.getElem?_cons_succ, List.getElem?_nil, List.set_cons_zero, List.set_cons_succ, Option.some.injEq, Option.bind_some, Option.bind_none, id, exists_eq_left', exists_eq_left, exists_and_left, exists_eq_right, V.int.injEq, V.bl.injEq, V.ref.injEq, List.cons.injEq, and_true, true_and, and_assoc, exists_const, atI0, atI1, atI2, ixN30, ixN31, ixN32, upd_same, upd_upd, sq_updL, sq_updT, Nat.zero_add, Nat.reduceAdd, reduceCtorEq, false_and, and_false, exists_false, false_or, or_false, List.length_map, HO.lst.injEq, HO.tup.injEq, Bool.false_eq_true, if_false, if_true, decide_eq_true_eq, ite_true, ite_false, reduceIte, Int.reduceLT, Int.reduceLE, Nat.reduceLT, Int.zero_add, Bool.not_true, Bool.not_false, e9l])
        refine fun rv H10 nrv s10 e10 => ?_
        have S10 := S9.trans s10
        have e10r : H10 rv = some (.tup (refsP rs.reverse)) := by rw [e10]; unfold refsP; rw [List.map_reverse]
        refine ⟨ka, rv, ss, rs.reverse, rfl, S10 _ _ e7k, w5, e10r, fun r hr' => (R7.same S10) r (List.mem_reverse.mp hr'), fun r hr' => ok6 r (List.mem_reverse.mp hr'), fun l2 H11 s11 e11 => ?_⟩
        have erv : rowsP rs.reverse = (rowsP rs).reverse := by unfold rowsP; rw [List.map_reverse]
        rw [erv, prv] at e11
        have S11 := S10.trans s11
        (walk_at "rd")
        refine ⟨_, e11, _, S11 _ _ e7, ?_⟩
        rw [if_neg (by simp)]
        (simp only [a_later])
        (walk_at "rd")
        refine ⟨by decide, fun em H12 n12 s12 e12 => ?_⟩
        have S12 := S11.trans s12
        have e12' : H12 em = some (.tup (refsP ([] : List (Addr × PRow)))) := e12
        refine ⟨ka, em, ss, [], rfl, S12 _ _ e7k, w5, e12', fun r hr' => by simp at hr', fun r hr' => by simp at hr', fun l3 H13 s13 e13 => ?_⟩
        have S13 := S12.trans s13
        (walk_at "rd")
        have hpow : (1 : Int) * 2 ^ (m : Int).toNat = ((2 ^ ss.length : Nat) : Int) := by rw [Int.one_mul, Int.toNat_natCast, hl']; norm_cast
        refine ⟨by decide, fun z1 H14 n14 s14 e14 => ⟨⟨by omega, by omega, by decide⟩, 2 ^ ss.length, hpow, [.int 0], e14, by simp; omega, by omega, fun z2 H15 s15 e15 => ?_⟩⟩
        have ezr : (List.replicate (2 ^ ss.length) [V.int 0]).flatten = (pfold ss.length (rowsP [])).map V.int := by simp [pfold, rowsP]
        rw [ezr] at e15
        refine .inr ⟨l3, z2, _, _, rfl, (s14.trans s15) _ _ e13, e15, by rw [pfold_len]; omega, fun H16 s16 => ?_⟩
        rw [decide_eq_true rfl]
        refine ⟨_, rfl, ?_⟩
        rw [if_neg (by simp)]
        have S16 := ((S13.trans s14).trans s15).trans s16
        exact ⟨_, _, _, _, _, _, rfl, hq1.keep np fun b o n e => S16 _ _ (sx7 b o n e)⟩
    · rintro σ H1 ⟨v1, v2, v3, v4, v5, v6, rfl, hq1⟩
      (simp only [a_later])
      (walk_at "rd")
      refine ⟨by decide, fun t1 H2 n1 s2 e2 => ⟨by decide, fun t2 H3 n2 s3 e3 => ⟨by decide, fun t3 H4 n3 s4 e4 => ?_⟩⟩⟩
      have e4a : H4 t1 = some (.tup ([1, 0].map V.int)) := (s3.trans s4) _ _ e2
      have e4b : H4 t3 = some (.tup (refsP [(t2, (1, 0, 5))])) := e4
      refine ⟨t1, t3, [1, 0], [(t2, (1, 0, 5))], rfl, e4a, by decide, e4b, fun r hr' => ?_, fun r hr' => ?_, fun l H5 s5 e5 => ?_⟩
      · have : r = (t2, (1, 0, 5)) := by simpa using hr'
        subst this
        exact s4 _ _ e3
      · have : r = (t2, (1, 0, 5)) := by simpa using hr'
        subst this
        exact ⟨show (1 : Nat) ≠ 0 by decide, show (1 : Nat) < 2 by decide, show (0 : Nat) < 2 by decide, show (0 : Int) ≤ 5 by decide⟩
      · have ef : pfold 2 (rowsP [(t2, (1, 0, 5))]) = [0, 0, 0, 5] := by
          have : (pfold 2 (rowsP [(t2, (1, 0, 5))])) = pfold 2 [(1, 0, 5)] := rfl
          rw [this]
          decide +kernel
        have e5' : H5 l = some (.tup ((pfold 2 (rowsP [(t2, (1, 0, 5))])).map V.int)) := e5
        rw [ef] at e5'
        refine ⟨by decide, fun t4 H6 n6 s6 e6 => .inr ⟨l, t4, [0, 0, 0, 5], [0, 0, 0, 5], rfl, s6 _ _ e5', e6, by decide, fun H7 _ => ?_⟩⟩
        rw [decide_eq_true rfl]
        exact q H7
end
theorem all_mk {l : PySem.W.OpenLaw} {w : World} {K : PySem.W.Frag} {h : Heap} {mg : Str → Option Value} {fa : Addr} (X : K.In h) (G : h.Ns mainGlobals mg) (hfa : mg "law" = some (.ref fa))
    {f0 : Addr} {od0 an0 : Option Addr} {sl0 : Array (Option Value)} {oc0 kV0 dc0 pm0 cd0 ct0 : Value}
    (a0 : PySem.W.nsIn K mainGlobals "less" = some (some (.ref f0))) (l0 : K.lookup f0 = some ⟨oc0, od0, .func (PySem.W.fnOf "less" "less" (defArgs s_less) (defBody s_less) (defScope s_less) .none kV0 dc0 pm0 an0 cd0 ct0), sl0⟩) (c0 : PySem.W.codeIn K cd0 "less" = true) (k0 : PySem.W.keepIn K (.ref f0) = true)
    {f1 : Addr} {od1 an1 : Option Addr} {sl1 : Array (Option Value)} {oc1 kV1 dc1 pm1 cd1 ct1 : Value}
    (a1 : PySem.W.nsIn K mainGlobals "heap_of" = some (some (.ref f1))) (l1 : K.lookup f1 = some ⟨oc1, od1, .func (PySem.W.fnOf "heap_of" "heap_of" (defArgs s_heap_of) (defBody s_heap_of) (defScope s_heap_of) .none kV1 dc1 pm1 an1 cd1 ct1), sl1⟩) (c1 : PySem.W.codeIn K cd1 "heap_of" = true) (k1 : PySem.W.keepIn K (.ref f1) = true)
    {f2 : Addr} {od2 an2 : Option Addr} {sl2 : Array (Option Value)} {oc2 kV2 dc2 pm2 cd2 ct2 : Value}
    (a2 : PySem.W.nsIn K mainGlobals "is_within" = some (some (.ref f2))) (l2 : K.lookup f2 = some ⟨oc2, od2, .func (PySem.W.fnOf "is_within" "is_within" (defArgs s_is_within) (defBody s_is_within) (defScope s_is_within) .none kV2 dc2 pm2 an2 cd2 ct2), sl2⟩) (c2 : PySem.W.codeIn K cd2 "is_within" = true) (k2 : PySem.W.keepIn K (.ref f2) = true)
    {f3 : Addr} {od3 an3 : Option Addr} {sl3 : Array (Option Value)} {oc3 kV3 dc3 pm3 cd3 ct3 : Value}
    (a3 : PySem.W.nsIn K mainGlobals "paired" = some (some (.ref f3))) (l3 : K.lookup f3 = some ⟨oc3, od3, .func (PySem.W.fnOf "paired" "paired" (defArgs s_paired) (defBody s_paired) (defScope s_paired) .none kV3 dc3 pm3 an3 cd3 ct3), sl3⟩) (c3 : PySem.W.codeIn K cd3 "paired" = true) (k3 : PySem.W.keepIn K (.ref f3) = true)
    {f4 : Addr} {od4 an4 : Option Addr} {sl4 : Array (Option Value)} {oc4 kV4 dc4 pm4 cd4 ct4 : Value}
    (a4 : PySem.W.nsIn K mainGlobals "with_pair" = some (some (.ref f4))) (l4 : K.lookup f4 = some ⟨oc4, od4, .func (PySem.W.fnOf "with_pair" "with_pair" (defArgs s_with_pair) (defBody s_with_pair) (defScope s_with_pair) .none kV4 dc4 pm4 an4 cd4 ct4), sl4⟩) (c4 : PySem.W.codeIn K cd4 "with_pair" = true) (k4 : PySem.W.keepIn K (.ref f4) = true)
    {f5 : Addr} {od5 an5 : Option Addr} {sl5 : Array (Option Value)} {oc5 kV5 dc5 pm5 cd5 ct5 : Value}
    (a5 : PySem.W.nsIn K mainGlobals "_law_box" = some (some (.ref f5))) (l5 : K.lookup f5 = some ⟨oc5, od5, .func (PySem.W.fnOf "_law_box" "_law_box" (defArgs s__law_box) (defBody s__law_box) (defScope s__law_box) .none kV5 dc5 pm5 an5 cd5 ct5), sl5⟩) (c5 : PySem.W.codeIn K cd5 "_law_box" = true) (k5 : PySem.W.keepIn K (.ref f5) = true)
    {f6 : Addr} {od6 an6 : Option Addr} {sl6 : Array (Option Value)} {oc6 kV6 dc6 pm6 cd6 ct6 : Value}
    (a6 : PySem.W.nsIn K mainGlobals "_law_take" = some (some (.ref f6))) (l6 : K.lookup f6 = some ⟨oc6, od6, .func (PySem.W.fnOf "_law_take" "_law_take" (defArgs s__law_take) (defBody s__law_take) (defScope s__law_take) .none kV6 dc6 pm6 an6 cd6 ct6), sl6⟩) (c6 : PySem.W.codeIn K cd6 "_law_take" = true) (k6 : PySem.W.keepIn K (.ref f6) = true)
    {f7 : Addr} {od7 an7 : Option Addr} {sl7 : Array (Option Value)} {oc7 kV7 dc7 pm7 cd7 ct7 : Value}
    (a7 : PySem.W.nsIn K mainGlobals "_law_many" = some (some (.ref f7))) (l7 : K.lookup f7 = some ⟨oc7, od7, .func (PySem.W.fnOf "_law_many" "_law_many" (defArgs s__law_many) (defBody s__law_many) (defScope s__law_many) .none kV7 dc7 pm7 an7 cd7 ct7), sl7⟩) (c7 : PySem.W.codeIn K cd7 "_law_many" = true) (k7 : PySem.W.keepIn K (.ref f7) = true)
    {f8 : Addr} {od8 an8 : Option Addr} {sl8 : Array (Option Value)} {oc8 kV8 dc8 pm8 cd8 ct8 : Value}
    (a8 : PySem.W.nsIn K mainGlobals "_law_rows" = some (some (.ref f8))) (l8 : K.lookup f8 = some ⟨oc8, od8, .func (PySem.W.fnOf "_law_rows" "_law_rows" (defArgs s__law_rows) (defBody s__law_rows) (defScope s__law_rows) .none kV8 dc8 pm8 an8 cd8 ct8), sl8⟩) (c8 : PySem.W.codeIn K cd8 "_law_rows" = true) (k8 : PySem.W.keepIn K (.ref f8) = true)
    {f9 : Addr} {od9 an9 : Option Addr} {sl9 : Array (Option Value)} {oc9 kV9 dc9 pm9 cd9 ct9 : Value}
    (a9 : PySem.W.nsIn K mainGlobals "_law_same" = some (some (.ref f9))) (l9 : K.lookup f9 = some ⟨oc9, od9, .func (PySem.W.fnOf "_law_same" "_law_same" (defArgs s__law_same) (defBody s__law_same) (defScope s__law_same) .none kV9 dc9 pm9 an9 cd9 ct9), sl9⟩) (c9 : PySem.W.codeIn K cd9 "_law_same" = true) (k9 : PySem.W.keepIn K (.ref f9) = true)
    {f10 : Addr} {od10 an10 : Option Addr} {sl10 : Array (Option Value)} {oc10 kV10 dc10 pm10 cd10 ct10 : Value}
    (a10 : PySem.W.nsIn K mainGlobals "_law_sums" = some (some (.ref f10))) (l10 : K.lookup f10 = some ⟨oc10, od10, .func (PySem.W.fnOf "_law_sums" "_law_sums" (defArgs s__law_sums) (defBody s__law_sums) (defScope s__law_sums) .none kV10 dc10 pm10 an10 cd10 ct10), sl10⟩) (c10 : PySem.W.codeIn K cd10 "_law_sums" = true) (k10 : PySem.W.keepIn K (.ref f10) = true)
    {f11 : Addr} {od11 an11 : Option Addr} {sl11 : Array (Option Value)} {oc11 kV11 dc11 pm11 cd11 ct11 : Value}
    (a11 : PySem.W.nsIn K mainGlobals "_law_due" = some (some (.ref f11))) (l11 : K.lookup f11 = some ⟨oc11, od11, .func (PySem.W.fnOf "_law_due" "_law_due" (defArgs s__law_due) (defBody s__law_due) (defScope s__law_due) .none kV11 dc11 pm11 an11 cd11 ct11), sl11⟩) (c11 : PySem.W.codeIn K cd11 "_law_due" = true) (k11 : PySem.W.keepIn K (.ref f11) = true)
    {f12 : Addr} {od12 an12 : Option Addr} {sl12 : Array (Option Value)} {oc12 kV12 dc12 pm12 cd12 ct12 : Value}
    (a12 : PySem.W.nsIn K mainGlobals "law" = some (some (.ref f12))) (l12 : K.lookup f12 = some ⟨oc12, od12, .func (PySem.W.fnOf "law" "law" (defArgs s_law) (defBody s_law) (defScope s_law) .none kV12 dc12 pm12 an12 cd12 ct12), sl12⟩) (c12 : PySem.W.codeIn K cd12 "law" = true) (k12 : PySem.W.keepIn K (.ref f12) = true)
    (z_len : PySem.W.nsIn K mainGlobals "len" = some none)
    (z_sum : PySem.W.nsIn K mainGlobals "sum" = some none)
    (z_all : PySem.W.nsIn K mainGlobals "all" = some none)
    (z_abs : PySem.W.nsIn K mainGlobals "abs" = some none)
    (z_max : PySem.W.nsIn K mainGlobals "max" = some none)
    (z_min : PySem.W.nsIn K mainGlobals "min" = some none)
    (z_range : PySem.W.nsIn K mainGlobals "range" = some none)
    (z_tuple : PySem.W.nsIn K mainGlobals "tuple" = some none)
    (z_int : PySem.W.nsIn K mainGlobals "int" = some none)
    (z_zip : PySem.W.nsIn K mainGlobals "zip" = some none)
    (z_isinstance : PySem.W.nsIn K mainGlobals "isinstance" = some none)
    (z_bool : PySem.W.nsIn K mainGlobals "bool" = some none)
    (z_list : PySem.W.nsIn K mainGlobals "list" = some none)
    : ∃ fd : FuncData, (∀ (s : Shared) (v : Value), BindsTo s fd ⟨[v], []⟩ [("_law_script", v)]) ∧ ∀ base : Heap, K.In base → base.Ns mainGlobals mg → FnOk l.prog w K mg base CX0 5 fa fd ["_law_script"] (sp_law K) := by
  have e := hfa.symm.trans (PySem.W.mg_of X G a12)
  cases e
  have T : Txt mg := ⟨PySem.W.mg_none_of X G z_len, PySem.W.mg_none_of X G z_sum, PySem.W.mg_none_of X G z_all, PySem.W.mg_none_of X G z_abs, PySem.W.mg_none_of X G z_max, PySem.W.mg_none_of X G z_min, PySem.W.mg_none_of X G z_range, PySem.W.mg_none_of X G z_tuple, PySem.W.mg_none_of X G z_int, PySem.W.mg_none_of X G z_zip, PySem.W.mg_none_of X G z_isinstance, PySem.W.mg_none_of X G z_bool, PySem.W.mg_none_of X G z_list⟩
  have F_less := fun_mk (st := s_less) l0 c0 k0
  have m_less := PySem.W.mg_of X G a0
  have b_less := F_less.binds (ps := ["one", "other"]) fun _ _ _ _ _ _ us hl => match us, hl with | [_, _], _ => rfl
  have F_heap_of := fun_mk (st := s_heap_of) l1 c1 k1
  have m_heap_of := PySem.W.mg_of X G a1
  have b_heap_of := F_heap_of.binds (ps := ["things"]) fun _ _ _ _ _ _ us hl => match us, hl with | [_], _ => rfl
  have F_is_within := fun_mk (st := s_is_within) l2 c2 k2
  have m_is_within := PySem.W.mg_of X G a2
  have b_is_within := F_is_within.binds (ps := ["one", "other"]) fun _ _ _ _ _ _ us hl => match us, hl with | [_, _], _ => rfl
  have F_paired := fun_mk (st := s_paired) l3 c3 k3
  have m_paired := PySem.W.mg_of X G a3
  have b_paired := F_paired.binds (ps := ["sides", "rows"]) fun _ _ _ _ _ _ us hl => match us, hl with | [_, _], _ => rfl
  have F_with_pair := fun_mk (st := s_with_pair) l4 c4 k4
  have m_with_pair := PySem.W.mg_of X G a4
  have b_with_pair := F_with_pair.binds (ps := ["want", "pair", "worth"]) fun _ _ _ _ _ _ us hl => match us, hl with | [_, _, _], _ => rfl
  have F__law_box := fun_mk (st := s__law_box) l5 c5 k5
  have m__law_box := PySem.W.mg_of X G a5
  have b__law_box := F__law_box.binds (ps := ["_law_script", "_law_k"]) fun _ _ _ _ _ _ us hl => match us, hl with | [_, _], _ => rfl
  have F__law_take := fun_mk (st := s__law_take) l6 c6 k6
  have m__law_take := PySem.W.mg_of X G a6
  have b__law_take := F__law_take.binds (ps := ["_law_box_here", "_law_many_here"]) fun _ _ _ _ _ _ us hl => match us, hl with | [_, _], _ => rfl
  have F__law_many := fun_mk (st := s__law_many) l7 c7 k7
  have m__law_many := PySem.W.mg_of X G a7
  have b__law_many := F__law_many.binds (ps := ["_law_box_here"]) fun _ _ _ _ _ _ us hl => match us, hl with | [_], _ => rfl
  have F__law_rows := fun_mk (st := s__law_rows) l8 c8 k8
  have m__law_rows := PySem.W.mg_of X G a8
  have b__law_rows := F__law_rows.binds (ps := ["_law_box_here", "_law_sides"]) fun _ _ _ _ _ _ us hl => match us, hl with | [_, _], _ => rfl
  have F__law_same := fun_mk (st := s__law_same) l9 c9 k9
  have m__law_same := PySem.W.mg_of X G a9
  have b__law_same := F__law_same.binds (ps := ["_law_found", "_law_due_here"]) fun _ _ _ _ _ _ us hl => match us, hl with | [_, _], _ => rfl
  have F__law_sums := fun_mk (st := s__law_sums) l10 c10 k10
  have m__law_sums := PySem.W.mg_of X G a10
  have b__law_sums := F__law_sums.binds (ps := ["_law_rows_here"]) fun _ _ _ _ _ _ us hl => match us, hl with | [_], _ => rfl
  have F__law_due := fun_mk (st := s__law_due) l11 c11 k11
  have m__law_due := PySem.W.mg_of X G a11
  have b__law_due := F__law_due.binds (ps := ["_law_rows_here", "_law_many_here"]) fun _ _ _ _ _ _ us hl => match us, hl with | [_, _], _ => rfl
  have F_law := fun_mk (st := s_law) l12 c12 k12
  have m_law := PySem.W.mg_of X G a12
  have b_law := F_law.binds (ps := ["_law_script"]) fun _ _ _ _ _ _ us hl => match us, hl with | [_], _ => rfl
  refine ⟨PySem.W.fnOf "law" "law" (defArgs s_law) (defBody s_law) (defScope s_law) .none kV12 dc12 pm12 an12 cd12 ct12, fun s v => .of_eq rfl, fun base _ _ => ?_⟩
  have c_take := ok_take (P := l.prog) (w := w) (base := base) F__law_take m__law_take b__law_take T
  have c_box := ok_box (P := l.prog) (w := w) (base := base) F__law_box m__law_box b__law_box T
  have c_many := ok_many (P := l.prog) (w := w) (base := base) F__law_many m__law_many b__law_many T c_take
  have c_none := cal_none (P := l.prog) (w := w) (base := base) F__law_same m__law_same b__law_same
  have c_same1 := ok_same1 (P := l.prog) (w := w) (base := base) F__law_same m__law_same b__law_same T c_none
  have c_same := ok_same2 (P := l.prog) (w := w) (base := base) F__law_same m__law_same b__law_same T c_same1
  have c_less := ok_less (P := l.prog) (w := w) (base := base) F_less m_less b_less T
  have c_within := ok_within (P := l.prog) (w := w) (base := base) F_is_within m_is_within b_is_within T c_less
  have c_wp := ok_wp (P := l.prog) (w := w) (base := base) F_with_pair m_with_pair b_with_pair T c_less c_within
  have c_hp := ok_hp (P := l.prog) (w := w) (base := base) F_heap_of m_heap_of b_heap_of T
  have fn_paired := ok_paired (P := l.prog) (w := w) (base := base) F_paired T c_wp c_hp
  have c_paired := cal_fn (P := l.prog) (w := w) (base := base) F_paired fn_paired m_paired b_paired
  have c_rows := ok_rows (P := l.prog) (w := w) (base := base) F__law_rows m__law_rows b__law_rows T c_take
  have c_sums := ok_sums (P := l.prog) (w := w) (base := base) F__law_sums m__law_sums b__law_sums T
  have c_due := ok_due (P := l.prog) (w := w) (base := base) F__law_due m__law_due b__law_due T c_sums
  exact ok_law (P := l.prog) (w := w) (base := base) F_law T c_box c_take c_many c_rows c_paired c_same c_due
theorem walk {l : PySem.W.OpenLaw} {q : Program} {loose : List Str} {XP : (Str → Option Value) → Heap → Prop} {YP : World → Heap → Prop} {d : DefRec} {K : Params → PySem.W.Frag} (hn : l.most = some 63) (hdf : d.params.defaults = [])
    (hY : ∀ (w : World) (h : Heap), YP w h → (K w.params).In h)
    (F : ∀ (w : World) (mg : Str → Option Value) (fa : Addr) (h : Heap), (K w.params).In h → h.Ns mainGlobals mg → mg d.name = some (.ref fa) →
      ∃ fd : FuncData, (∀ (s : Shared) (u : Value), BindsTo s fd ⟨[u], []⟩ [("_law_script", u)]) ∧ ∀ base : Heap, (K w.params).In base → base.Ns mainGlobals mg → FnOk l.prog w (K w.params) mg base CX0 5 fa fd ["_law_script"] (sp_law (K w.params))) :
    PySem.W.WalkO q loose XP YP l.row.toRowW d [] (fun f vs => PySem.call f vs) :=
  L2.walk_of (n := 63) (k := 5) (x := "_law_script") (CX := fun _ => CX0) (sp := fun w => sp_law (K w.params)) hn (by decide) hdf ⟨rfl, by decide, by decide⟩ hY F (fun w H a ns hl hO hS => ⟨a, ns, rfl, hS, hl, fun _ => rfl⟩) fun _ _ _ _ _ z => z
end K10
open PySem PySem.W PyProof.Rows
set_option maxRecDepth 100000 in
set_option maxHeartbeats 0 in
theorem PySem.Challenge.cw_wantprices_k10_wants_of_pairs_holds : PySem.Challenge.rw_wantprices_k10_wants_of_pairs.Holds := by
  w_on; o_law; k_head; (case hw => w_witness2)
  k_fill
  refine K10.walk (l := PySem.Challenge.rw_wantprices_k10_wants_of_pairs) rfl rfl (fun w h Y => PySem.W.kIn_of Y) ?F
  case F =>
    intro w mg fa h KX G hmg
    refine' K10.all_mk KX G hmg ?a0 ?l0 ?c0 ?k0 ?a1 ?l1 ?c1 ?k1 ?a2 ?l2 ?c2 ?k2 ?a3 ?l3 ?c3 ?k3 ?a4 ?l4 ?c4 ?k4 ?a5 ?l5 ?c5 ?k5 ?a6 ?l6 ?c6 ?k6 ?a7 ?l7 ?c7 ?k7 ?a8 ?l8 ?c8 ?k8 ?a9 ?l9 ?c9 ?k9 ?a10 ?l10 ?c10 ?k10 ?a11 ?l11 ?c11 ?k11 ?a12 ?l12 ?c12 ?k12 ?z_len ?z_sum ?z_all ?z_abs ?z_max ?z_min ?z_range ?z_tuple ?z_int ?z_zip ?z_isinstance ?z_bool ?z_list
    (case a0 => k_is)
    (case l0 => k_is)
    (case c0 => k_is)
    (case k0 => k_is)
    (case a1 => k_is)
    (case l1 => k_is)
    (case c1 => k_is)
    (case k1 => k_is)
    (case a2 => k_is)
    (case l2 => k_is)
    (case c2 => k_is)
    (case k2 => k_is)
    (case a3 => k_is)
    (case l3 => k_is)
    (case c3 => k_is)
    (case k3 => k_is)
    (case a4 => k_is)
    (case l4 => k_is)
    (case c4 => k_is)
    (case k4 => k_is)
    (case a5 => k_is)
    (case l5 => k_is)
    (case c5 => k_is)
    (case k5 => k_is)
    (case a6 => k_is)
    (case l6 => k_is)
    (case c6 => k_is)
    (case k6 => k_is)
    (case a7 => k_is)
    (case l7 => k_is)
    (case c7 => k_is)
    (case k7 => k_is)
    (case a8 => k_is)
    (case l8 => k_is)
    (case c8 => k_is)
    (case k8 => k_is)
    (case a9 => k_is)
    (case l9 => k_is)
    (case c9 => k_is)
    (case k9 => k_is)
    (case a10 => k_is)
    (case l10 => k_is)
    (case c10 => k_is)
    (case k10 => k_is)
    (case a11 => k_is)
    (case l11 => k_is)
    (case c11 => k_is)
    (case k11 => k_is)
    (case a12 => k_is)
    (case l12 => k_is)
    (case c12 => k_is)
    (case k12 => k_is)
    (case z_len => k_is)
    (case z_sum => k_is)
    (case z_all => k_is)
    (case z_abs => k_is)
    (case z_max => k_is)
    (case z_min => k_is)
    (case z_range => k_is)
    (case z_tuple => k_is)
    (case z_int => k_is)
    (case z_zip => k_is)
    (case z_isinstance => k_is)
    (case z_bool => k_is)
    (case z_list => k_is)
end
